import PyProof.Rows.All
import Wide.All
import OpenK.AllK
import Wide.FinOn
import HandS.ForMost
import HandS.IsInst
import HandS.TupLe
import HandS.TupAny
import HandS.More
import HandS.Codes
import HandS.Conv
import HandS.Deep
import HandS.TupSets
import HandS.Style
import HandS.AnyAll
import HandS.GenList
import HandS.JoinGen
import HandS.Head0
import HandS.Head1
import HandS.Head2
import HandS.HeadEnd
import HandS.HeadHook1
import HandS.HeadHook2
import HandS.HeadHook3
import HandS.HeadHook4
import HandS.HeadWalk
import HandS.Defaults
import HandS.ReplaceLit
import PySem.Challenge.RW_glitchnet_k21_words_there_and_back
import HandS.Zip
set_option Elab.async false
set_option linter.all false
set_option maxRecDepth 100000
set_option maxHeartbeats 1000000
namespace Gk
open PySem PySem.Spec PyProof.Rows L2
/-! ### the text -/
def topS (i : Nat) : Stmt := PySem.Challenge.pw_glitchnet_k21_words_there_and_back.main.body.getD i (.Pass ⟨0, 0, 0, 0⟩)
abbrev s_choices_of : Stmt := topS 1
abbrev s_table_worth : Stmt := topS 2
abbrev s_pairs_of : Stmt := topS 4
abbrev s_gate_word : Stmt := topS 5
abbrev s_goes_fro : Stmt := topS 6
abbrev s_pair_by : Stmt := topS 7
abbrev s_words_of : Stmt := topS 9
abbrev s_deck : Stmt := topS 11
abbrev s_draw : Stmt := topS 12
abbrev s_table : Stmt := topS 13
abbrev s_shared : Stmt := topS 14
abbrev s_change : Stmt := topS 15
abbrev s_settled : Stmt := topS 16
abbrev s_more : Stmt := topS 17
abbrev s_right : Stmt := topS 18
abbrev s_law : Stmt := topS 19
theorem sc_choices_of : FnScope ["lists", "choices", "options", "choice", "option"] ["lists"] (defScope s_choices_of) := ⟨rfl, rfl, rfl, by decide +kernel, rfl, by decide +kernel, by decide +kernel⟩
theorem sc_table_worth : FnScope ["table", "worths", "place", "worth"] ["table", "worths"] (defScope s_table_worth) := ⟨rfl, rfl, rfl, by decide +kernel, rfl, by decide +kernel, by decide +kernel⟩
theorem sc_pairs_of : FnScope ["word", "first", "last", "fro"] ["word"] (defScope s_pairs_of) := ⟨rfl, rfl, rfl, by decide +kernel, rfl, by decide +kernel, by decide +kernel⟩
theorem sc_gate_word : FnScope ["table", "words", "first", "last", "word"] ["table", "words"] (defScope s_gate_word) := ⟨rfl, rfl, rfl, by decide +kernel, rfl, by decide +kernel, by decide +kernel⟩
theorem sc_goes_fro : FnScope ["table", "words", "first", "last", "pairs", "early", "late", "word"] ["table", "words", "first", "last"] (defScope s_goes_fro) := ⟨rfl, rfl, rfl, by decide +kernel, rfl, by decide +kernel, by decide +kernel⟩
theorem sc_pair_by : FnScope ["table", "pairs", "p", "q"] ["table", "pairs"] (defScope s_pair_by) := ⟨rfl, rfl, rfl, by decide +kernel, rfl, by decide +kernel, by decide +kernel⟩
theorem sc_words_of : FnScope ["net", "change", "a", "b", "words", "table", "ins", "before", "after", "wire"] ["net", "change"] (defScope s_words_of) := ⟨rfl, rfl, rfl, by decide +kernel, rfl, by decide +kernel, by decide +kernel⟩
theorem sc_deck : FnScope ["_law_script", "_law_cells", "_law_k", "_law_cell"] ["_law_script"] (defScope s_deck) := ⟨rfl, rfl, rfl, by decide +kernel, rfl, by decide +kernel, by decide +kernel⟩
theorem sc_draw : FnScope ["_law_deck_here", "_law_most", "_law_cell", "_law_number"] ["_law_deck_here", "_law_most"] (defScope s_draw) := ⟨rfl, rfl, rfl, by decide +kernel, rfl, by decide +kernel, by decide +kernel⟩
theorem sc_table : FnScope ["_law_deck_here", "_law_ins", "_law_way", "_law_some", "_law_k"] ["_law_deck_here", "_law_ins"] (defScope s_table) := ⟨rfl, rfl, rfl, by decide +kernel, rfl, by decide +kernel, by decide +kernel⟩
theorem sc_shared : FnScope ["_law_deck_here", "_law_many", "_law_count", "_law_gates", "_law_k", "_law_ins", "_law_place", "_law_way"] ["_law_deck_here", "_law_many", "_law_count"] (defScope s_shared) := ⟨rfl, rfl, rfl, by decide +kernel, rfl, by decide +kernel, by decide +kernel⟩
theorem sc_change : FnScope ["_law_deck_here", "_law_many", "_law_way", "_law_one", "_law_other", "_law_at", "_law_k", "_law_worth"] ["_law_deck_here", "_law_many"] (defScope s_change) := ⟨rfl, rfl, rfl, by decide +kernel, rfl, by decide +kernel, by decide +kernel⟩
theorem sc_settled : FnScope ["_law_net", "_law_row", "_law_worths", "_law_table_here", "_law_ins", "_law_number", "_law_wire"] ["_law_net", "_law_row"] (defScope s_settled) := ⟨rfl, rfl, rfl, by decide +kernel, rfl, by decide +kernel, by decide +kernel⟩
theorem sc_more : FnScope ["_law_net", "_law_at", "_law_many", "_law_gates", "_law_found", "_law_table_here", "_law_ins", "_law_wire"] ["_law_net", "_law_at"] (defScope s_more) := ⟨rfl, rfl, rfl, by decide +kernel, rfl, by decide +kernel, by decide +kernel⟩
theorem sc_right : FnScope ["_law_deck_here", "_law_net", "_law_change_here", "_law_many", "_law_gates", "_law_one", "_law_other", "_law_words", "_law_cut", "_law_about", "_law_first", "_law_last", "_law_fro", "_law_due", "_law_at", "_law_more_here", "_law_word", "_law_worth"] ["_law_deck_here", "_law_net", "_law_change_here"] (defScope s_right) := ⟨rfl, rfl, rfl, by decide +kernel, rfl, by decide +kernel, by decide +kernel⟩
theorem sc_law : FnScope ["_law_script", "_law_deck_here", "_law_turn", "_law_count", "_law_many"] ["_law_script"] (defScope s_law) := ⟨rfl, rfl, rfl, by decide +kernel, rfl, by decide +kernel, by decide +kernel⟩
structure Tx (K : PySem.W.Frag) (mg : Str → Option Value) where
  f_choices_of : Addr
  fd_choices_of : FuncData
  F_choices_of : Fun K "choices_of" "choices_of" s_choices_of f_choices_of fd_choices_of
  g_choices_of : mg "choices_of" = some (.ref f_choices_of)
  b_choices_of : Binds K fd_choices_of ["lists"] []
  f_table_worth : Addr
  fd_table_worth : FuncData
  F_table_worth : Fun K "table_worth" "table_worth" s_table_worth f_table_worth fd_table_worth
  g_table_worth : mg "table_worth" = some (.ref f_table_worth)
  b_table_worth : Binds K fd_table_worth ["table", "worths"] []
  f_pairs_of : Addr
  fd_pairs_of : FuncData
  F_pairs_of : Fun K "pairs_of" "pairs_of" s_pairs_of f_pairs_of fd_pairs_of
  g_pairs_of : mg "pairs_of" = some (.ref f_pairs_of)
  b_pairs_of : Binds K fd_pairs_of ["word"] []
  f_gate_word : Addr
  fd_gate_word : FuncData
  F_gate_word : Fun K "gate_word" "gate_word" s_gate_word f_gate_word fd_gate_word
  g_gate_word : mg "gate_word" = some (.ref f_gate_word)
  b_gate_word : Binds K fd_gate_word ["table", "words"] []
  f_goes_fro : Addr
  fd_goes_fro : FuncData
  F_goes_fro : Fun K "goes_fro" "goes_fro" s_goes_fro f_goes_fro fd_goes_fro
  g_goes_fro : mg "goes_fro" = some (.ref f_goes_fro)
  b_goes_fro : Binds K fd_goes_fro ["table", "words", "first", "last"] []
  f_pair_by : Addr
  fd_pair_by : FuncData
  F_pair_by : Fun K "pair_by" "pair_by" s_pair_by f_pair_by fd_pair_by
  g_pair_by : mg "pair_by" = some (.ref f_pair_by)
  b_pair_by : Binds K fd_pair_by ["table", "pairs"] []
  f_words_of : Addr
  fd_words_of : FuncData
  F_words_of : Fun K "words_of" "words_of" s_words_of f_words_of fd_words_of
  g_words_of : mg "words_of" = some (.ref f_words_of)
  b_words_of : Binds K fd_words_of ["net", "change"] []
  c_words_of : Addr
  P_words_of : Addr
  cd_words_of : fd_words_of.code = .ref c_words_of
  f_deck : Addr
  fd_deck : FuncData
  F_deck : Fun K "_law_deck" "_law_deck" s_deck f_deck fd_deck
  g_deck : mg "_law_deck" = some (.ref f_deck)
  b_deck : Binds K fd_deck ["_law_script"] []
  f_draw : Addr
  fd_draw : FuncData
  F_draw : Fun K "_law_draw" "_law_draw" s_draw f_draw fd_draw
  g_draw : mg "_law_draw" = some (.ref f_draw)
  b_draw : Binds K fd_draw ["_law_deck_here", "_law_most"] []
  f_table : Addr
  fd_table : FuncData
  F_table : Fun K "_law_table" "_law_table" s_table f_table fd_table
  g_table : mg "_law_table" = some (.ref f_table)
  b_table : Binds K fd_table ["_law_deck_here", "_law_ins"] []
  f_shared : Addr
  fd_shared : FuncData
  F_shared : Fun K "_law_shared" "_law_shared" s_shared f_shared fd_shared
  g_shared : mg "_law_shared" = some (.ref f_shared)
  b_shared : Binds K fd_shared ["_law_deck_here", "_law_many", "_law_count"] []
  f_change : Addr
  fd_change : FuncData
  F_change : Fun K "_law_change" "_law_change" s_change f_change fd_change
  g_change : mg "_law_change" = some (.ref f_change)
  b_change : Binds K fd_change ["_law_deck_here", "_law_many"] []
  f_settled : Addr
  fd_settled : FuncData
  F_settled : Fun K "_law_settled" "_law_settled" s_settled f_settled fd_settled
  g_settled : mg "_law_settled" = some (.ref f_settled)
  b_settled : Binds K fd_settled ["_law_net", "_law_row"] []
  f_more : Addr
  fd_more : FuncData
  F_more : Fun K "_law_more" "_law_more" s_more f_more fd_more
  g_more : mg "_law_more" = some (.ref f_more)
  b_more : Binds K fd_more ["_law_net", "_law_at"] []
  f_right : Addr
  fd_right : FuncData
  F_right : Fun K "_law_right" "_law_right" s_right f_right fd_right
  g_right : mg "_law_right" = some (.ref f_right)
  b_right : Binds K fd_right ["_law_deck_here", "_law_net", "_law_change_here"] []
  f_law : Addr
  fd_law : FuncData
  F_law : Fun K "law" "law" s_law f_law fd_law
  g_law : mg "law" = some (.ref f_law)
  b_law : Binds K fd_law ["_law_script"] []
  m_enumerate : mg "enumerate" = none
  m_int : mg "int" = none
  m_len : mg "len" = none
  m_list : mg "list" = none
  m_max : mg "max" = none
  m_range : mg "range" = none
  m_set : mg "set" = none
  m_sorted : mg "sorted" = none
  m_str : mg "str" = none
  m_sum : mg "sum" = none
  m_tuple : mg "tuple" = none
  m_zip : mg "zip" = none
structure Tb (base : Heap) {K : PySem.W.Frag} {mg : Str → Option Value} (T : Tx K mg) : Prop where
  TB_words_of : GxR.TabB base mg T.c_words_of T.P_words_of
def Tx.tabs {K : PySem.W.Frag} {mg : Str → Option Value} (T : Tx K mg) : List Addr := [T.P_words_of]
/-! ### generator expressions whose elements may call -/
theorem inv_moved {X : Cx} {cp : List (Addr × Obj)} {σ : L2.St} {H : Hp} {s s' : Shared} (I : Inv X cp σ H s) (os : s'.os = s.os) (bare : AllBare s'.gens) (k : ∀ b o, s.heap.get? b = some o → s'.heap.get? b = some o) : Inv X cp σ H s' :=
  I.call' (ch := []) os (Un.kept k) (I.hok.kept k) bare fun b hb => absurd hb (by simp)
/-- the context of a generator expression's frame: C its frame, s, H the entry, fp its iterator's objects -/
abbrev gblk (X : Cx) (A : Around) (s : Shared) (H : Hp) (cenv : Env) (fp : List Addr) : Cx :=
  { X with A := A, s_0 := s, H_0 := H, env := cenv, outer := X.stack, stack := cenv :: X.stack, ex := fp, fn := fun _ => false, pn := [], xe := fun _ _ => False }
section
variable {X : Cx} {pins : List (Addr × Obj)} {σ : L2.St} {H : Hp} {s : Shared}
theorem gen_start {scope : Scope} {own : List (Str × Nat)} {fp : List Addr} {A : Around} {code it : Value} {s5 : Shared} {cp : List (Addr × Obj)}
    (I : Inv X pins σ H s) (ok : BlkOk X.N X.env.scope scope own) (nocell : ∀ y ∈ scope.names, y.2 ≠ .cell) (hN : X.N.Nodup) (hfp : ∀ b ∈ fp, FpOk X pins H b ∧ b < s.heap.objs.size)
    (hh : A.handled = none) (hfr : A.frames = some (genEnv scope (cloFrom X.env.cells scope.names []) s.heap.objs.size code builtinsNs X.env :: X.stack))
    (os : s5.os = s.os) (bare : AllBare s5.gens) (kp : ∀ b o, s.heap.get? b = some o → s5.heap.get? b = some o)
    (hns : s5.heap.Ns s.heap.objs.size fun y => if y = ".0" then some it else none)
    (hcp : ∀ p ∈ cp, s.heap.objs.size < p.1 ∧ s5.heap.get? p.1 = some p.2 ∧ ∀ v, p.2.data ≠ .cell v) :
    Inv (gblk X A s H (genEnv scope (cloFrom X.env.cells scope.names []) s.heap.objs.size code builtinsNs X.env) fp) cp (wipe σ (own.map (·.2))) H s5 := by
  have hfree : ∀ y ∈ scope.names, y.2 = .free → ∃ c, X.env.cells.lookup y.1 = some c := fun y hy e => by
    rcases ok.free y hy e with k | k
    · exact I.ok.has _ (.inl k)
    · exact I.ok.has _ (.inr k)
  generalize hcenv : genEnv scope (cloFrom X.env.cells scope.names []) s.heap.objs.size code builtinsNs X.env = cenv at hfr ⊢
  have hL : cenv.locals = s.heap.objs.size := by rw [← hcenv]; rfl
  have hcl : cenv.cells = cloFrom X.env.cells scope.names [] := by rw [← hcenv]; rfl
  have hsc : cenv.scope = scope := by rw [← hcenv]; rfl
  have cm : ∀ {y c}, (y, c) ∈ cloFrom X.env.cells scope.names [] → X.env.cells.lookup y = some c ∧ c < s.heap.objs.size := fun {y c} hm => by
    rcases cloFrom_mem hm with hm | ⟨h1, rfl⟩
    · cases hm
    · obtain ⟨c, hc⟩ := hfree _ h1 rfl
      rw [hc]
      obtain ⟨w, z⟩ := I.cell _ _ hc
      exact ⟨rfl, z.lt⟩
  have mem : ∀ {y c}, cenv.cells.lookup y = some c → X.env.cells.lookup y = some c ∧ c < s.heap.objs.size := fun {y c} e => by
    rw [hcl] at e
    exact cm (PySem.mem_of_lookup e)
  have look : ∀ {y}, scope.names.lookup y = some .free → ∃ c, cenv.cells.lookup y = some c ∧ X.env.cells.lookup y = some c := fun {y} hl => by
    have hy : (y, NameKind.free) ∈ scope.names := PySem.mem_of_lookup hl
    obtain ⟨c', e'⟩ := mem_lookup (cloFrom_has (cells := X.env.cells) (acc := []) hy)
    rw [← hcl] at e'
    exact ⟨c', e', (mem e').1⟩
  have okB : (gblk X A s H cenv fp).Ok := by
    refine ⟨I.ok.mod, by show cenv.scope.kind = _; rw [hsc]; exact ok.kind, by show cenv.globals = _; rw [← hcenv]; exact I.ok.glob, by show cenv.builtins = _; rw [← hcenv]; rfl, by show s.heap.objs.size ≤ cenv.locals; rw [hL]; exact Nat.le_refl _,
      fun y z c e1 e2 => I.ok.inj y z c (mem e1).1 (mem e2).1, fun y hy => ?_, fun y c z e => (by cases z), fun _ => hh, hfr, .inr ⟨rfl, by show cenv.frame = some cenv.locals; rw [← hcenv]; rfl⟩, fun b hb => ⟨?_, fun y c e z => ?_⟩, I.bs, Nat.le_trans I.ok.bsz I.sz, fun b o e hb => ?_, fun b hb z => ?_, I.stack, I.stkFree⟩
    · have hy' : scope.names.lookup y = some .cell ∨ scope.names.lookup y = some .free := by
        rw [← hsc]
        exact hy
      rcases hy' with e | e
      · exact absurd rfl (nocell _ (PySem.mem_of_lookup e))
      · obtain ⟨c, h1, _⟩ := look e
        exact ⟨c, h1⟩
    · show b ≠ cenv.locals
      rw [hL]; exact Nat.ne_of_lt (hfp b hb).2
    · exact (hfp b hb).1.2.2.2.2.1 y c (mem e).1 z
    · rcases (hfp b hb).1.2.2.2.1 with z | z
      · exact I.ok.noex b o e z
      · exact absurd (Nat.lt_of_lt_of_le (Heap.lt_size e) (Nat.le_trans I.ok.bsz z)) (Nat.lt_irrefl _)
    · rcases List.mem_cons.mp (I.stkSub b z) with z | z
      · exact (hfp b hb).1.2.1 z
      · exact (hfp b hb).1.2.2.1 z
  refine ⟨okB, os, bare, Un.kept kp, ⟨_, (by show s5.heap.Ns cenv.locals _; rw [hL]; exact hns), fun i y av e1 e2 e3 => ?_⟩, fun y c e => ?_, ?_, fun y c e => I.freeC y c (mem e).1, fun p hp => ?_, I.hok.kept kp, by rw [wipe_length]; exact I.len⟩
  · obtain ⟨e2, hne⟩ := wipe_some e2
    have e3 : Vis scope y := by rw [← hsc]; exact e3
    have no : ∀ k, scope.names.lookup y = some k → ¬ (k = .local ∨ k = .cell) := fun k e hh => by
      rcases ok.own _ (PySem.mem_of_lookup e) hh with e' | e'
      · obtain ⟨p, hp, hpy⟩ := List.mem_map.mp e'
        have e3 := ok.ix p hp
        have : p.1 = y := hpy
        rw [this] at e3
        exact hne (List.mem_map.mpr ⟨p, hp, nodup_ix hN e3 e1⟩)
      · exact e' (List.mem_of_getElem? e1)
    have hfr2 : scope.names.lookup y = some .free := by
      rcases e3 with e | e | e
      · exact absurd (.inl rfl) (no _ e)
      · exact absurd (.inr rfl) (no _ e)
      · exact e
    obtain ⟨m, hn, hl⟩ := I.loc
    have hvis : Vis X.env.scope y := (ok.free _ (PySem.mem_of_lookup hfr2) rfl).elim (fun k => .inr (.inl k)) (fun k => .inr (.inr k))
    obtain ⟨w, r, q⟩ := hl i y av e1 e2 hvis
    refine ⟨w, r, .inr ⟨.inr (by show cenv.scope.names.lookup y = some .free; rw [hsc]; exact hfr2), ?_⟩⟩
    obtain ⟨c, h1, h2⟩ := look hfr2
    rcases q with ⟨k, _⟩ | ⟨_, c', e', z⟩
    · have k : X.env.scope.names.lookup y = some .local := k
      rcases ok.free _ (PySem.mem_of_lookup hfr2) rfl with k' | k' <;> rw [show X.env.scope.names.lookup y = _ from k'] at k <;> cases k
    · rw [h2] at e'; cases e'
      exact ⟨c, h1, z.keeps kp⟩
  · obtain ⟨w, z⟩ := I.cell y c (mem e).1
    exact ⟨w, z.keeps kp⟩
  · show H cenv.locals = none
    rw [hL]; exact I.hok.fresh (Nat.le_refl _)
  · have hp : p ∈ cp := by simpa using hp
    obtain ⟨h1, h2, h3⟩ := hcp p hp
    refine ⟨h2, I.hok.fresh (Nat.le_of_lt h1), by show p.1 ≠ cenv.locals; rw [hL]; exact Nat.ne_of_gt h1, fun z => ?_, h3⟩
    rcases List.mem_cons.mp (I.stkSub _ z) with z | z
    · exact absurd (Nat.lt_trans I.lt h1) (by rw [z]; exact Nat.lt_irrefl _)
    · exact I.nofs (Nat.le_of_lt h1) z
end
/-! ### the talk of a generator and who asks it -/
section
variable {α : Type}
/-- handed out: x; the asker's state a (laid down in the pins cp) goes to one with Nx -/
def YG (Xg : Cx) (fp : List Addr) (tn : Nat → Heap → Prop) (AC : α → List (Addr × Obj) → Prop) (Yd : α → V → Hp → (α → Hp → Prop) → Prop) : Protocol := fun _ _ v s kap =>
  ∃ (a : α) (x : V) (σ : L2.St) (H : Hp) (i : Nat) (cp : List (Addr × Obj)) (Nx : α → Hp → Prop), RelV x v ∧ AC a cp ∧ Inv Xg cp σ H s ∧ tn i s.heap ∧ (∀ b ∈ fp, H b = none) ∧ Yd a x H Nx ∧
    ∀ a' cp' s', Nx a' H → AC a' cp' → Inv Xg cp' σ H s' → tn i s'.heap → kap (.send .none) s'
def RG (Xg : Cx) (AC : α → List (Addr × Obj) → Prop) (End : α → Hp → Prop) : GenEnd := fun _ _ r s =>
  ((r = .ok (.ret .none) ∨ r = .ok .next) ∧ ∃ (a : α) (σ : L2.St) (H : Hp) (cp : List (Addr × Obj)), AC a cp ∧ Inv Xg cp σ H s ∧ End a H) ∨ ∃ e, r = .error e ∧ False
/-- a generator's turns -/
def tGx (J : It) (g : TG) (tt : TT) (te : TE) (σ0 : L2.St) (vs : List Nat) (End : α → Hp → Prop) (Yd : α → V → Hp → (α → Hp → Prop) → Prop) (W : Nat → Nat → α → Hp → Prop) : Prop :=
  ∀ i m a H, W i m a H → (J.stop i H ∧ End a H) ∨ (J.go i H ∧ ∃ Nx : α → Hp → Prop, (∀ a' H', Nx a' H' → ∃ m', m' < m ∧ W (i + 1) m' a' H') ∧
    ∀ x H', J.yld i H x H' → g x σ0 H' fun σ2 H2 => wipe σ2 vs = σ0 ∧ tt σ2 H2 fun b H3 => if b = true then te σ2 H3 fun y H4 => Yd a y H4 Nx else Nx a H3)
theorem wipe_wipe_some {σ σ2 : L2.St} {vs : List Nat} (h : wipe σ2 vs = σ) : ∀ (j : Nat) v, σ[j]? = some (some v) → σ2[j]? = some (some v) := fun j v e => by
  rw [← h] at e
  exact (wipe_some e).1
theorem seg_gx {X : Cx} {A A' : Around} {s_0 : Shared} {H_0 : Hp} {elt tg iter : Expr} {ifs : List Expr} {scope : Scope} {pos : Pos} {it : Addr} {fp : List Addr} {tn : Nat → Heap → Prop} {J : It} {cenv : Env} {g : TG} {tt : TT} {te : TE} {σ0 : L2.St} {vs : List Nat}
    {AC : α → List (Addr × Obj) → Prop} {End : α → Hp → Prop} {Yd : α → V → Hp → (α → Hp → Prop) → Prop} {W : Nat → Nat → α → Hp → Prop}
    (hA : A.over (.compLoop (.GeneratorExp elt [⟨tg, iter, ifs, 0⟩] scope pos) 0 (.ref it) .none cenv) [] = A') (hc : X.calm = true) (hco : cenv.scope.isCoroutine = false)
    (T : Turn X.prog X.w X.K tg J fp it tn) (pg : PG (gblk X A' s_0 H_0 cenv fp) tg g) (pt : PTs (gblk X A' s_0 H_0 cenv fp) ifs tt) (pe : PE (gblk X A' s_0 H_0 cenv fp) elt te)
    (hAC : ∀ a cp, AC a cp → ∀ p ∈ cp, ∀ b ∈ fp, p.1 ≠ b) (turn : tGx J g tt te σ0 vs End Yd W) :
    ∀ (m n i : Nat) (a : α) (H : Hp) (s₀ s : Shared) (cp : List (Addr × Obj)), m < n → W i m a H → AC a cp → Inv (gblk X A' s_0 H_0 cenv fp) cp σ0 H s → tn i s.heap → (∀ b ∈ fp, H b = none) →
      Seg (model X.prog X.w) A (RG (gblk X A' s_0 H_0 cenv fp) AC End) (YG (gblk X A' s_0 H_0 cenv fp) fp tn AC Yd) n s₀
        (.compLoop (.GeneratorExp elt [⟨tg, iter, ifs, 0⟩] scope pos) 0 (.ref it) .none cenv)
        ((model X.prog X.w).den (.compLoop (.GeneratorExp elt [⟨tg, iter, ifs, 0⟩] scope pos) 0 (.ref it) .none cenv)) [] s := by
  have stat : ∀ {a : α} {cp : List (Addr × Obj)} {σ' : L2.St} {H' : Hp} {s' : Shared}, AC a cp → Inv (gblk X A' s_0 H_0 cenv fp) cp σ' H' s' → (∀ b ∈ fp, H' b = none) → ∀ b ∈ fp, FpOk (gblk X A' s_0 H_0 cenv fp) cp H' b := fun {a cp σ' H' s'} hac I' hn b hb =>
    ⟨hn b hb, (I'.ok.exf b hb).1, I'.ok.exfs b hb, .inl hb, fun x c e => (I'.ok.exf b hb).2 x c e, fun p hp => hAC a cp hac p (by simpa using hp) b hb⟩
  intro m
  induction m using Nat.strongRecOn with
  | ind m ih =>
    intro n i a H s₀ s cp hmn w hac I st nf
    show Seg _ A _ _ _ s₀ _ ((compTurn (.GeneratorExp elt [⟨tg, iter, ifs, 0⟩] scope pos) 0 (.ref it) .none cenv).onRaise (leaving cenv)) [] s
    rw [compTurn_gen, Sem.onRaise_eq_wrap]
    refine seg_bind_wrap (wpAny_standAt ?_)
    rcases turn i m a H w with ⟨stop, hend⟩ | ⟨go, Nx, hNx, step⟩
    · refine seg_bind_wrap ?_
      rw [hA]
      refine thnF (T.done (gblk X A' s_0 H_0 cenv fp) rfl rfl rfl hc i cp s σ0 H (fun _ _ => False) I (stat hac I nf) st stop) fun r s1 ⟨hr, I1⟩ => ?_
      subst hr
      exact seg_end (.ok .next) (.inl ⟨.inr rfl, a, _, H, cp, hac, I1, hend⟩)
    · refine seg_bind_wrap ?_
      rw [hA]
      refine thnF (T.item (gblk X A' s_0 H_0 cenv fp) rfl rfl rfl hc i cp s σ0 H (fun _ _ => False) I (stat hac I nf) st go) fun r s1 ⟨u, hr, h1⟩ => ?_
      subst hr
      refine seg_bind_wrap ?_
      rw [hA]
      refine thnF h1 fun _ s2 ⟨x, H2, I2, r2, y2, st2, n2⟩ => ?_
      have I2' := I2.pinned (stat hac I2 n2) (T.obj _ _ st2)
      refine seg_bind_wrap ?_
      rw [hA]
      refine thnF (pg.run _ s2 _ H2 x u _ I2' r2 (step x H2 y2)) fun _ s3 ⟨σ3, H3, I3, hw3, q3⟩ => ?_
      refine seg_bind_wrap ?_
      rw [hA]
      refine thnF (pt.run _ s3 σ3 H3 _ I3 q3) fun b s4 ⟨H4, I4, q4⟩ => ?_
      have hl : σ0.length = σ3.length := by rw [← hw3, wipe_length]
      have fin : ∀ {s' : Shared} {H' : Hp}, Inv (gblk X A' s_0 H_0 cenv fp) (cp ++ pinsAt fp s2.heap) σ3 H' s' → Inv (gblk X A' s_0 H_0 cenv fp) cp σ0 H' s' ∧ tn (i + 1) s'.heap ∧ ∀ b ∈ fp, H' b = none := fun {s' H'} I' => by
        have pin' : ∀ b ∈ fp, ∀ o, s2.heap.get? b = some o → s'.heap.get? b = some o ∧ H' b = none := fun b hb o e =>
          let z := I'.pin (b, o) (List.mem_append_right _ (List.mem_append_right _ (mem_pinsAt hb e)))
          ⟨z.1, z.2.1⟩
        refine ⟨(I'.unpinned (pins := cp)).weak hl (wipe_wipe_some hw3), T.keep _ _ _ st2 fun b hb o e => (pin' b hb o e).1, fun b hb => ?_⟩
        obtain ⟨o, e, _⟩ := T.obj _ _ st2 b hb
        exact (pin' b hb o e).2
      cases b with
      | false =>
        simp only [Bool.false_eq_true, if_false] at q4 ⊢
        obtain ⟨m', hm, w'⟩ := hNx a H4 q4
        obtain ⟨J1, J2, J3⟩ := fin I4
        exact seg_again rfl (ih m' hm n (i + 1) a H4 s₀ s4 cp (by omega) w' hac J1 J2 J3)
      | true =>
        simp only [if_true] at q4 ⊢
        have hy : ∀ v, yieldOut cenv v = yieldValue v := fun v => by simp only [yieldOut, hco, Bool.false_eq_true, if_false]
        simp only [hy]
        rw [Sem.bind_eq_wrap', Sem.bind_eq_wrap', Sem.wrap_wrap, Sem.wrap_wrap]
        refine seg_wrap ?_
        rw [hA]
        refine thnF (pe.run _ s4 σ3 H4 _ I4 q4) fun yv s5 ⟨y, H5, I5, r5, q5⟩ => ?_
        obtain ⟨J1, J2, J3⟩ := fin I5
        -- at least one more
        cases n with
        | zero => exact absurd hmn (Nat.not_lt_zero _)
        | succ n =>
          refine seg_at (seg_yield rfl rfl rfl ⟨a, y, σ0, H5, i + 1, cp, Nx, r5, hac, J1, J2, J3, q5, fun a' cp' s' nx hac' I' st' => ?_⟩)
          obtain ⟨m', hm, w'⟩ := hNx a' H5 nx
          exact seg_again rfl (ih m' hm n (i + 1) a' H5 s' s' cp' (by omega) w' hac' I' st' J3)
end
/-! ### a generator that is made -/
section
variable {X : Cx} {pins : List (Addr × Obj)} {σ : L2.St} {H : Hp} {s : Shared}
def GenObj (o : Obj) (g : Nat) : Prop := ∃ nm qn, o.cls = .type "generator" ∧ o.data = .fields #[.int g 0, nm, qn] ∧ o.slots = #[]
theorem GenObj.isGen {o : Obj} {g : Nat} (h : GenObj o g) {a : Addr} {hp : Heap} (e : hp.get? a = some o) : hp.IsGen a g := by
  obtain ⟨nm, qn, h1, h2, h3⟩ := h
  exact ⟨o, nm, qn, e, h1, h2, h3⟩
/-- the generator u, made and not begun, in the state s5 -/
def Gx (X : Cx) (pins : List (Addr × Obj)) (σ : L2.St) (A : Around) (J : It) (g : TG) (tt : TT) (te : TE) (vs : List Nat) (H4 : Hp) (u : Value) (s5 : Shared) : Prop :=
  ∃ (A' : Around) (s_0 : Shared) (H_0 : Hp) (cenv : Env) (fp : List Addr) (ga : Addr) (gn : Nat) (go : Obj) (tn : Nat → Heap → Prop) (gs : GenState),
    u = .ref ga ∧ GenObj go gn ∧ s5.gens[gn]? = some gs ∧ gs.bare = true ∧ Inv (gblk X A' s_0 H_0 cenv fp) [(ga, go)] (wipe σ vs) H4 s5 ∧ tn 0 s5.heap ∧ (∀ b ∈ fp, H4 b = none) ∧ (∀ b ∈ fp, b < ga) ∧
    (∀ i h h', tn i h → (∀ b ∈ fp, ∀ o, h.get? b = some o → h'.get? b = some o) → tn i h') ∧ (∀ cp σ' H' s', Inv (gblk X A' s_0 H_0 cenv fp) cp σ' H' s' → Inv X pins σ H' s') ∧
    ∀ (α : Type) (AC : α → List (Addr × Obj) → Prop) (End : α → Hp → Prop) (Yd : α → V → Hp → (α → Hp → Prop) → Prop) (W : Nat → Nat → α → Hp → Prop) (m n : Nat) (a : α) (cp : List (Addr × Obj)) (s' : Shared),
      tGx J g tt te (wipe σ vs) vs End Yd W → W 0 m a H4 → m < n → (∀ a cp, AC a cp → ∀ p ∈ cp, ∀ b ∈ fp, p.1 ≠ b) → AC a cp → Inv (gblk X A' s_0 H_0 cenv fp) cp (wipe σ vs) H4 s' → tn 0 s'.heap →
      gs.Goes (model X.prog X.w) A (RG (gblk X A' s_0 H_0 cenv fp) AC End) (YG (gblk X A' s_0 H_0 cenv fp) fp tn AC Yd) n (.send .none) s'
/-- what stands about an asker -/
structure Near (A B : Around) : Prop where
  hd : B.handled = A.handled
  fr : B.frames = A.frames
  gd : B.guards = A.guards
  dp : B.depth = A.depth
  un : B.units ≤ A.units + 8
theorem gx_make {c P : Addr} {elt tg iter : Expr} {ifs : List Expr} {gpos : Pos} {scope : Scope} {own : List (Str × Nat)} {wi : TI} {g : TG} {tt : TT} {te : TE} {k : Nat} {Q' : Value → Shared → Prop} {R : It → Hp → Prop} {A : Around}
    (hr : Room (k + 1) X.A) (near : Near X.A A) (hc : X.calm = true) (hN : X.N.Nodup) (TB : GxR.TabB X.base X.mg c P) (hcode : X.env.code = .ref c) (hco : scope.isCoroutine = false) (hdot : scope.names.lookup (".0" : Str) = some NameKind.local)
    (nocell : ∀ y ∈ scope.names, y.2 ≠ .cell) (ok : BlkOk X.N X.env.scope scope own) (hi : PI X tg iter wi)
    (hg : ∀ (A' : Around) (s : Shared) (H : Hp) (C : Addr) (cl : List (Str × Addr)) (code : Value) (fp : List Addr), Room k A' → A'.guards = X.A.guards → PG (gblk X A' s H (genEnv scope cl C code builtinsNs X.env) fp) tg g)
    (ht : ∀ (A' : Around) (s : Shared) (H : Hp) (C : Addr) (cl : List (Str × Addr)) (code : Value) (fp : List Addr), Room k A' → A'.guards = X.A.guards → PTs (gblk X A' s H (genEnv scope cl C code builtinsNs X.env) fp) ifs tt)
    (he : ∀ (A' : Around) (s : Shared) (H : Hp) (C : Addr) (cl : List (Str × Addr)) (code : Value) (fp : List Addr), Room k A' → A'.guards = X.A.guards → PE (gblk X A' s H (genEnv scope cl C code builtinsNs X.env) fp) elt te)
    (hs : ∀ v, genFold iter X.env v = pure v) (I : Inv X pins σ H s) (h : wi σ H fun J H1 => GxR.TabG H1 P ∧ R J H1)
    (hQ : ∀ J H1 H2 u s5, R J H1 → GxR.Tabbed P H1 H2 → Gx X pins σ A J g tt te (own.map (·.2)) H2 u s5 → Q' u s5) :
    wpAny (model X.prog X.w) X.A (eval (.GeneratorExp elt [⟨tg, iter, ifs, 0⟩] scope gpos) X.env) Q' X.xe s := by
  have hfree : ∀ y ∈ scope.names, y.2 = .free → ∃ c, X.env.cells.lookup y.1 = some c := fun y hy e => by
    rcases ok.free y hy e with k | k
    · exact I.ok.has _ (.inl k)
    · exact I.ok.has _ (.inr k)
  refine wpAny_GeneratorExp_make hco (closure_ok hfree) nocell hdot ok.kind (by have := hr.dp; omega) ?_ hs
  refine thn (hi.run pins s σ H _ I h) fun xv s1 hx => thn hx fun itv s2 h2 => ?_
  obtain ⟨it, fp, tn, J, H2, rfl, I2, T, st2, f2, ⟨ps, hP, ht3⟩, q⟩ := h2
  refine ⟨I2.nolimit, ?_⟩
  have hPs : s2.heap.get? P = some { cls := .none, data := .fields ps } := I2.hok P _ hP
  have cd : PySem.W.CodeHd s2.heap c P := TB.code.keeps fun b u e => I2.bk b u e
  have nP : ∀ b, H2 b = none → b ≠ P := fun b e z => by
    rw [z, hP] at e
    cases e
  have cont : ∀ (code : Value) (h3 : Heap) (tk : Nat) (ps' : Array Value), Heap.ExtBut P s2.heap h3 → s2.heap.objs.size ≤ h3.objs.size → h3.get? P = some { cls := .none, data := .fields ps' } → (∃ more, ps' = ps ++ more) → TriplesOk ps'.toList →
      wpAny (model X.prog X.w) X.A (builtinsFor X.env.globals X.env.builtins) (fun bi s₄ =>
        ∀ h', h'.Ns s₄.heap.objs.size (fun y => if y = ".0" then some (Value.ref it) else none) → Heap.SameBut s₄.heap.objs.size (s₄.heap.push { cls := .type "frame", data := .dict #[] }) h' →
          Q' (.ref h'.objs.size) { s₄ with
            gens := s₄.gens.push (.fresh (.compStart (.GeneratorExp elt [⟨tg, iter, ifs, 0⟩] scope gpos) 0 (.ref it) .none (genEnv scope (cloFrom X.env.cells scope.names []) s₄.heap.objs.size code bi X.env))),
            toks := s₄.toks + 1 + 1 + 1,
            heap := h'.push { cls := .type "generator", data := .fields #[.int s₄.gens.size 0, .str "<genexpr>" (s₄.toks + 1), .str (X.env.qual ++ "<genexpr>") (s₄.toks + 1 + 1)] } }) X.xe { s2 with heap := h3, toks := tk } := by
    rintro code h3 tk ps' hx hsz hP3 ⟨more, rfl⟩ ht4
    obtain ⟨bm, ob, e1, e2, e3, e4, e5, e6, e7, e8⟩ := TB.bm
    refine wpAny_builtinsFor (m := X.mg) (by rw [I2.ok.glob]; exact (I2.mod.glob.keeps I2.bk).extBut hx TB.gP) e1 e2 (hx _ _ e4 (I2.bk _ _ e5)) e6 e7 e8 ?_
    intro h' hns hsb
    have I3 : Inv X pins σ (upd H2 P (.tbl (ps ++ more))) { s2 with heap := h3, toks := tk } := GxR.inv_tab (g' := s2.gens) (d' := s2.drawn) I2 hP (fun b o hb e => hx b o hb e) hP3 I2.bare
    have lt2 : ∀ b ∈ fp, b < s2.heap.objs.size := fun b hb => by
      obtain ⟨o, e, _⟩ := T.obj _ _ st2 b hb
      exact Heap.lt_size e
    have f3 : ∀ b ∈ fp, FpOk X pins (upd H2 P (.tbl (ps ++ more))) b ∧ b < ({ s2 with heap := h3, toks := tk } : Shared).heap.objs.size := fun b hb => by
      refine ⟨⟨?_, (f2 b hb).2⟩, Nat.lt_of_lt_of_le (lt2 b hb) hsz⟩
      rw [upd_ne (nP b (f2 b hb).1)]
      exact (f2 b hb).1
    have st3 : tn 0 h3 := T.keep _ _ _ st2 fun b hb o e => hx b o (nP b (f2 b hb).1) e
    generalize hs4 : ({ s2 with heap := h3, toks := tk } : Shared) = s4 at I3 f3 hns hsb ⊢
    have h4 : s4.heap = h3 := by rw [← hs4]
    have hsz4 : h'.objs.size = s4.heap.objs.size + 1 := by rw [hsb.1, Heap.size_push]
    have keep' : ∀ b o, s4.heap.get? b = some o → h'.get? b = some o := fun b o e => hsb.extBut b o (Nat.ne_of_lt (Heap.lt_size e)) (Heap.get?_push_of_some _ e)
    generalize hgo : ({ cls := .type "generator", data := .fields #[.int s4.gens.size 0, .str "<genexpr>" (s4.toks + 1), .str (X.env.qual ++ "<genexpr>") (s4.toks + 1 + 1)] } : Obj) = go
    have hGO : GenObj go s4.gens.size := by rw [← hgo]; exact ⟨_, _, rfl, rfl, rfl⟩
    have k5 : ∀ b o, s4.heap.get? b = some o → (h'.push go).get? b = some o := fun b o e => Heap.get?_push_of_some _ (keep' b o e)
    have pg := fun A' => hg A' s4 (upd H2 P (.tbl (ps ++ more))) s4.heap.objs.size (cloFrom X.env.cells scope.names []) code fp
    have pt := fun A' => ht A' s4 (upd H2 P (.tbl (ps ++ more))) s4.heap.objs.size (cloFrom X.env.cells scope.names []) code fp
    have pe := fun A' => he A' s4 (upd H2 P (.tbl (ps ++ more))) s4.heap.objs.size (cloFrom X.env.cells scope.names []) code fp
    generalize hce : genEnv scope (cloFrom X.env.cells scope.names []) s4.heap.objs.size code builtinsNs X.env = cenv at pg pt pe ⊢
    have hscn : cenv.scope = scope := by rw [← hce]; rfl
    generalize hA' : A.over (.compLoop (.GeneratorExp elt [⟨tg, iter, ifs, 0⟩] scope gpos) 0 (.ref it) .none cenv) [] = A'
    have hfrA : A'.frames = some (cenv :: X.stack) := by
      rw [← hA']
      show pushEnvs [cenv] A.frames = _
      rw [near.fr, I2.ok.frames]
      rfl
    have hhd : A'.handled = none := by
      rw [← hA']
      show A.handled = none
      rw [near.hd]
      exact hr.hd
    have rm : Room k A' := by
      refine ⟨hhd, ?_, ?_⟩
      · have := hr.dp
        have := near.dp
        rw [← hA']
        show A.depth + 0 + 1 + 3 * k + 5 < _
        omega
      · have := hr.un
        have := near.un
        rw [← hA']
        show A.units + 0 + 3 + 16 * k + 200 < _
        omega
    have gdA : A'.guards = X.A.guards := by
      rw [← hA']
      show pushGuards [] A.guards = _
      rw [near.gd]
      rfl
    have I5 : Inv (gblk X A' s4 (upd H2 P (.tbl (ps ++ more))) cenv fp) [(h'.objs.size, go)] (wipe σ (own.map (·.2))) (upd H2 P (.tbl (ps ++ more)))
        { s4 with gens := s4.gens.push (.fresh (.compStart (.GeneratorExp elt [⟨tg, iter, ifs, 0⟩] scope gpos) 0 (.ref it) .none cenv)), toks := s4.toks + 1 + 1 + 1, heap := h'.push go } := by
      subst hce
      refine gen_start (it := .ref it) I3 ok nocell hN f3 hhd hfrA rfl (I3.bare.push rfl) k5 (hns.push _) fun p hp => ?_
      have e : p = (h'.objs.size, go) := by simpa using hp
      subst e
      refine ⟨by show s4.heap.objs.size < h'.objs.size; omega, Heap.get?_push_size _ (by rw [← hgo]; rfl), fun v z => ?_⟩
      rw [← hgo] at z
      cases z
    refine hQ J H2 _ _ _ q ⟨⟨_, upd_same, ht4⟩, fun b hb => upd_ne hb⟩ ⟨A', s4, _, cenv, fp, h'.objs.size, s4.gens.size, go, tn, _, rfl, hGO, Array.getElem?_push_size .., rfl, I5, ?_, fun b hb => (f3 b hb).1.1, fun b hb => ?_, T.keep, fun cp σ' H' s' I' => ?_, ?_⟩
    · exact T.keep _ _ _ st3 fun b _ o e => k5 b o (by rw [h4]; exact e)
    · have := (f3 b hb).2
      rw [hsz4]
      exact Nat.lt_succ_of_lt this
    · exact I3.call' (ch := fp) I'.os I'.base I'.hok I'.bare fun b hb => ⟨(f3 b hb).1.2.2.2.1, (f3 b hb).1.2.1, (f3 b hb).1.2.2.2.2.1, (f3 b hb).1.2.2.2.2.2⟩
    · intro α AC End Yd W m n a cp s' turn w hmn hAC hac I' st'
      refine ⟨rfl, ?_⟩
      have loop := seg_gx (A := A) (pos := gpos) (iter := iter) (scope := scope) hA' hc (by rw [hscn]; exact hco) T (pg A' rm gdA) (pt A' rm gdA) (pe A' rm gdA) hAC turn m n 0 a _ s' s' cp hmn w hac I' st' fun b hb => (f3 b hb).1.1
      show Seg _ A _ _ _ s' _ ((compStart (.GeneratorExp elt [⟨tg, iter, ifs, 0⟩] scope gpos) 0 (.ref it) .none cenv).onRaise (leaving cenv)) [] s'
      unfold compStart
      rw [Sem.onRaise_eq_wrap]
      show Seg _ A _ _ _ s' _ ((ask >>= _).wrap _ _ _ _) [] s'
      refine seg_bind_wrap (wpAny_askSetting ?_)
      split
      · exact seg_again rfl loop
      · first
          | exact seg_bind_wrap (wpAny_rule (seg_bind_wrap (wpAny_standAt (seg_bind_wrap (T.self _ 0 s' _ _ st' (seg_again rfl loop))))))
          | (refine seg_bind_wrap (wpAny_rule ?_); show Seg _ A _ _ _ s' _ ((standAt iter.pos >>= _).wrap _ _ _ _) [] s'; exact seg_bind_wrap (wpAny_standAt (seg_bind_wrap (T.self _ 0 s' _ _ st' (seg_again rfl loop)))))
  cases hf : codeAmong gpos ps.toList with
  | none =>
    refine wpAny_genexprCodeX hcode (cd.code hPs ht3) (cd.tab hPs) hf fun c' h' tk hx hge hlt hco' _ htab' _ => ?_
    obtain ⟨o1, vs, f1, tf, fl, tg, inF, tx, tt, op, _, _, _, _, _, _, _, _, _, htr, _⟩ := hco'
    exact cont _ h' tk _ hx (Nat.le_trans hge (Nat.le_of_lt hlt)) htab'.2 ⟨_, rfl⟩ htr
  | some cv =>
    refine wpAny_genexprCode_hit hcode (cd.code hPs ht3) hf ?_
    exact cont cv s2.heap s2.toks ps (Heap.ExtBut.refl _ _) (Nat.le_refl _) hPs ⟨#[], by simp⟩ ht3
end
/-! ### asking -/
section
variable {α : Type} {X : Cx} {A A' : Around} {s_0 : Shared} {H_0 : Hp} {cenv : Env} {fp : List Addr} {tn : Nat → Heap → Prop} {AC : α → List (Addr × Obj) → Prop} {End : α → Hp → Prop} {Yd : α → V → Hp → (α → Hp → Prop) → Prop} {ga : Addr} {gn n : Nat} {go : Obj}
theorem next_gx {gs : GenState} {s : Shared} {Q : Option Value → Shared → Prop} {E : Value → Shared → Prop} (hh : A.handled = none) (hroom : A.depth < recursionLimit) (hl : s.heap.NoLimit) (hG : GenObj go gn) (e : s.heap.get? ga = some go) (hgs : s.gens[gn]? = some gs)
    (hgo : gs.Goes (model X.prog X.w) A.in1 (RG (gblk X A' s_0 H_0 cenv fp) AC End) (YG (gblk X A' s_0 H_0 cenv fp) fp tn AC Yd) n (.send .none) (s.setGen gn .running))
    (item : ∀ (a : α) (x : V) (σ : L2.St) (H : Hp) (i : Nat) (cp : List (Addr × Obj)) (Nx : α → Hp → Prop) (v : Value) (s1 : Shared) (gs' : GenState), RelV x v → AC a cp → Inv (gblk X A' s_0 H_0 cenv fp) cp σ H s1 → tn i s1.heap → Yd a x H Nx → s1.gens[gn]? = some gs' →
      (∀ a' cp' s', Nx a' H → AC a' cp' → Inv (gblk X A' s_0 H_0 cenv fp) cp' σ H s' → tn i s'.heap → ∃ m, n = m + 1 ∧ gs'.Goes (model X.prog X.w) A.in1 (RG (gblk X A' s_0 H_0 cenv fp) AC End) (YG (gblk X A' s_0 H_0 cenv fp) fp tn AC Yd) m (.send .none) s') → Q (some v) s1)
    (done : ∀ (a : α) (σ : L2.St) (H : Hp) (cp : List (Addr × Obj)) (s1 : Shared), AC a cp → Inv (gblk X A' s_0 H_0 cenv fp) cp σ H s1 → End a H → Q none s1) :
    wpAny (model X.prog X.w) A (pyNext (.ref ga)) Q E s := by
  have hgl : gn < s.gens.size := (Array.getElem?_eq_some_iff.mp hgs).1
  refine GenW.wpAny_gsz (n := gn + 1) hgl (next_genG (Er := fun _ _ => False) hh hl hroom (hG.isGen e) hgs hgo (fun v s₁ gs' hbare hv => ?_) (fun s₁ hp h' hk => ?_) fun e s₁ he => he.elim)
  · intro hsz
    obtain ⟨a, x, σ, H, i, cp, Nx, r, hac, I, st, nf, hy, kap⟩ := hv
    have hsz1 : gn < s₁.gens.size := by
      have q : (s₁.setGen gn gs').gens.size = s₁.gens.size := GenW.setGen_size _ _ _
      have hsz' : gn + 1 ≤ (s₁.setGen gn gs').gens.size := hsz
      omega
    refine item a x σ H i cp Nx v (s₁.setGen gn gs') gs' r hac (inv_moved I rfl (allBare_setGen I.bare hbare) fun _ _ q => q) st hy (setGen_at hsz1) fun a' cp' s' nx hac' I' st' => ?_
    have z := kap a' cp' s' nx hac' I' st'
    cases n with
    | zero => exact z.elim
    | succ m => exact ⟨m, rfl, z⟩
  · intro _
    obtain ⟨a, σ, H, cp, hac, I, q⟩ := hp
    exact done a σ H cp _ hac (inv_moved I rfl (allBare_setGen I.bare rfl) hk) q
/-- all(..) asks on -/
theorem all_gx {R : Result → Shared → Prop} {Stop : Hp → Prop} {End : Unit → Hp → Prop} (hh : A.handled = none) (hroom : A.depth < recursionLimit) (hG : GenObj go gn)
    (yes : ∀ (σ : L2.St) (H : Hp) (cp : List (Addr × Obj)) (s1 : Shared), Inv (gblk X A' s_0 H_0 cenv fp) cp σ H s1 → End () H → R (.ok (.ret (.bool true))) s1)
    (no : ∀ (σ : L2.St) (H : Hp) (cp : List (Addr × Obj)) (s1 : Shared), Inv (gblk X A' s_0 H_0 cenv fp) cp σ H s1 → Stop H → R (.ok (.ret (.bool false))) s1) :
    ∀ (n : Nat) (s : Shared), s.heap.NoLimit → s.heap.get? ga = some go → (∃ gs, s.gens[gn]? = some gs ∧ gs.Goes (model X.prog X.w) A.in1.in1 (RG (gblk X A' s_0 H_0 cenv fp) (fun _ cp => cp = [(ga, go)]) End)
      (YG (gblk X A' s_0 H_0 cenv fp) fp tn (fun _ cp => cp = [(ga, go)]) (fun _ y H Nx => ∃ b : Bool, y = .bl b ∧ if b = true then Nx () H else Stop H)) n (.send .none) (s.setGen gn .running)) →
      codeAny (model X.prog X.w) A (.builtin "all.loop" ⟨[.ref ga], []⟩) R s := by
  intro n
  induction n with
  | zero =>
    rintro s hl e ⟨gs, hgs, hgo⟩
    refine codeAny_builtin F.entry_all_loop ?_
    rw [Around.under_plainId F.plain_all_loop _]
    show wpAny _ A.in1 (pyNext (.ref ga) >>= _) _ _ s
    refine wpAny_bind (next_gx (A := A.in1) hh hroom hl hG e hgs hgo (fun a x σ H i cp Nx v s1 gs' r hac I st hy at_ kap => ?_) fun a σ H cp s1 hac I q => ?_)
    · obtain ⟨b, rfl, hb⟩ := hy
      cases (show v = Value.bool b from r)
      refine wpAny_bind (wpAny_holding (wpAny_truthy_bool ?_))
      refine wpAny_bind (wpAny_letGo ?_)
      cases b with
      | true =>
        obtain ⟨m, hm, _⟩ := kap () cp s1 hb hac I st
        cases hm
      | false =>
        simp only [Bool.false_eq_true, if_false] at hb ⊢
        exact wpAny_bind (wpAny_rule (wpAny_pure (no σ H cp s1 I hb)))
    · exact wpAny_bind (wpAny_rule (wpAny_pure (yes σ H cp s1 I q)))
  | succ n ih =>
    rintro s hl e ⟨gs, hgs, hgo⟩
    refine codeAny_builtin F.entry_all_loop ?_
    rw [Around.under_plainId F.plain_all_loop _]
    show wpAny _ A.in1 (pyNext (.ref ga) >>= _) _ _ s
    refine wpAny_bind (next_gx (A := A.in1) hh hroom hl hG e hgs hgo (fun a x σ H i cp Nx v s1 gs' r hac I st hy at_ kap => ?_) fun a σ H cp s1 hac I q => ?_)
    · obtain ⟨b, rfl, hb⟩ := hy
      cases (show v = Value.bool b from r)
      refine wpAny_bind (wpAny_holding (wpAny_truthy_bool ?_))
      refine wpAny_bind (wpAny_letGo ?_)
      cases b with
      | true =>
        simp only [if_true] at hb ⊢
        subst hac
        refine wpAny_pure ⟨plainId_quiet F.plain_all_loop _, ih s1 I.nolimit (I.pin (ga, go) (List.mem_append_right _ List.mem_cons_self)).1 ⟨gs', at_, ?_⟩⟩
        obtain ⟨m, hm, z⟩ := kap () [(ga, go)] (s1.setGen gn .running) hb rfl (inv_moved I rfl (allBare_setGen I.bare rfl) fun _ _ q => q) st
        cases hm
        exact z
      | false =>
        simp only [Bool.false_eq_true, if_false] at hb ⊢
        exact wpAny_bind (wpAny_rule (wpAny_pure (no σ H cp s1 I hb)))
    · exact wpAny_bind (wpAny_rule (wpAny_pure (yes σ H cp s1 I q)))
end
section
variable {X : Cx}
/-- all(elt for tg in iter ..) -/
def tAllX (P : Addr) (wi : TI) (g : TG) (tt : TT) (te : TE) (vs : List Nat) : TE := fun σ H Q => wi σ H fun J H1 => GxR.TabG H1 P ∧ ∀ H2, GxR.Tabbed P H1 H2 → ∃ W : Nat → Nat → Unit → Hp → Prop, (∃ m, W 0 m () H2) ∧
  tGx J g tt te (wipe σ vs) vs (fun _ H => Q (.bl true) H) (fun _ y H Nx => ∃ b : Bool, y = .bl b ∧ if b = true then Nx () H else Q (.bl false) H) W
theorem pe_allX {c P : Addr} {elt tg iter : Expr} {ifs : List Expr} {p pos gpos : Pos} {scope : Scope} {own : List (Str × Nat)} {wi : TI} {g : TG} {tt : TT} {te : TE} {k : Nat}
    (hr : Room (k + 1) X.A) (hc : X.calm = true) (hN : X.N.Nodup) (hgl : Gl X "all") (hm : X.mg "all" = none) (hb : bootBuiltins "all" = some (.builtin "all")) (TB : GxR.TabB X.base X.mg c P) (hcode : X.env.code = .ref c)
    (hco : scope.isCoroutine = false) (hdot : scope.names.lookup (".0" : Str) = some NameKind.local) (nocell : ∀ y ∈ scope.names, y.2 ≠ .cell) (ok : BlkOk X.N X.env.scope scope own) (hi : PI X tg iter wi)
    (hg : ∀ (A' : Around) (s : Shared) (H : Hp) (C : Addr) (cl : List (Str × Addr)) (code : Value) (fp : List Addr), Room k A' → A'.guards = X.A.guards → PG (gblk X A' s H (genEnv scope cl C code builtinsNs X.env) fp) tg g)
    (ht : ∀ (A' : Around) (s : Shared) (H : Hp) (C : Addr) (cl : List (Str × Addr)) (code : Value) (fp : List Addr), Room k A' → A'.guards = X.A.guards → PTs (gblk X A' s H (genEnv scope cl C code builtinsNs X.env) fp) ifs tt)
    (he : ∀ (A' : Around) (s : Shared) (H : Hp) (C : Addr) (cl : List (Str × Addr)) (code : Value) (fp : List Addr), Room k A' → A'.guards = X.A.guards → PE (gblk X A' s H (genEnv scope cl C code builtinsNs X.env) fp) elt te)
    (hs : ∀ v, genFold iter X.env v = pure v)
    (hst : starEach [.GeneratorExp elt [⟨tg, iter, ifs, 0⟩] scope gpos] X.env = (false, eval (.GeneratorExp elt [⟨tg, iter, ifs, 0⟩] scope gpos) X.env) :: starEach [] X.env := by rfl) :
    PE X (.Call (.Name "all" p) [.GeneratorExp elt [⟨tg, iter, ifs, 0⟩] scope gpos] [] pos) (tAllX P wi g tt te (own.map (·.2))) := by
  refine ⟨fun pins s σ H Q I h => ?_⟩
  refine wpAny_Call_Name_kw (ld_blt I hgl hm hb ?_)
  refine PyProof.Rows.callWith_builtin1 ?_ hst (by rfl)
  rw [hst]
  show wpAny _ _ (spliced ((false, eval (.GeneratorExp elt [⟨tg, iter, ifs, 0⟩] scope gpos) X.env) :: backTo pos (starEach [] X.env))) _ _ s
  refine Calls.spliced_cons (gx_make (A := X.A.in1.in1) hr ⟨rfl, rfl, rfl, rfl, (by show X.A.units + 1 + 1 ≤ _; omega)⟩ hc hN TB hcode hco hdot nocell ok hi hg ht he hs I h fun J H1 H2 u s5 hR hT hG => ?_)
  obtain ⟨A', s_0, H_0, cenv, fp, ga, gn, go, tn, gs, rfl, hGO, hgs, hbare, I5, st5, nf, hlt, keep, back, goes⟩ := hG
  obtain ⟨W, ⟨m, w0⟩, turn⟩ := hR H2 hT
  refine Calls.spliced_nil ?_
  have pin5 := (I5.pin (ga, go) (List.mem_append_right _ List.mem_cons_self)).1
  refine call_function_tree F.kind_all F.plain_all F.entry_all (F.args_all1 _) ?_
  unfold Builtin.«all»
  refine wpAny_bind (m := oneArg "all" _) (wpAny_pure ?_)
  refine wpAny_bind (wpAny_pyIter_gen (hGO.isGen pin5) ?_)
  refine wpAny_pure ⟨plainId_quiet F.plain_all_loop _, all_gx (A' := A') (s_0 := s_0) (H_0 := H_0) (cenv := cenv) (fp := fp) (tn := tn) (go := go) (gn := gn) (Stop := fun H => Q (.bl false) H) (End := fun _ H => Q (.bl true) H) hr.hd hr.depth hGO
    (fun σ' H' cp s1 I1 q => ⟨.bl true, H', back _ _ _ _ I1, rfl, q⟩) (fun σ' H' cp s1 I1 q => ⟨.bl false, H', back _ _ _ _ I1, rfl, q⟩) (m + 1) s5 I5.nolimit pin5 ⟨gs, hgs, ?_⟩⟩
  refine goes Unit _ _ _ W m (m + 1) () [(ga, go)] _ turn w0 (Nat.lt_succ_self _) (fun a cp hac p hp b hb z => ?_) rfl (inv_moved I5 rfl (allBare_setGen I5.bare rfl) fun _ _ q => q) st5
  subst hac
  have e : p = (ga, go) := by simpa using hp
  subst e
  exact absurd (hlt b hb) (by rw [← z]; exact Nat.lt_irrefl _)
end
/-! ### tuple(..) -/
section
variable {X : Cx} {A A' : Around} {s_0 : Shared} {H_0 : Hp} {cenv : Env} {fp : List Addr} {tn : Nat → Heap → Prop} {ga S : Addr} {gn n : Nat} {go : Obj}
/-- the asker's list S holds what is out -/
def ACl (ga : Addr) (go : Obj) (S : Addr) (ys : List V) (cp : List (Addr × Obj)) : Prop := ∃ (acc : Array Value) (c : Nat), cp = [(ga, go), (S, lstObj acc c)] ∧ Vals ys acc.toList
def YdL (ys : List V) (y : V) (H : Hp) (Nx : List V → Hp → Prop) : Prop := ys.length < sizeLine ∧ Nx (ys ++ [y]) H
theorem ext_gx {R : Result → Shared → Prop} {End : List V → Hp → Prop} {res : Value} (hh : A.handled = none) (hroom : A.depth < recursionLimit) (hG : GenObj go gn) (hSa : S ≠ ga) (far : (gblk X A' s_0 H_0 cenv fp).s_0.heap.objs.size ≤ S) (hSc : ∀ x c, cenv.cells.lookup x = some c → c ≠ S)
    (keep : ∀ i h h', tn i h → (∀ b ∈ fp, ∀ o, h.get? b = some o → h'.get? b = some o) → tn i h') (hSf : ∀ b ∈ fp, b ≠ S)
    (yes : ∀ (σ : L2.St) (H : Hp) (ys : List V) (acc : Array Value) (c : Nat) (s1 : Shared), Inv (gblk X A' s_0 H_0 cenv fp) [(ga, go), (S, lstObj acc c)] σ H s1 → Vals ys acc.toList → End ys H → R (.ok (.ret res)) s1) :
    ∀ (n : Nat) (s : Shared), s.heap.NoLimit → s.heap.get? ga = some go → (∃ gs, s.gens[gn]? = some gs ∧ gs.Goes (model X.prog X.w) A.in1.in1 (RG (gblk X A' s_0 H_0 cenv fp) (ACl ga go S) End)
      (YG (gblk X A' s_0 H_0 cenv fp) fp tn (ACl ga go S) YdL) n (.send .none) (s.setGen gn .running)) →
      codeAny (model X.prog X.w) A (.builtin "list.extend.loop" ⟨[.ref S, .ref ga, res], []⟩) R s := by
  intro n
  induction n with
  | zero =>
    rintro s hl e ⟨gs, hgs, hgo⟩
    refine codeAny_builtin F.entry_extend_loop ?_
    rw [Around.under_plainId F.plain_extend_loop _]
    show wpAny _ A.in1 (pyNext (.ref ga) >>= _) _ _ s
    refine wpAny_bind (next_gx (A := A.in1) hh hroom hl hG e hgs hgo (fun ys x σ H i cp Nx v s1 gs' r hac I st hy at_ kap => ?_) fun ys σ H cp s1 hac I q => ?_)
    · obtain ⟨acc, c, rfl, rv⟩ := hac
      have pS := I.pin (S, lstObj acc c) (List.mem_append_right _ (List.mem_cons_of_mem _ List.mem_cons_self))
      have I0 : Inv (gblk X A' s_0 H_0 cenv fp) [(ga, go)] σ H s1 := I.pins_of fun p hp => I.pin p (List.mem_append_right _ (by rw [List.mem_singleton.mp hp]; exact List.mem_cons_self))
      have I1 := I0.turned (t' := s1.toks) (h' := s1.heap.update S (Obj.mapSeq (·.push v))) (it := S) (fun b o hb q => (Heap.get?_update_other _ _ (Ne.symm hb)).trans q) pS.2.1 pS.2.2.1 (.inr far) hSc (fun p hp => by rw [List.mem_singleton.mp (show p ∈ [(ga, go)] by simpa using hp)]; exact Ne.symm hSa)
      have e2 := Heap.get?_update_self (Obj.mapSeq (·.push v)) pS.1 rfl
      obtain ⟨m, hm, _⟩ := kap (ys ++ [x]) [(ga, go), (S, _)] _ hy.2 ⟨acc.push v, _, rfl, by rw [Array.toList_push]; exact rv.append (.cons r .nil)⟩ (I1.pins_of fun p hp => by
        rcases List.mem_cons.mp hp with z | z
        · rw [z]; exact I1.pin (ga, go) (List.mem_append_right _ List.mem_cons_self)
        · rw [List.mem_singleton.mp z]; exact ⟨e2, pS.2.1, pS.2.2.1, pS.2.2.2.1, fun v q => by cases q⟩) (keep _ _ _ st fun b hb o q => (Heap.get?_update_other _ _ (Ne.symm (hSf b hb))).trans q)
      cases hm
    · obtain ⟨acc, c, rfl, rv⟩ := hac
      exact wpAny_pure (yes σ H ys acc c s1 I rv q)
  | succ n ih =>
    rintro s hl e ⟨gs, hgs, hgo⟩
    refine codeAny_builtin F.entry_extend_loop ?_
    rw [Around.under_plainId F.plain_extend_loop _]
    show wpAny _ A.in1 (pyNext (.ref ga) >>= _) _ _ s
    refine wpAny_bind (next_gx (A := A.in1) hh hroom hl hG e hgs hgo (fun ys x σ H i cp Nx v s1 gs' r hac I st hy at_ kap => ?_) fun ys σ H cp s1 hac I q => ?_)
    · obtain ⟨acc, c, rfl, rv⟩ := hac
      have pS := I.pin (S, lstObj acc c) (List.mem_append_right _ (List.mem_cons_of_mem _ List.mem_cons_self))
      have I0 : Inv (gblk X A' s_0 H_0 cenv fp) [(ga, go)] σ H s1 := I.pins_of fun p hp => I.pin p (List.mem_append_right _ (by rw [List.mem_singleton.mp hp]; exact List.mem_cons_self))
      have I1 := I0.turned (t' := s1.toks) (h' := s1.heap.update S (Obj.mapSeq (·.push v))) (it := S) (fun b o hb q => (Heap.get?_update_other _ _ (Ne.symm hb)).trans q) pS.2.1 pS.2.2.1 (.inr far) hSc (fun p hp => by rw [List.mem_singleton.mp (show p ∈ [(ga, go)] by simpa using hp)]; exact Ne.symm hSa)
      have e2 := Heap.get?_update_self (Obj.mapSeq (·.push v)) pS.1 rfl
      have hln := rv.length
      have hlt : acc.size < sizeLine := by
        have := hy.1
        rw [hln] at this
        simpa using this
      have pG := I1.pin (ga, go) (List.mem_append_right _ List.mem_cons_self)
      show wpAny _ A.in1 (updateSeq S (·.push v) >>= _) _ _ _
      refine wpAny_bind ?_
      refine wpAny_updateSeq pS.1 rfl (wpAny_pure ⟨plainId_quiet F.plain_extend_loop _, ih _ I1.nolimit pG.1 ⟨gs', at_, ?_⟩⟩) (Nat.le_of_lt hlt) (by show (acc.push v).size ≤ sizeLine + 1; rw [Array.size_push]; omega)
      obtain ⟨m, hm, z⟩ := kap (ys ++ [x]) [(ga, go), (S, _)] (({ s1 with heap := s1.heap.update S (Obj.mapSeq (·.push v)) } : Shared).setGen gn .running) hy.2 ⟨acc.push v, _, rfl, by rw [Array.toList_push]; exact rv.append (.cons r .nil)⟩ (inv_moved (I1.pins_of fun p hp => by
        rcases List.mem_cons.mp hp with z | z
        · rw [z]; exact pG
        · rw [List.mem_singleton.mp z]; exact ⟨e2, pS.2.1, pS.2.2.1, pS.2.2.2.1, fun v q => by cases q⟩) rfl (allBare_setGen (s := { s1 with heap := s1.heap.update S (Obj.mapSeq (·.push v)) }) I1.bare rfl) fun _ _ q => q) (keep _ _ _ st fun b hb o q => (Heap.get?_update_other _ _ (Ne.symm (hSf b hb))).trans q)
      cases hm
      exact z
    · obtain ⟨acc, c, rfl, rv⟩ := hac
      exact wpAny_pure (yes σ H ys acc c s1 I rv q)
end
section
variable {X : Cx} {pins : List (Addr × Obj)} {σ : L2.St} {s5 : Shared} {J : It} {g : TG} {tt : TT} {te : TE} {vs : List Nat} {H4 : Hp} {u : Value}
/-- all that a generator hands out, in a list of the asker's own -/
theorem collect_gx {A : Around} {E : Value → Shared → Prop} {Q : List Value → Shared → Prop} {End : List V → Hp → Prop} {W : Nat → Nat → List V → Hp → Prop} {m : Nat} (hh : A.handled = none) (hroom : A.depth < recursionLimit) (G : Gx X pins σ A.in1.in1 J g tt te vs H4 u s5)
    (w0 : W 0 m [] H4) (turn : tGx J g tt te (wipe σ vs) vs End YdL W)
    (hQ : ∀ (s' : Shared) (acc : Array Value) (ys : List V) (H' : Hp), Inv X pins σ H' s' → Vals ys acc.toList → End ys H' → Q acc.toList s') : wpAny (model X.prog X.w) A (collect u) Q E s5 := by
  obtain ⟨A', s_0, H_0, cenv, fp, ga, gn, go, tn, gs, rfl, hGO, hgs, hbare, I5, st5, nf, hlt, keep, back, goes⟩ := G
  have pin5 := I5.pin (ga, go) (List.mem_append_right _ List.mem_cons_self)
  have glt : ga < s5.heap.objs.size := Heap.lt_size pin5.1
  have hSI : s5.heap.objs.size ≠ ga := Nat.ne_of_gt glt
  unfold collect
  refine wpAny_bind (wpAny_runValue (codeAny_builtin F.entry_proto_collect ?_))
  rw [Around.under_plainId F.plain_proto_collect _]
  show wpAny _ A.in1 (newList [] >>= fun l => again (.builtin "list.__iadd__" ⟨[l, .ref ga], []⟩)) _ _ s5
  refine wpAny_bind (wpAny_newObj_type ?_)
  refine wpAny_pure ⟨plainId_quiet F.plain_list_iadd _, codeAny_builtin F.entry_list_iadd ?_⟩
  rw [Around.under_plainId F.plain_list_iadd _]
  show wpAny _ A.in1 (Builtin.List.listExtendWith (.ref s5.heap.objs.size) (.ref ga) (.ref s5.heap.objs.size)) _ _ _
  unfold Builtin.List.listExtendWith
  have k1 : ∀ b o, s5.heap.get? b = some o → (s5.heap.push { cls := .type "list", data := .seq ([] : List Value).toArray }).get? b = some o := fun b o e => Heap.get?_push_of_some _ e
  have hT : Shared.TypeIs { s5 with heap := s5.heap.push { cls := .type "list", data := .seq ([] : List Value).toArray } } (.ref ga) "generator" := Heap.IsGen.typeIs (s := { s5 with heap := _ }) (hGO.isGen (k1 _ _ pin5.1))
  refine wpAny_bind (wpAny_typeOf hT ?_)
  have h1 : Builtin.List.listSameRef (.ref s5.heap.objs.size) (.ref ga) = false := by simp [Builtin.List.listSameRef, hSI]
  have h2 : (Value.type "generator" == Value.type "list") = false := by decide
  have h3 : (Value.type "generator" == Value.type "tuple") = false := by decide
  simp only [h1, h2, h3, Bool.or_false, Bool.false_eq_true, if_false]
  refine wpAny_bind (wpAny_pyIter_gen (s := { s5 with heap := _ }) (hGO.isGen (k1 _ _ pin5.1)) ?_)
  refine wpAny_bind (wpAny_holding ?_)
  unfold Builtin.List.listLengthHint
  refine wpAny_bind (wpAny_specialOf hT F.gen_no_len ?_)
  show wpAny _ A.in1 (specialOf (Value.ref ga) (Str.ofString "__length_hint__") >>= _) _ _ _
  refine wpAny_bind (wpAny_specialOf hT F.gen_no_hint ?_)
  refine wpAny_pure ?_
  show wpAny _ A.in1 (rule "list.extend.makes-room" >>= fun _ => Builtin.List.listTouch (.ref s5.heap.objs.size) >>= fun _ =>
    again (.builtin "list.extend.loop" ⟨[.ref s5.heap.objs.size, .ref ga, .ref s5.heap.objs.size], []⟩)) _ _ _
  refine wpAny_bind (wpAny_rule ?_)
  have hS₁ : (s5.heap.push { cls := .type "list", data := .seq ([] : List Value).toArray }).get? s5.heap.objs.size = some { cls := .type "list", data := .seq ([] : List Value).toArray } := Heap.get?_push_size _ rfl
  refine wpAny_bind ?_
  show wpAny _ A.in1 (updateSeq s5.heap.objs.size (·.push .none) >>= fun _ => updateSeq s5.heap.objs.size (·.pop)) _ _ _
  refine wpAny_bind (wpAny_updateSeq hS₁ rfl ?_)
  have hS₂ := Heap.get?_update_self (Obj.mapSeq (·.push Value.none)) hS₁ rfl
  refine wpAny_updateSeq hS₂ rfl ?_
  have hS₃ := Heap.get?_update_self (Obj.mapSeq (·.pop)) hS₂ rfl
  obtain ⟨c3, hS₄⟩ : ∃ c, (((s5.heap.push { cls := .type "list", data := .seq ([] : List Value).toArray }).update s5.heap.objs.size (Obj.mapSeq (·.push Value.none))).update s5.heap.objs.size (Obj.mapSeq (·.pop))).get? s5.heap.objs.size = some (lstObj #[] c) := ⟨_, hS₃⟩
  have k3 : ∀ b o, s5.heap.get? b = some o → (((s5.heap.push { cls := .type "list", data := .seq ([] : List Value).toArray }).update s5.heap.objs.size (Obj.mapSeq (·.push Value.none))).update s5.heap.objs.size (Obj.mapSeq (·.pop))).get? b = some o :=
    fun b o e => (Heap.get?_update_other _ _ (Ne.symm (Nat.ne_of_lt (Heap.lt_size e)))).trans ((Heap.get?_update_other _ _ (Ne.symm (Nat.ne_of_lt (Heap.lt_size e)))).trans (k1 b o e))
  have fS : FpOk (gblk X A' s_0 H_0 cenv fp) [(ga, go)] H4 s5.heap.objs.size := I5.fpOk (Nat.le_refl _) (I5.hok.fresh (Nat.le_refl _))
  have hfS : ∀ b ∈ fp, b ≠ s5.heap.objs.size := fun b hb => Nat.ne_of_lt (Nat.lt_trans (hlt b hb) glt)
  have I6 := inv_moved (s' := { s5 with heap := ((s5.heap.push { cls := .type "list", data := .seq ([] : List Value).toArray }).update s5.heap.objs.size (Obj.mapSeq (·.push Value.none))).update s5.heap.objs.size (Obj.mapSeq (·.pop)) }) I5 rfl I5.bare k3
  refine wpAny_pure ⟨plainId_quiet F.plain_extend_loop _, ext_gx (A := A) (A' := A') (s_0 := s_0) (H_0 := H_0) (cenv := cenv) (fp := fp) (tn := tn) (go := go) (gn := gn) (End := End) hh hroom hGO hSI ?_ fS.2.2.2.2.1 keep hfS
    (fun σ' H' ys acc c s1 I1 rv q => ?_) (m + 1) _ I6.nolimit (k3 _ _ pin5.1) ⟨gs, hgs, ?_⟩⟩
  · exact Nat.le_trans I5.sz (Nat.le_refl _)
  · show wpAny _ A (load s5.heap.objs.size >>= _) _ _ s1
    have pS := (I1.pin (s5.heap.objs.size, lstObj acc c) (List.mem_append_right _ (List.mem_cons_of_mem _ List.mem_cons_self))).1
    refine wpAny_bind (wpAny_load pS ?_)
    exact wpAny_pure (hQ s1 acc ys H' (back _ _ _ _ I1) rv q)
  · refine goes (List V) (ACl ga go s5.heap.objs.size) End YdL W m (m + 1) [] [(ga, go), (s5.heap.objs.size, lstObj #[] c3)] _ turn w0 (Nat.lt_succ_self _) (fun ys cp hac p hp b hb z => ?_) ⟨#[], c3, rfl, .nil⟩
      (inv_moved (I6.pins_of fun p hp => ?_) rfl (allBare_setGen (s := { s5 with heap := _ }) I5.bare rfl) fun _ _ q => q) (keep _ _ _ st5 fun b hb o q => k3 b o q)
    · obtain ⟨acc, c, rfl, _⟩ := hac
      rcases List.mem_cons.mp hp with e | e
      · rw [e] at z
        exact absurd (hlt b hb) (by rw [← z]; exact Nat.lt_irrefl _)
      · rw [List.mem_singleton.mp e] at z
        exact hfS b hb z.symm
    · rcases List.mem_cons.mp hp with e | e
      · rw [e]
        exact I6.pin (ga, go) (List.mem_append_right _ List.mem_cons_self)
      · rw [List.mem_singleton.mp e]
        exact ⟨hS₄, fS.1, fS.2.1, fS.2.2.1, fun v q => by cases q⟩
end
section
variable {X : Cx}
/-- tuple(elt for tg in iter ..) -/
def tTupX (P : Addr) (wi : TI) (g : TG) (tt : TT) (te : TE) (vs : List Nat) : TE := fun σ H Q => wi σ H fun J H1 => GxR.TabG H1 P ∧ ∀ H2, GxR.Tabbed P H1 H2 → ∃ W : Nat → Nat → List V → Hp → Prop, (∃ m, W 0 m [] H2) ∧
  tGx J g tt te (wipe σ vs) vs (fun ys H => ys.length ≤ sizeLine ∧ ∀ p, H p = none → Q (.ref p) (upd H p (.tup ys))) YdL W
theorem pe_tupX {c P : Addr} {elt tg iter : Expr} {ifs : List Expr} {p pos gpos : Pos} {scope : Scope} {own : List (Str × Nat)} {wi : TI} {g : TG} {tt : TT} {te : TE} {k : Nat}
    (hr : Room (k + 1) X.A) (hc : X.calm = true) (hN : X.N.Nodup) (hgl : Gl X "tuple") (hm : X.mg "tuple" = none) (hb : bootBuiltins "tuple" = some (.type "tuple")) (TB : GxR.TabB X.base X.mg c P) (hcode : X.env.code = .ref c)
    (hco : scope.isCoroutine = false) (hdot : scope.names.lookup (".0" : Str) = some NameKind.local) (nocell : ∀ y ∈ scope.names, y.2 ≠ .cell) (ok : BlkOk X.N X.env.scope scope own) (hi : PI X tg iter wi)
    (hg : ∀ (A' : Around) (s : Shared) (H : Hp) (C : Addr) (cl : List (Str × Addr)) (code : Value) (fp : List Addr), Room k A' → A'.guards = X.A.guards → PG (gblk X A' s H (genEnv scope cl C code builtinsNs X.env) fp) tg g)
    (ht : ∀ (A' : Around) (s : Shared) (H : Hp) (C : Addr) (cl : List (Str × Addr)) (code : Value) (fp : List Addr), Room k A' → A'.guards = X.A.guards → PTs (gblk X A' s H (genEnv scope cl C code builtinsNs X.env) fp) ifs tt)
    (he : ∀ (A' : Around) (s : Shared) (H : Hp) (C : Addr) (cl : List (Str × Addr)) (code : Value) (fp : List Addr), Room k A' → A'.guards = X.A.guards → PE (gblk X A' s H (genEnv scope cl C code builtinsNs X.env) fp) elt te)
    (hs : ∀ v, genFold iter X.env v = pure v)
    (hst : starEach [.GeneratorExp elt [⟨tg, iter, ifs, 0⟩] scope gpos] X.env = (false, eval (.GeneratorExp elt [⟨tg, iter, ifs, 0⟩] scope gpos) X.env) :: starEach [] X.env := by rfl) :
    PE X (.Call (.Name "tuple" p) [.GeneratorExp elt [⟨tg, iter, ifs, 0⟩] scope gpos] [] pos) (tTupX P wi g tt te (own.map (·.2))) := by
  refine ⟨fun pins s σ H Q I h => ?_⟩
  refine wpAny_Call_Name_kw (ld_blt I hgl hm hb ?_)
  refine PyProof.Rows.callWith_type1 ?_ hst (by rfl)
  rw [hst]
  show wpAny _ _ (spliced ((false, eval (.GeneratorExp elt [⟨tg, iter, ifs, 0⟩] scope gpos) X.env) :: backTo pos (starEach [] X.env))) _ _ s
  refine Calls.spliced_cons (gx_make (A := X.A.in1.in1.in1.in1) hr ⟨rfl, rfl, rfl, rfl, (by show X.A.units + 1 + 1 + 1 + 1 ≤ _; omega)⟩ hc hN TB hcode hco hdot nocell ok hi hg ht he hs I h fun J H1 H2 u s5 hR hT hG => ?_)
  obtain ⟨W, ⟨m, w0⟩, turn⟩ := hR H2 hT
  refine Calls.spliced_nil ?_
  have ⟨A', s_0, H_0, cenv, fp, ga, gn, go, tn, gs, eu, hGO, hgs, hbare, I5, st5, nf, hlt, keep, back, goes⟩ := hG
  have pin5 := (I5.pin (ga, go) (List.mem_append_right _ List.mem_cons_self)).1
  rw [eu] at hG ⊢
  refine callType_codes (Q₁ := fun obj s₁ => s₁.TypeIs obj "tuple" ∧ EP X pins σ Q obj s₁) F.called_tuple (F.typeCall_tuple_1 _) F.entry_object_init ?_ fun obj s₁ h₁ =>
    ⟨h₁.1, F.args_object_init_2 obj _, object_init_meets F.called_tuple.init.lookup F.called_tuple.made (by decide) X.prog X.w X.A.in1 _ s₁ ⟨h₁.1, rfl, h₁.2⟩⟩
  refine codeAny_of_tree ?_
  show wpAny _ X.A.in1.in1 (do checkBuiltinCall "tuple.__new__" ⟨[.type "tuple", .ref ga], []⟩; again (.builtin "tuple.__new__" ⟨[.type "tuple", .ref ga], []⟩)) _ _ s5
  refine wpAny_bind (wpAny_of_eq (F.newCall_tuple_1 _) (wpAny_pure ⟨plainId_quiet F.plain_tuple_new _, codeAny_builtin F.entry_tuple_new ?_⟩))
  rw [Around.under_plainId F.plain_tuple_new _]
  have hsub := sub_tuple_self
  have hinit := init_tuple_lookup
  have hmh := madeHere_tuple
  have hTI : s5.TypeIs (.ref ga) "generator" := (hGO.isGen pin5).typeIs
  have col : ∀ {Q0 : List Value → Shared → Prop} {E0 : Value → Shared → Prop}, (∀ (s' : Shared) (acc : Array Value), (∃ (ys : List V) (H' : Hp), Inv X pins σ H' s' ∧ Vals ys acc.toList ∧ ys.length ≤ sizeLine ∧ ∀ p, H' p = none → Q (.ref p) (upd H' p (.tup ys))) → Q0 acc.toList s') →
      wpAny (model X.prog X.w) X.A.in1.in1 (collect (.ref ga)) Q0 E0 s5 := fun hq => collect_gx hr.hd hr.depth hG w0 turn (fun s' acc ys H' I' rv q => hq s' acc ⟨ys, H', I', rv, q.1, q.2⟩)
  wp_walk using wpAny_typeOf hTI, col
  rintro s' acc ⟨ys, H', I', rv, small, q⟩
  show wpAny _ _ (Builtin.Tuple.tupleExact acc.toList.toArray >>= fun v => ret v) _ _ _
  unfold Builtin.Tuple.tupleExact
  refine wpAny_bind (wpAny_newObj_type ?_ (by show acc.toList.toArray.size ≤ sizeLine; rw [List.size_toArray, ← rv.length]; exact small))
  refine wpAny_pure ?_
  have free : H' s'.heap.objs.size = none := I'.hok.fresh (Nat.le_refl _)
  refine ⟨⟨_, Heap.get?_push_size _ rfl, rfl⟩, .ref s'.heap.objs.size, upd H' s'.heap.objs.size (.tup ys), I'.laid (t' := s'.toks) (fun b u z => Heap.get?_push_of_some _ z) (Nat.le_refl _) ⟨small, acc.toList, rv, ?_⟩, rfl, q _ free⟩
  exact ⟨_, Heap.get?_push_size _ rfl, rfl, 0, rfl⟩
end
/-! ### a def by its body, its code object known -/
theorem okC {P : Program} {w : World} {K : PySem.W.Frag} {mg : Str → Option Value} {base : Heap} {x qual : Str} {st : Stmt} {f : Addr} {fd : FuncData} {N ps : List Str} {k : Nat} {sp : Sp} (F : Fun K x qual st f fd) (S : FnScope N ps (defScope st)) (len : ∀ vs H Q E, sp vs H Q E → vs.length = ps.length)
    (body : ∀ (A : Around) (outer : List Env) (s : Shared) (H : Hp) (vs : List V) (Q : VK) (E : XK), Room k (A.deeper (envOfC qual (defScope st) s.heap.objs.size f fd.code)) → sp vs H Q E →
      ∃ t, PSs (cxOf CX0 P w K mg base N qual (defScope st) f fd.code A outer s H E).nox (defBody st) t ∧ t { nx := fun _ H' => Q .non H', rt := Q } (start N vs) H) : FnOk P w K mg base CX0 (k + 1) f fd ps sp := by
  obtain ⟨oc, od, kV, doc, pm, an, cdv, ct, osl, rfl, lk, hcd⟩ := F.ex
  refine fn_of lk hcd S len fun A outer s H vs Q E hr hsp => ?_
  obtain ⟨t, h, q⟩ := body A outer s H vs Q E hr hsp
  exact ⟨t, h.nox, q⟩
/-! ### from the head's facts -/
theorem fun_of {K : PySem.W.Frag} {x qual : Str} {st : Stmt} {f : Addr} {fd : FuncData} (F : FunD K x qual (defArgs st) (defBody st) (defScope st) [] [] f fd) : Fun K x qual st f fd := by
  obtain ⟨oc, od, dV, kV, doc, pm, an, cdv, ct, osl, rfl, lk, hcd, hd, _⟩ := F.ex
  rcases hd with ⟨_, rfl⟩ | ⟨z, _⟩
  · exact ⟨⟨oc, od, kV, doc, pm, an, cdv, ct, osl, rfl, lk, hcd⟩, F.kp⟩
  · exact absurd rfl z
theorem code_of {K : PySem.W.Frag} {x qual : Str} {st : Stmt} {p : He.Defn} {fd : FuncData} (F : Fun K x qual st (He.fAd K p) fd) : fd.code = .ref (He.cT K p).1 := by
  obtain ⟨oc, od, kV, doc, pm, an, cdv, ct, osl, rfl, lk, hcd⟩ := F.ex
  obtain ⟨c, rfl⟩ := He.codeIn_ref hcd
  show Value.ref c = Value.ref (He.codeOf K p)
  rw [He.codeOf_eq lk rfl]
theorem tab_of {base : Heap} {mg : Str → Option Value} {c P : Addr} (h : LamX.TabB base mg c P) : GxR.TabB base mg c P := ⟨h.code, h.bm, h.gP⟩
/-! ### heaps whose tables grow -/
def Tabs (H : Hp) (Ps : List Addr) : Prop := ∀ P ∈ Ps, GxR.TabG H P
/-- what is no table stays; tables stay tables -/
def Gr (H H' : Hp) : Prop := (∀ b o, (∀ ps, o ≠ HO.tbl ps) → H b = some o → H' b = some o) ∧ ∀ b, GxR.TabG H b → GxR.TabG H' b
theorem Gr.refl {H : Hp} : Gr H H := ⟨fun _ _ _ e => e, fun _ e => e⟩
theorem Gr.trans {H H1 H2 : Hp} (a : Gr H H1) (b : Gr H1 H2) : Gr H H2 := ⟨fun c o n e => b.1 c o n (a.1 c o n e), fun c e => b.2 c (a.2 c e)⟩
theorem Gr.of {H H' : Hp} (h : ∀ b o, H b = some o → H' b = some o) : Gr H H' := ⟨fun b o _ e => h b o e, fun b ⟨ps, e, t⟩ => ⟨ps, h _ _ e, t⟩⟩
theorem Gr.tab {P : Addr} {H H' : Hp} (t : GxR.TabG H P) (h : GxR.Tabbed P H H') : Gr H H' := by
  obtain ⟨ps, e, _⟩ := t
  refine ⟨fun b o n q => ?_, fun b q => ?_⟩
  · by_cases hb : b = P
    · rw [hb, e] at q
      exact absurd (Option.some.inj q).symm (n ps)
    · rw [h.2 b hb]; exact q
  · by_cases hb : b = P
    · rw [hb]; exact h.1
    · obtain ⟨ps', e', t'⟩ := q
      exact ⟨ps', by rw [h.2 b hb]; exact e', t'⟩
theorem Gr.tup {H H' : Hp} (g : Gr H H') {a : Addr} {xs : List V} (h : H a = some (.tup xs)) : H' a = some (.tup xs) := g.1 a _ (fun _ z => by cases z) h
theorem Gr.lst {H H' : Hp} (g : Gr H H') {a : Addr} {xs : List V} (h : H a = some (.lst xs)) : H' a = some (.lst xs) := g.1 a _ (fun _ z => by cases z) h
theorem Gr.tabs {H H' : Hp} (g : Gr H H') {Ps : List Addr} (h : Tabs H Ps) : Tabs H' Ps := fun P hP => g.2 P (h P hP)
theorem Gr.none {H : Hp} {a : Addr} {o : HO} (n : H a = Option.none) : Gr H (upd H a o) := Gr.of fun b u e => by
  rw [upd_ne (ne_of_none e n)]
  exact e
namespace CwR
/-- behind it a token is out -/
def PEp (X : Cx) (e : Expr) (t : TE) : Prop := ∀ (pins : List (Addr × Obj)) (s : Shared) (σ : L2.St) (H : Hp) (Q : VK), Inv X pins σ H s → t σ H Q → wpAny (model X.prog X.w) X.A (eval e X.env) (fun u s' => 1 ≤ s'.toks ∧ EP X pins σ Q u s') X.xe s
theorem pep_ix {X : Cx} {a : Expr} {i : Int} {j : Nat} {p pos : Pos} {ta : TE} {r : R2} (hr : IxR X r) (ha : PE X a ta) (hs : PlainIx (.Constant (.int i) j p)) : PEp X (.Subscript a (.Constant (.int i) j p) pos) (tOp r ta (tC (.int i))) := by
  intro pins s σ H Q I h
  refine Subscript_ (thn (ha.run pins s σ H _ I h) fun v s1 ⟨x, H1, I1, r1, q1⟩ => wpAny_Constant_int ?_)
  refine wpAny_mono (PySem.wpAny_toks (hr a _ pins { s1 with toks := s1.toks + 1 } σ H1 x (.int i) v (.int i s1.toks) Q (I1.tok _) r1 ⟨_, rfl⟩ q1 (hs _ _))) (fun u s2 q => ⟨?_, q.2⟩) fun _ _ z => z.2
  have h1 : s1.toks + 1 ≤ s2.toks := q.1
  omega
theorem pep_repl {X : Cx} {o : Expr} {to : TE} {y z : Str} {j k : Nat} {c0 c1 apos pos : Pos} (ho : PEp X o to) (hyz : (y == z) = false := by decide)
    (hst : starEach [.Constant (.str y) j c0, .Constant (.str z) k c1] X.env = [(false, eval (.Constant (.str y) j c0) X.env), (false, eval (.Constant (.str z) k c1) X.env)] := by rfl)
    (hbase : attributeBase o "replace" X.env (eval o X.env) = eval o X.env := by rfl) (hline : (apos.endLine == pos.line) = true := by rfl) :
    PEp X (.Call (.Attribute o "replace" apos) [.Constant (.str y) j c0, .Constant (.str z) k c1] [] pos) (CwR.tReplC to y z) := by
  intro pins s σ H Q I h
  refine PySem.Call_method2 hbase hst hline (wpAny_mono (ho pins s σ H _ I h) (fun v s1 q => ?_) fun _ _ z => z)
  obtain ⟨hk, v', H1, I1, r1, x, e1, hb, q⟩ := q
  subst e1
  obtain ⟨tx, e2⟩ := r1
  subst e2
  refine ⟨"str", _, PySem.F.plainAttrs_str, PySem.F.slot_str_replace, PySem.F.type_str_replace, typeIs_str _ _ _, (fun _ e => nomatch e), Calls.callWith_builtin rfl (Calls.evalArgs_plain (Calls.spliced_cons ?_))⟩
  refine Calls.Constant_str (Calls.spliced_cons (Calls.Constant_str (Calls.spliced_nil ?_)))
  refine wpAny_mono (PySem.wpAny_toks (PySem.SC.replace (Q := fun u s' => EP X pins σ Q u s') (by show s1.toks ≠ 0; omega) (by show s1.toks + 1 ≠ 0; omega) (by show s1.toks ≠ s1.toks + 1; omega) hyz hb fun t' k => ⟨.str (Txt.replace x y z), H1, I1.tok k, ⟨t', rfl⟩, q⟩)) (fun u s2 q => ⟨?_, q.2⟩) fun _ _ z => z.2
  have h1 : s1.toks + 1 + 1 ≤ s2.toks := q.1
  omega
theorem pe_replP {X : Cx} {e : Expr} {t : TE} (h : PEp X e t) : PE X e t := ⟨fun pins s σ H Q I q => wpAny_mono (h pins s σ H Q I q) (fun _ _ z => z.2) fun _ _ z => z⟩
end CwR

/-! ### heaps -/
theorem same_upd {H : Hp} {p : Addr} {o : HO} (h : H p = none) : Same H (upd H p o) := fun b x e => by
  rw [upd_ne (ne_of_none e h)]
  exact e
def Fr (d l : Addr) (H H' : Hp) : Prop := ∀ b o, b ≠ d → b ≠ l → H b = some o → H' b = some o
theorem Fr.trans {d l : Addr} {H H1 H2 : Hp} (a : Fr d l H H1) (b : Fr d l H1 H2) : Fr d l H H2 := fun c o h1 h2 h => b c o h1 h2 (a c o h1 h2 h)
theorem Fr.refl {d l : Addr} {H : Hp} : Fr d l H H := fun _ _ _ _ h => h
theorem Fr.new {d l p : Addr} {H : Hp} {o : HO} (h : H p = none) : Fr d l H (upd H p o) := fun b x _ _ e => same_upd h b x e
theorem Fr.of {d l : Addr} {H H' : Hp} (h : Same H H') : Fr d l H H' := fun b x _ _ e => h b x e
theorem Fr.d {d l : Addr} {H : Hp} {o : HO} : Fr d l H (upd H d o) := fun b x h1 _ e => by rw [upd_ne h1]; exact e
theorem Fr.l {d l : Addr} {H : Hp} {o : HO} : Fr d l H (upd H l o) := fun b x _ h2 e => by rw [upd_ne h2]; exact e
def Deck (H : Hp) (d l : Addr) : Prop := d ≠ l ∧ ∃ (cs : List Int) (z : Int), H d = some (.lst [.ref l, .int z]) ∧ H l = some (.lst (cs.map V.int)) ∧ cs.length ≤ 63 ∧ 0 ≤ z ∧ z < 4294967296
theorem Deck.same {H H' : Hp} {d l : Addr} (D : Deck H d l) (s : Same H H') : Deck H' d l := by
  obtain ⟨ne, cs, z, hd, hl, r⟩ := D
  exact ⟨ne, cs, z, s _ _ hd, s _ _ hl, r⟩
theorem Deck.new {H : Hp} {d l p : Addr} {o : HO} (D : Deck H d l) (h : H p = none) : Deck (upd H p o) d l := D.same (same_upd h)
theorem Deck.ne_new {H : Hp} {d l p : Addr} (D : Deck H d l) (h : H p = none) : p ≠ d ∧ p ≠ l := by
  obtain ⟨ne, cs, z, hd, hl, r⟩ := D
  exact ⟨(ne_of_none hd h).symm, (ne_of_none hl h).symm⟩
theorem p29 : (0 : Int) < 2147483629 := by decide
theorem p47 : (0 : Int) < 2147483647 := by decide
theorem p87 : (0 : Int) < 2147483587 := by decide
theorem sl1 : 1 ≤ sizeLine := by decide
theorem sl2 : 2 ≤ sizeLine := by decide
theorem sl3 : 3 ≤ sizeLine := by decide
theorem sl4 : 4 ≤ sizeLine := by decide
theorem seqIx0 {α : Type} (x : α) (xs : List α) : seqIndex? 0 (x :: xs).length = some 0 := by
  refine (ixN_seq (n := (x :: xs).length) (i := 0) (j := 0) ?_).1
  unfold ixN
  rw [if_pos (by decide), if_pos (by rw [List.length_cons]; omega)]
  rfl
theorem dpInts {K : PySem.W.Frag} {H : Hp} : ∀ cs : List Int, DpAll K H (cs.map V.int) (cs.map PyData.int)
  | [] => .nil
  | c :: r => .cons (.int c) (dpInts r)
theorem shInts (ns : List Int) : SeqAt.shaped (.list (ns.map PyData.int)) = true := by
  unfold SeqAt.shaped
  rw [Bool.and_eq_true]
  refine ⟨?_, ?_⟩
  · simp only [PyData.canLay0, canLayAll_ints]
  · simp only [PyData.depth, depthAll_ints]
    decide
theorem at_pick {xs : List V} {j : Int} (h0 : 0 ≤ j) (h1 : j < xs.length) : ∃ x, atI xs j = some x ∧ x ∈ xs := by
  obtain ⟨k, rfl⟩ : ∃ k : Nat, j = (k : Int) := ⟨j.toNat, (Int.toNat_of_nonneg h0).symm⟩
  have hk : k < xs.length := by omega
  exact ⟨xs[k], atI_nat (List.getElem?_eq_getElem hk), List.getElem_mem hk⟩
theorem units65 {k : Nat} {A : Around} (r : Room k A) : A.units + 65 < cLine := by have := r.un; omega
def rLenK (K : PySem.W.Frag) : List V → Hp → VK → Prop := fun xs H Q => ∃ p ys, xs = [.ref p] ∧ (SqL K H p ys ∨ SqT K H p ys) ∧ Q (.int ys.length) H
def rTupK (K : PySem.W.Frag) : List V → Hp → VK → Prop := fun xs H Q => ∃ p ys, xs = [.ref p] ∧ ((SqL K H p ys ∧ ∀ l, H l = none → Q (.ref l) (upd H l (.tup ys))) ∨ (SqT K H p ys ∧ Q (.ref p) H))
def rLstK (K : PySem.W.Frag) : List V → Hp → VK → Prop := fun xs H Q => ∃ p ys, xs = [.ref p] ∧ (SqL K H p ys ∨ SqT K H p ys) ∧ ∀ l, H l = none → Q (.ref l) (upd H l (.lst ys))
/-- joining ways behind a test, behind an expression -/
def tCutT (t : TT) : TT := fun σ H Q => ∃ Mid : Bool → Hp → Prop, t σ H Mid ∧ ∀ b H1, Mid b H1 → Q b H1
theorem pt_cut {X : Cx} {e : Expr} {t : TT} (h : PT X e t) : PT X e (tCutT t) := ⟨fun pins s σ H Q I hw => by
  obtain ⟨Mid, h1, q⟩ := hw
  exact thn (h.run pins s σ H _ I h1) fun c s1 ⟨H1, I1, m⟩ => ⟨H1, I1, q _ _ m⟩⟩
def tCutE (t : TE) : TE := fun σ H Q => ∃ Mid : VK, t σ H Mid ∧ ∀ v H1, Mid v H1 → Q v H1
theorem pe_cut {X : Cx} {e : Expr} {t : TE} (h : PE X e t) : PE X e (tCutE t) := ⟨fun pins s σ H Q I hw => by
  obtain ⟨Mid, h1, q⟩ := hw
  exact thn (h.run pins s σ H _ I h1) fun u s1 ⟨v, H1, I1, r, m⟩ => ⟨v, H1, I1, r, q _ _ m⟩⟩

/-! ### data made by the law or the program: numbers, truths, texts, lists and tuples of these -/
mutual
inductive Tk (H : Hp) : V → PyData → Prop
  | bl (b : Bool) : Tk H (.bl b) (.bool b)
  | int (i : Int) : Tk H (.int i) (.int i)
  | str (x : Str) : Tk H (.str x) (.str x)
  | lst {a : Addr} {xs : List V} {ds : List PyData} : H a = some (.lst xs) → TkAll H xs ds → Tk H (.ref a) (.list ds)
  | tup {a : Addr} {xs : List V} {ds : List PyData} : H a = some (.tup xs) → TkAll H xs ds → Tk H (.ref a) (.tuple ds)
inductive TkAll (H : Hp) : List V → List PyData → Prop
  | nil : TkAll H [] []
  | cons {v : V} {vs : List V} {d : PyData} {ds : List PyData} : Tk H v d → TkAll H vs ds → TkAll H (v :: vs) (d :: ds)
end
theorem TkAll.length {H : Hp} : ∀ {vs : List V} {ds : List PyData}, TkAll H vs ds → vs.length = ds.length
  | _, _, .nil => rfl
  | _, _, .cons _ t => by rw [List.length_cons, List.length_cons, t.length]
mutual
theorem Tk.same {H H' : Hp} (s : Same H H') : ∀ {v : V} {d : PyData}, Tk H v d → Tk H' v d
  | _, _, .bl b => .bl b
  | _, _, .int i => .int i
  | _, _, .str x => .str x
  | _, _, .lst h t => .lst (s _ _ h) (t.same s)
  | _, _, .tup h t => .tup (s _ _ h) (t.same s)
theorem TkAll.same {H H' : Hp} (s : Same H H') : ∀ {vs : List V} {ds : List PyData}, TkAll H vs ds → TkAll H' vs ds
  | _, _, .nil => .nil
  | _, _, .cons h t => .cons (h.same s) (t.same s)
end
theorem TkAll.get {H : Hp} : ∀ {xs : List V} {ds : List PyData} {j : Nat} {x : V}, TkAll H xs ds → xs[j]? = some x → ∃ d, ds[j]? = some d ∧ Tk H x d
  | _, _, _, _, .nil, h => by simp at h
  | _, _, 0, _, .cons (d := d) a _, h => by
    cases (Option.some.inj h)
    exact ⟨d, rfl, a⟩
  | _, _, j + 1, _, .cons _ t, h => t.get h
theorem TkAll.append {H : Hp} : ∀ {xs ys : List V} {ds es : List PyData}, TkAll H xs ds → TkAll H ys es → TkAll H (xs ++ ys) (ds ++ es)
  | _, _, _, _, .nil, t => t
  | _, _, _, _, .cons a r, t => .cons a (r.append t)
theorem TkAll.ints {H : Hp} : ∀ ns : List Int, TkAll H (ns.map V.int) (ns.map PyData.int)
  | [] => .nil
  | n :: r => .cons (.int n) (TkAll.ints r)
theorem Tk.int_inv {H : Hp} {v : V} {i : Int} (h : Tk H v (.int i)) : v = .int i := by cases h; rfl
theorem Tk.tup_inv {H : Hp} {v : V} {ds : List PyData} (h : Tk H v (.tuple ds)) : ∃ a xs, v = .ref a ∧ H a = some (.tup xs) ∧ TkAll H xs ds := by
  cases h with
  | tup h t => exact ⟨_, _, rfl, h, t⟩
theorem Tk.lst_inv {H : Hp} {v : V} {ds : List PyData} (h : Tk H v (.list ds)) : ∃ a xs, v = .ref a ∧ H a = some (.lst xs) ∧ TkAll H xs ds := by
  cases h with
  | lst h t => exact ⟨_, _, rfl, h, t⟩
theorem TkAll.int_inv {H : Hp} : ∀ {vs : List V} {ns : List Int}, TkAll H vs (ns.map PyData.int) → vs = ns.map V.int
  | _, [], .nil => rfl
  | _, n :: r, .cons h t => by rw [List.map_cons, h.int_inv, t.int_inv]
/-- heaps without one place -/
def hd1 (p : Addr) (H : Hp) : Hp := fun b => if b = p then none else H b
theorem hd1_le {p : Addr} {H : Hp} : Same (hd1 p H) H := fun b o e => by
  unfold hd1 at e
  by_cases h : b = p
  · rw [if_pos h] at e; cases e
  · rw [if_neg h] at e; exact e
theorem hd1_same {p : Addr} {H H' : Hp} (s : Same H H') : Same (hd1 p H) (hd1 p H') := fun b o e => by
  unfold hd1 at e ⊢
  by_cases h : b = p
  · rw [if_pos h] at e; cases e
  · rw [if_neg h] at e ⊢; exact s _ _ e
theorem hd1_upd {p : Addr} {H : Hp} {o : HO} : Same (hd1 p H) (hd1 p (upd H p o)) := fun b x e => by
  unfold hd1 at e ⊢
  by_cases h : b = p
  · rw [if_pos h] at e; cases e
  · rw [if_neg h] at e ⊢; rw [upd_ne h]; exact e
theorem hd1_at {p b : Addr} {H : Hp} (h : b ≠ p) : hd1 p H b = H b := if_neg h
theorem hd1_of {p : Addr} {H H' : Hp} (s : Same H H') (n : H p = none) : Same H (hd1 p H') := fun b o e => by
  rw [hd1_at (ne_of_none e n)]
  exact s _ _ e
theorem same_of_hd1 {p : Addr} {H H' : Hp} {o : HO} (s : Same H (hd1 p H')) : Same H (upd H' p o) := fun b x e => by
  have z := s b x e
  unfold hd1 at z
  by_cases h : b = p
  · rw [if_pos h] at z; cases z
  · rw [if_neg h] at z; rw [upd_ne h]; exact z

/-! ### tables and gates -/
def tabOf (bs : List Bool) : Str := ⟨(bs.map fun b => if b = true then 49 else 48).toArray⟩
def plc (ws : List Int) : Int := ws.foldl (fun p w => 2 * p + w) 0
def gateM (bs : List Bool) (ws : List Int) : Int := if bs.getD (plc ws).toNat false = true then 1 else 0
theorem plc_snoc (ws : List Int) (w : Int) : plc (ws ++ [w]) = 2 * plc ws + w := by
  unfold plc
  rw [List.foldl_append]
  rfl
theorem plc_take {ws : List Int} {i : Nat} {u : Int} (h : ws[i]? = some u) : plc (ws.take (i + 1)) = 2 * plc (ws.take i) + u := by
  rw [List.take_add_one, h]
  exact plc_snoc _ _
theorem plc_bd : ∀ (n : Nat) (ws : List Int), ws.length = n → (∀ w ∈ ws, w = 0 ∨ w = 1) → 0 ≤ plc ws ∧ plc ws < 2 ^ n := by
  intro n
  induction n with
  | zero =>
    intro ws h _
    cases List.eq_nil_of_length_eq_zero h
    decide
  | succ n ih =>
    intro ws h hw
    have hne : ws ≠ [] := fun z => by rw [z] at h; cases h
    obtain ⟨r, x, rfl⟩ : ∃ r x, ws = r ++ [x] := ⟨ws.dropLast, ws.getLast hne, (List.dropLast_concat_getLast hne).symm⟩
    have hr := ih r (by rw [List.length_append] at h; simpa using h) fun w h' => hw w (List.mem_append_left _ h')
    have hx := hw x (by simp)
    rw [plc_snoc, Int.pow_succ]
    omega
theorem gate01 (bs : List Bool) (ws : List Int) : gateM bs ws = 0 ∨ gateM bs ws = 1 := by
  unfold gateM
  split
  · exact .inr rfl
  · exact .inl rfl
theorem int_sign (b : Bool) : PySem.intText? ⟨#[if b = true then 49 else 48]⟩ = some (if b = true then 1 else 0) := by
  cases b <;> decide +kernel
def spGate (K : PySem.W.Frag) : Sp := fun vs H Q _ => ∃ (bs : List Bool) (la : Addr) (ws : List Int), vs = [.str (tabOf bs), .ref la] ∧ SqL K H la (ws.map V.int) ∧ (∀ w ∈ ws, w = 0 ∨ w = 1) ∧ bs.length = 2 ^ ws.length ∧ ws.length ≤ 3 ∧ Q (.int (gateM bs ws)) H
theorem gate_read {bs : List Bool} {ws : List Int} (hw : ∀ w ∈ ws, w = 0 ∨ w = 1) (hb : bs.length = 2 ^ ws.length) (h3 : ws.length ≤ 3) : ∃ b : Bool, 0 ≤ plc ws ∧ plc ws < 2 ^ 63 ∧ plc ws < (tabOf bs).length ∧ (tabOf bs).cps[(plc ws).toNat]? = some (if b = true then 49 else 48) ∧ gateM bs ws = if b = true then 1 else 0 := by
  obtain ⟨p0, p1⟩ := plc_bd _ ws rfl hw
  have p8 : plc ws < 8 := by
    have : (2 : Int) ^ ws.length ≤ 8 := by
      have : ws.length = 0 ∨ ws.length = 1 ∨ ws.length = 2 ∨ ws.length = 3 := by omega
      rcases this with h | h | h | h <;> rw [h] <;> decide
    omega
  have hlt : (plc ws).toNat < bs.length := by
    have : ((2 ^ ws.length : Nat) : Int) = (2 : Int) ^ ws.length := by simp
    omega
  refine ⟨bs[(plc ws).toNat], p0, by omega, ?_, ?_, ?_⟩
  · have : (tabOf bs).length = bs.length := by simp [tabOf, Str.length]
    rw [this]
    omega
  · simp [tabOf, List.getElem?_eq_getElem hlt]
  · unfold gateM
    rw [List.getD_eq_getElem?_getD, List.getElem?_eq_getElem hlt]
    rfl

section
variable {P : Program} {w : World} {K : PySem.W.Frag} {mg : Str → Option Value} {base : Heap}
/-! ### pairs of words -/
def WordAt (H : Hp) (p : Addr) (a b : Int) (c : Bool) : Prop := H p = some (.tup [.int a, .int b, .bl c])
def pairsM (f l : Int) (c : Bool) : List (Int × Int) := if c = true then [(0, 0), (0, 1), (1, 0), (1, 1)] else if f = l then [(f, f)] else if f = 0 then [(0, 0), (0, 1), (1, 1)] else [(0, 0), (1, 0), (1, 1)]
def PairAt (H : Hp) (k : Addr × Int × Int) : Prop := H k.1 = some (.tup [.int k.2.1, .int k.2.2])
def PairsAt (H : Hp) (r : Addr) (ps : List (Int × Int)) : Prop := ∃ ks : List (Addr × Int × Int), H r = some (.tup (ks.map fun k => V.ref k.1)) ∧ (∀ k ∈ ks, PairAt H k) ∧ ks.map (·.2) = ps
theorem PairsAt.same {H H' : Hp} {r : Addr} {ps : List (Int × Int)} (h : PairsAt H r ps) (s : Same H H') : PairsAt H' r ps := by
  obtain ⟨ks, h1, h2, h3⟩ := h
  exact ⟨ks, s _ _ h1, fun k hk => s _ _ (h2 k hk), h3⟩
theorem sorted_one {α : Type} (c : α → Int) : ∀ (T M : List α), T.Pairwise (fun x y => c x < c y) → M.Nodup → M.Pairwise (fun x y => c x ≤ c y) → (∀ x, x ∈ M ↔ x ∈ T) → M = T
  | [], M, _, _, _, hm => by
    cases M with
    | nil => rfl
    | cons m r => cases (hm m).mp (List.mem_cons_self ..)
  | t :: T, M, hT, hn, hp, hm => by
    cases M with
    | nil => cases (hm t).mpr (List.mem_cons_self ..)
    | cons m r =>
      have hT' := List.pairwise_cons.mp hT
      have hn' := List.nodup_cons.mp hn
      have hp' := List.pairwise_cons.mp hp
      have e : m = t := by
        rcases List.mem_cons.mp ((hm m).mp (List.mem_cons_self ..)) with h | h
        · exact h
        · have h1 := hT'.1 m h
          rcases List.mem_cons.mp ((hm t).mpr (List.mem_cons_self ..)) with h2 | h2
          · exact h2.symm
          · have h3 := hp'.1 t h2
            omega
      subst e
      rw [sorted_one c T r hT'.2 hn'.2 hp'.2 fun x => ⟨fun h => ?_, fun h => ?_⟩]
      · rcases List.mem_cons.mp ((hm x).mp (List.mem_cons_of_mem _ h)) with h2 | h2
        · subst h2
          exact absurd h hn'.1
        · exact h2
      · rcases List.mem_cons.mp ((hm x).mpr (List.mem_cons_of_mem _ h)) with h2 | h2
        · subst h2
          have := hT'.1 x h
          omega
        · exact h2
def sp_pairs_of (K : PySem.W.Frag) : Sp := fun vs H Q _ => ∃ (wd : Addr) (f l : Int) (c : Bool), vs = [.ref wd] ∧ WordAt H wd f l c ∧ (f = 0 ∨ f = 1) ∧ (l = 0 ∨ l = 1) ∧ ∀ r H', Same H H' → PairsAt H' r (pairsM f l c) → Q (.ref r) H'
theorem code2 (x y : Int) : TS.code 64 [x, y] = x * 64 + y := code_pair x y
theorem pairs_sorted {f l : Int} (hf : f = 0 ∨ f = 1) (hl : l = 0 ∨ l = 1) {M : List (List Int)} (hn : M.Nodup) (hp : M.Pairwise fun x y => TS.code 64 x ≤ TS.code 64 y) (h1 : ∀ x ∈ M, x ∈ [[f, f], [f, l], [l, l]]) (h2 : ∀ x ∈ [[f, f], [f, l], [l, l]], x ∈ M) : M.map (fun x => (x.getD 0 0, x.getD 1 0)) = pairsM f l false := by
  have key : ∀ T : List (List Int), T.Pairwise (fun x y => TS.code 64 x < TS.code 64 y) → (∀ x ∈ [[f, f], [f, l], [l, l]], x ∈ T) → (∀ x ∈ T, x ∈ [[f, f], [f, l], [l, l]]) → M = T := fun T hT a b =>
    sorted_one (TS.code 64) T M hT hn hp fun x => ⟨fun h => a x (h1 x h), fun h => h2 x (b x h)⟩
  rcases hf with rfl | rfl <;> rcases hl with rfl | rfl
  · rw [key [[0, 0]] (by decide) (by decide) (by decide)]; rfl
  · rw [key [[0, 0], [0, 1], [1, 1]] (by decide) (by decide) (by decide)]; rfl
  · rw [key [[0, 0], [1, 0], [1, 1]] (by decide) (by decide) (by decide)]; rfl
  · rw [key [[1, 1]] (by decide) (by decide) (by decide)]; rfl
theorem ok_pairs_of (T : Tx K mg) : FnOk P w K mg base CX0 1 T.f_pairs_of T.fd_pairs_of ["word"] (sp_pairs_of K) := by
  refine T.F_pairs_of.ok sc_pairs_of (fun vs H Q E h => ?_) (fun cdv A outer s H vs Q E hr h => ?_)
  · obtain ⟨wd, f, l, c, rfl, _⟩ := h
    rfl
  · obtain ⟨wd, f, l, c, rfl, hw, hf, hl, q⟩ := h
    refine ⟨_, (pss_cons (ps_asg (pv 0) (pg_tup rfl (pgs_cons (pg_name (i := 1) sc_pairs_of.nd rfl (by first | exact .inl rfl | exact .inr rfl)) (pgs_cons (pg_name (i := 2) sc_pairs_of.nd rfl (by first | exact .inl rfl | exact .inr rfl)) (pgs_cons (pg_name (i := 3) sc_pairs_of.nd rfl (by first | exact .inl rfl | exact .inr rfl)) pgs_nil))))) (pss_cons (ps_if (pt_val (pv 3)) (pss_one (ps_ret (pe_tup (pa_cons (pe_tup (pa_cons pe_int (pa_cons pe_int pa_nil))) (pa_cons (pe_tup (pa_cons pe_int (pa_cons pe_int pa_nil))) (pa_cons (pe_tup (pa_cons pe_int (pa_cons pe_int pa_nil))) (pa_cons (pe_tup (pa_cons pe_int (pa_cons pe_int pa_nil))) pa_nil))))))) pss_nil) (pss_one (ps_ret (pe_callTy call_tuple_of (by rfl) T.m_tuple (by decide +kernel) (pa_cons (pe_callB (cr_sortedT rfl) (by rfl) T.m_sorted (by decide +kernel) (pa_cons (pe_callTy (cr_setOfT rfl hr.units) (by rfl) T.m_set (by decide +kernel) (pa_cons (pe_lst (pa_cons (pe_tup (pa_cons (pv 1) (pa_cons (pv 1) pa_nil))) (pa_cons (pe_tup (pa_cons (pv 1) (pa_cons (pv 2) pa_nil))) (pa_cons (pe_tup (pa_cons (pv 2) (pa_cons (pv 2) pa_nil))) pa_nil)))) pa_nil)) pa_nil)) pa_nil)))))), ?_⟩
    refine ⟨.ref wd, rfl, wd, _, rfl, SqT.of hw, rfl, _, _, rfl, _, _, rfl, _, _, rfl, rfl, ?_⟩
    refine ⟨.bl c, rfl, c, rfl, ?_⟩
    cases c with
    | true =>
      refine iteT ?_
      refine ⟨sl2, fun t1 n1 => ⟨sl2, fun t2 n2 => ⟨sl2, fun t3 n3 => ⟨sl2, fun t4 n4 => ⟨sl4, fun r nr => ?_⟩⟩⟩⟩⟩
      have e1 := same_upd (o := .tup [.int 0, .int 0]) n1
      have e2 := same_upd (o := .tup [.int 0, .int 1]) n2
      have e3 := same_upd (o := .tup [.int 1, .int 0]) n3
      have e4 := same_upd (o := .tup [.int 1, .int 1]) n4
      have e5 := same_upd (o := .tup [.ref t1, .ref t2, .ref t3, .ref t4]) nr
      refine q r _ ((((e1.trans e2).trans e3).trans e4).trans e5) ⟨[(t1, 0, 0), (t2, 0, 1), (t3, 1, 0), (t4, 1, 1)], upd_same, fun k hk => ?_, rfl⟩
      rcases List.mem_cons.mp hk with rfl | hk
      · exact e5 _ _ (e4 _ _ (e3 _ _ (e2 _ _ upd_same)))
      · rcases List.mem_cons.mp hk with rfl | hk
        · exact e5 _ _ (e4 _ _ (e3 _ _ upd_same))
        · rcases List.mem_cons.mp hk with rfl | hk
          · exact e5 _ _ (e4 _ _ upd_same)
          · rcases List.mem_cons.mp hk with rfl | hk
            · exact e5 _ _ upd_same
            · cases hk
    | false =>
      refine iteF ?_
      refine ⟨.int f, rfl, .int f, rfl, sl2, fun t1 n1 => ⟨.int f, rfl, .int l, rfl, sl2, fun t2 n2 => ⟨.int l, rfl, .int l, rfl, sl2, fun t3 n3 => ⟨sl3, fun li nli => ?_⟩⟩⟩⟩
      have e1 := same_upd (o := .tup [.int f, .int f]) n1
      have e2 := same_upd (o := .tup [.int f, .int l]) n2
      have e3 := same_upd (o := .tup [.int l, .int l]) n3
      have e4 := same_upd (o := .lst [.ref t1, .ref t2, .ref t3]) nli
      have eA := ((e1.trans e2).trans e3).trans e4
      have g1 := e4 _ _ (e3 _ _ (e2 _ _ (upd_same (H := H) (a := t1) (o := .tup [.int f, .int f]))))
      have g2 := e4 _ _ (e3 _ _ (upd_same (a := t2) (o := .tup [.int f, .int l])))
      have g3 := e4 _ _ (upd_same (a := t3) (o := .tup [.int l, .int l]))
      have g4 := upd_same (H := upd (upd (upd H t1 (.tup [.int f, .int f])) t2 (.tup [.int f, .int l])) t3 (.tup [.int l, .int l])) (a := li) (o := .lst [.ref t1, .ref t2, .ref t3])
      revert eA g1 g2 g3 g4
      generalize upd (upd (upd (upd H t1 (.tup [.int f, .int f])) t2 (.tup [.int f, .int l])) t3 (.tup [.int l, .int l])) li (.lst [.ref t1, .ref t2, .ref t3]) = H1
      intro eA g1 g2 g3 g4
      have gk : ∀ p ∈ ([(t1, [f, f]), (t2, [f, l]), (t3, [l, l])] : List (Addr × List Int)), H1 p.1 = some (.tup (p.2.map V.int)) ∧ p.2 ∈ [[f, f], [f, l], [l, l]] := fun p hp => by
        rcases List.mem_cons.mp hp with rfl | hp
        · exact ⟨g1, by simp⟩
        · rcases List.mem_cons.mp hp with rfl | hp
          · exact ⟨g2, by simp⟩
          · rcases List.mem_cons.mp hp with rfl | hp
            · exact ⟨g3, by simp⟩
            · cases hp
      refine ⟨li, [(t1, [f, f]), (t2, [f, l]), (t3, [l, l])], rfl, SqL.of g4, fun p hp => SqT.of (gk p hp).1, by show 3 < 64; decide, fun sa L nsa hL1 hL2 => ?_⟩
      have e5 := same_upd (o := SetTO P w sa L) nsa
      have b01 : ∀ x ∈ [[f, f], [f, l], [l, l]], x.length = 2 ∧ TS.Bd 64 x := by
        rcases hf with rfl | rfl <;> rcases hl with rfl | rfl <;> (unfold TS.Bd; decide)
      refine ⟨sa, L, 2, 64, rfl, upd_same, fun p hp => SqT.of (e5 _ _ (gk p (hL1 p hp)).1), by decide, fun p hp => b01 _ (gk p (hL1 p hp)).2, fun L' pl pm nd few so npl => ?_⟩
      have e6 := same_upd (o := .lst (L'.map fun q => V.ref q.1)) npl
      refine ⟨pl, _, rfl, .inl ⟨SqL.of upd_same, fun r nr => ?_⟩⟩
      have e7 := same_upd (o := .tup (L'.map fun q => V.ref q.1)) nr
      refine q r _ (eA.trans (e5.trans (e6.trans e7))) ⟨L'.map fun q => (q.1, q.2.getD 0 0, q.2.getD 1 0), ?_, fun k hk => ?_, ?_⟩
      · rw [upd_same, List.map_map]
        rfl
      · obtain ⟨p, hp, rfl⟩ := List.mem_map.mp hk
        have hp2 := gk p (hL1 p (pm.mem_iff.mp hp))
        have := e7 _ _ (e6 _ _ (e5 _ _ hp2.1))
        unfold PairAt
        rw [this]
        obtain ⟨pa, pb⟩ := p
        rcases List.mem_cons.mp hp2.2 with h | h
        · dsimp only at h ⊢; rw [h]; rfl
        · rcases List.mem_cons.mp h with h | h
          · dsimp only at h ⊢; rw [h]; rfl
          · rcases List.mem_cons.mp h with h | h
            · dsimp only at h ⊢; rw [h]; rfl
            · cases h
      · rw [List.map_map, ← pairs_sorted hf hl (M := L'.map (·.2)) nd (List.pairwise_map.mpr so) (fun x hx => ?_) (fun x hx => ?_), List.map_map]
        · rfl
        · obtain ⟨p, hp, rfl⟩ := List.mem_map.mp hx
          exact (gk p (hL1 p (pm.mem_iff.mp hp))).2
        · have : x ∈ L.map (·.2) := by
            rcases List.mem_cons.mp hx with rfl | hx
            · exact hL2 (t1, [f, f]) (by simp)
            · rcases List.mem_cons.mp hx with rfl | hx
              · exact hL2 (t2, [f, l]) (by simp)
              · rcases List.mem_cons.mp hx with rfl | hx
                · exact hL2 (t3, [l, l]) (by simp)
                · cases hx
          exact (pm.map (·.2)).mem_iff.mpr this

theorem ok_table_worth (T : Tx K mg) : FnOk P w K mg base CX0 1 T.f_table_worth T.fd_table_worth ["table", "worths"] (spGate K) := by
  refine T.F_table_worth.ok sc_table_worth (fun vs H Q E h => ?_) (fun cdv A outer s H vs Q E hr h => ?_)
  · obtain ⟨bs, la, ws, rfl, _⟩ := h
    rfl
  · obtain ⟨bs, la, ws, rfl, hS, hw, hb, h3, q⟩ := h
    obtain ⟨b, p0, p1, p2, p3, p4⟩ := gate_read hw hb h3
    refine ⟨_, (pss_cons (ps_set (i := 2) sc_table_worth.nd rfl (by first | exact .inl rfl | exact .inr rfl) pe_int) (pss_cons (ps_for PassesOwn.never rfl (pi_list (pv 1)) (pg_name (i := 3) sc_table_worth.nd rfl (by first | exact .inl rfl | exact .inr rfl)) (pss_one (ps_set (i := 2) sc_table_worth.nd rfl (by first | exact .inl rfl | exact .inr rfl) (pe_op op_add (pe_op op_mul pe_int (pv 2)) (pv 3))))) (pss_one (ps_ret (pe_callTy call_int_str (by rfl) T.m_int (by decide +kernel) (pa_cons (pe_item_str (pv 0) (pv 2) (fun _ _ => rfl)) pa_nil)))))), ?_⟩
    refine ⟨.ref la, rfl, la, rfl, ⟨_, hS⟩, for_list (K := K) (a := la) (xs := ws.map V.int) (fun i σ H' => ∃ y, σ = [some (.str (tabOf bs)), some (.ref la), some (.int (plc (ws.take i))), y] ∧ H' = H) ⟨none, rfl, rfl⟩ (fun i σ H' _ ⟨_, _, e⟩ => by rw [e]; exact hS) ?_ ?_⟩
    · rintro i x σ H' hx ⟨y, rfl, rfl⟩
      obtain ⟨u, hu, rfl⟩ : ∃ u, ws[i]? = some u ∧ x = V.int u := by
        rw [List.getElem?_map] at hx
        cases hz : ws[i]? with
        | none => rw [hz] at hx; cases hx
        | some u => rw [hz] at hx; exact ⟨u, rfl, (Option.some.inj hx).symm⟩
      refine ⟨.int (plc (ws.take i)), rfl, 2, _, rfl, rfl, .inl ⟨by decide, by decide⟩, .int u, rfl, _, _, rfl, rfl, some (.int u), ?_, rfl⟩
      rw [plc_take hu]
      rfl
    · rintro σ H' ⟨y, rfl, rfl⟩
      rw [List.length_map, List.take_length]
      refine ⟨.str (tabOf bs), rfl, .int (plc ws), rfl, _, _, _, rfl, rfl, p0, p1, p2, p3, _, _, rfl, int_sign b, (show 1 ≤ 640 by decide), ?_⟩
      rw [← p4]
      exact q
end
end Gk

set_option Elab.async false
set_option linter.all false
set_option maxRecDepth 100000
namespace Gk
open PySem PySem.Spec PyProof.Rows L2
section
variable {P : Program} {w : World} {K : PySem.W.Frag} {mg : Str → Option Value} {base : Heap}
/-! ### all choices -/
def stepC {α : Type} (cs : List (List α)) (os : List α) : List (List α) := cs.flatMap fun c => os.map fun o => c ++ [o]
def chs {α : Type} (ls : List (List α)) : List (List α) := ls.foldl stepC [[]]
theorem chs_snoc {α : Type} (ls : List (List α)) (os : List α) : chs (ls ++ [os]) = stepC (chs ls) os := by
  unfold chs
  rw [List.foldl_append]
  rfl
theorem stepC_snoc {α : Type} (cs : List (List α)) (c : List α) (os : List α) : stepC (cs ++ [c]) os = stepC cs os ++ os.map fun o => c ++ [o] := by
  unfold stepC
  rw [List.flatMap_append]
  simp
theorem stepC_len {α : Type} (cs : List (List α)) (os : List α) : (stepC cs os).length = cs.length * os.length := by
  induction cs with
  | nil => simp [stepC]
  | cons c r ih =>
    have : stepC (c :: r) os = (os.map fun o => c ++ [o]) ++ stepC r os := by simp [stepC]
    rw [this, List.length_append, List.length_map, ih, List.length_cons, Nat.succ_mul]
    omega
theorem chs_len {α : Type} (m : Nat) (hm : 1 ≤ m) : ∀ (n : Nat) (ls : List (List α)), ls.length = n → (∀ l ∈ ls, l.length ≤ m) → (chs ls).length ≤ m ^ n := by
  intro n
  induction n with
  | zero =>
    intro ls h _
    cases List.eq_nil_of_length_eq_zero h
    exact Nat.le_refl _
  | succ n ih =>
    intro ls h hl
    have hne : ls ≠ [] := fun z => by rw [z] at h; cases h
    obtain ⟨r, x, rfl⟩ : ∃ r x, ls = r ++ [x] := ⟨ls.dropLast, ls.getLast hne, (List.dropLast_concat_getLast hne).symm⟩
    have hr := ih r (by rw [List.length_append] at h; simpa using h) fun l h' => hl l (List.mem_append_left _ h')
    rw [chs_snoc, stepC_len, Nat.pow_succ]
    exact Nat.mul_le_mul hr (hl x (by simp))
theorem chs_width {α : Type} : ∀ (ls : List (List α)) (c : List α), c ∈ chs ls → c.length = ls.length := by
  have key : ∀ (n : Nat) (ls : List (List α)), ls.length = n → ∀ c ∈ chs ls, c.length = n := by
    intro n
    induction n with
    | zero =>
      intro ls h c hc
      cases List.eq_nil_of_length_eq_zero h
      cases List.mem_singleton.mp hc
      rfl
    | succ n ih =>
      intro ls h c hc
      have hne : ls ≠ [] := fun z => by rw [z] at h; cases h
      obtain ⟨r, x, rfl⟩ : ∃ r x, ls = r ++ [x] := ⟨ls.dropLast, ls.getLast hne, (List.dropLast_concat_getLast hne).symm⟩
      rw [chs_snoc] at hc
      obtain ⟨c0, h0, hc⟩ := List.mem_flatMap.mp hc
      obtain ⟨o, _, rfl⟩ := List.mem_map.mp hc
      rw [List.length_append, ih r (by rw [List.length_append] at h; simpa using h) c0 h0]
      rfl
  exact fun ls c h => key _ ls rfl c h
theorem chs_map {α β : Type} (f : α → β) : ∀ (n : Nat) (ls : List (List α)), ls.length = n → chs (ls.map (List.map f)) = (chs ls).map (List.map f) := by
  intro n
  induction n with
  | zero =>
    intro ls h
    cases List.eq_nil_of_length_eq_zero h
    rfl
  | succ n ih =>
    intro ls h
    have hne : ls ≠ [] := fun z => by rw [z] at h; cases h
    obtain ⟨r, x, rfl⟩ : ∃ r x, ls = r ++ [x] := ⟨ls.dropLast, ls.getLast hne, (List.dropLast_concat_getLast hne).symm⟩
    rw [List.map_append, List.map_singleton, chs_snoc, chs_snoc, ih r (by rw [List.length_append] at h; simpa using h)]
    unfold stepC
    rw [List.flatMap_map, List.map_flatMap]
    congr 1
    funext c
    simp
def sp_choices_of (K : PySem.W.Frag) : Sp := fun vs H Q _ => ∃ (la : Addr) (xs : List V) (os : List (List PyData)), vs = [.ref la] ∧ H la = some (.lst xs) ∧ TkAll H xs (os.map PyData.tuple) ∧ (os.length ≤ 3 ∨ os.length ≤ 8 ∧ ∀ o ∈ os, o.length ≤ 2) ∧ (∀ o ∈ os, o.length ≤ 8) ∧ ∀ r H', Same H H' → Tk H' (.ref r) (.tuple ((chs os).map PyData.tuple)) → Q (.ref r) H'
theorem ok_choices_of (T : Tx K mg) : FnOk P w K mg base CX0 1 T.f_choices_of T.fd_choices_of ["lists"] (sp_choices_of K) := by
  refine T.F_choices_of.ok sc_choices_of (fun vs H Q E h => ?_) (fun cdv A outer s H vs Q E hr h => ?_)
  · obtain ⟨la, xs, os, rfl, _⟩ := h
    rfl
  · obtain ⟨la, xs, os, rfl, hla, tk, o3, o8, q⟩ := h
    have big : ∀ i, i ≤ os.length → (chs (os.take i)).length ≤ 512 := fun i hi => by
      rcases o3 with o3 | ⟨o3, o2⟩
      · have h1 := chs_len 8 (by decide) i (os.take i) (by rw [List.length_take]; omega) fun l hl => o8 l (List.mem_of_mem_take hl)
        have h2 : 8 ^ i ≤ 8 ^ 3 := Nat.pow_le_pow_right (by decide) (by omega)
        omega
      · have h1 := chs_len 2 (by decide) i (os.take i) (by rw [List.length_take]; omega) fun l hl => o2 l (List.mem_of_mem_take hl)
        have h2 : 2 ^ i ≤ 2 ^ 8 := Nat.pow_le_pow_right (by decide) (by omega)
        omega
    refine ⟨_, (pss_cons (ps_set (i := 1) sc_choices_of.nd rfl (by first | exact .inl rfl | exact .inr rfl) (pe_lst (pa_cons (pe_tup pa_nil) pa_nil))) (pss_cons (ps_for PassesOwn.never rfl (pi_list (pv 0)) (pg_name (i := 2) sc_choices_of.nd rfl (by first | exact .inl rfl | exact .inr rfl)) (pss_one (ps_setLc2 (i := 1) (own := [("choice", 3), ("option", 4)]) (vs1 := [4]) (by rfl) sc_choices_of.nd rfl rfl (sw_true rfl rfl rfl (by decide +kernel)) (pi_list (pv 1)) (blkOk_by (own := [("choice", 3), ("option", 4)]) (N := ["lists", "choices", "options", "choice", "option"]) (sc := defScope s_choices_of) (by decide +kernel)) (by decide) (fun _ _ _ _ _ => (pg_name (i := 3) sc_choices_of.nd rfl (by first | exact .inl rfl | exact .inr rfl))) (fun _ _ _ _ _ => pts_nil) (fun _ _ _ _ _ => (show PI _ _ _ (iTup K _) from pi_tup (pv 2))) (fun _ _ _ _ _ => (pg_name (i := 4) sc_choices_of.nd rfl (by first | exact .inl rfl | exact .inr rfl))) (fun _ _ _ _ _ => pts_nil) (fun _ _ _ _ _ => (pe_op (show OpR _ _ (rCatA K) from op_catA) (pv 3) (pe_tup (pa_cons (pv 4) pa_nil))))))) (pss_one (ps_ret (pe_callTy call_tuple_of (by rfl) T.m_tuple (by decide +kernel) (pa_cons (pv 1) pa_nil)))))), ?_⟩
    refine ⟨Nat.zero_le _, fun t0 n0 => ⟨sl1, fun c0 nc0 => ?_⟩⟩
    refine ⟨.ref la, rfl, la, rfl, ⟨_, SqL.of (same_upd nc0 _ _ (same_upd n0 _ _ hla))⟩, for_list (K := K) (a := la) (xs := xs) (fun i σ H' => ∃ ca y2, σ = [some (.ref la), some (.ref ca), y2, none, none] ∧ Same H H' ∧ Tk H' (.ref ca) (.list ((chs (os.take i)).map PyData.tuple)))
      ⟨c0, none, rfl, (same_upd n0).trans (same_upd nc0), .lst upd_same (.cons (.tup (same_upd nc0 _ _ upd_same) .nil) .nil)⟩ (fun i σ H' _ ⟨_, _, _, z, _⟩ => SqL.of (z _ _ hla)) ?_ ?_⟩
    · rintro i x σ H1 hx ⟨ca, y2, rfl, s1, tc⟩
      obtain ⟨dx, hdx, tx⟩ := tk.get hx
      obtain ⟨op, hop, rfl⟩ : ∃ op, os[i]? = some op ∧ dx = .tuple op := by
        rw [List.getElem?_map] at hdx
        cases hz : os[i]? with
        | none => rw [hz] at hdx; cases hdx
        | some op => rw [hz] at hdx; exact ⟨op, rfl, (Option.some.inj hdx).symm⟩
      obtain ⟨oa, ys, rfl, hoa, ty⟩ := tx.tup_inv
      obtain ⟨ca', cs, e, hca, tcs⟩ := tc.lst_inv
      cases e
      have hi : i < os.length := (List.getElem?_eq_some_iff.mp hop).1
      have o8' := o8 op (List.mem_of_getElem? hop)
      have ytake : chs (os.take (i + 1)) = stepC (chs (os.take i)) op := by
        rw [List.take_add_one, hop]
        exact chs_snoc _ _
      have bigN := big (i + 1) hi
      rw [ytake] at bigN
      refine ⟨.ref ca, rfl, ca, rfl, ⟨_, SqL.of hca⟩, fun D nD => ?_⟩
      have lcs : cs.length = (chs (os.take i)).length := by rw [tcs.length, List.length_map]
      -- both walks
      refine ⟨fun k m H' => m = cs.length - k ∧ k ≤ cs.length ∧ Same H1 (hd1 D H') ∧ ∃ acc, H' D = some (.lst acc) ∧ TkAll (hd1 D H') acc ((stepC ((chs (os.take i)).take k) op).map PyData.tuple), ⟨_, rfl, Nat.zero_le _, hd1_of (same_upd nD) nD, [], upd_same, .nil⟩, ?_⟩
      rintro k m H2 ⟨rfl, hk, s2, acc, hD, ta⟩
      have hca2 := hd1_le _ _ (s2 _ _ hca)
      by_cases hlt : k < cs.length
      · obtain ⟨c, hc⟩ : ∃ c, (chs (os.take i))[k]? = some c := ⟨_, List.getElem?_eq_getElem (by omega)⟩
        have htk : (chs (os.take i)).take (k + 1) = (chs (os.take i)).take k ++ [c] := by
          rw [List.take_add_one, hc]
          rfl
        refine .inr ⟨⟨cs, cs[k], SqL.of hca2, List.getElem?_eq_getElem hlt⟩, fun H' => Same H1 (hd1 D H') ∧ ∃ acc, H' D = some (.lst acc) ∧ TkAll (hd1 D H') acc ((stepC ((chs (os.take i)).take (k + 1)) op).map PyData.tuple), fun σ' ⟨z1, z2⟩ => ⟨cs.length - (k + 1), by omega, rfl, by omega, z1, z2⟩, fun x H' hy => ?_⟩
        obtain ⟨rfl, hy⟩ := hy
        have hx2 : cs[k]? = some x := hy cs (SqL.of hca2)
        obtain ⟨dc, hdc, tx2⟩ := tcs.get hx2
        obtain rfl : dc = .tuple c := by
          rw [List.getElem?_map, hc] at hdc
          exact (Option.some.inj hdc).symm
        obtain ⟨xa, zs, rfl, hxa, tz⟩ := tx2.tup_inv
        refine ⟨rfl, ?_⟩
        have hoa2 := hd1_le _ _ (s2 _ _ (s1 _ _ hoa))
        refine ⟨.ref oa, rfl, oa, rfl, ⟨_, SqT.of hoa2⟩, ?_⟩
        refine ⟨fun j n H' => n = ys.length - j ∧ j ≤ ys.length ∧ Same H1 (hd1 D H') ∧ ∃ acc, H' D = some (.lst acc) ∧ TkAll (hd1 D H') acc ((stepC ((chs (os.take i)).take k) op ++ (op.take j).map fun o => c ++ [o]).map PyData.tuple), ⟨_, rfl, Nat.zero_le _, s2, acc, hD, by rw [List.take_zero, List.map_nil, List.append_nil]; exact ta⟩, ?_⟩
        rintro j n H3 ⟨rfl, hj, s3, acc3, hD3, ta3⟩
        have hoa3 := hd1_le _ _ (s3 _ _ (s1 _ _ hoa))
        have lys : ys.length = op.length := ty.length
        by_cases hjl : j < ys.length
        · obtain ⟨ov, hov⟩ : ∃ ov, op[j]? = some ov := ⟨_, List.getElem?_eq_getElem (by omega)⟩
          refine .inr ⟨⟨ys, ys[j], SqT.of hoa3, List.getElem?_eq_getElem hjl⟩, fun H' => Same H1 (hd1 D H') ∧ ∃ acc, H' D = some (.lst acc) ∧ TkAll (hd1 D H') acc ((stepC ((chs (os.take i)).take k) op ++ (op.take (j + 1)).map fun o => c ++ [o]).map PyData.tuple), fun σ' ⟨z1, z2⟩ => ⟨ys.length - (j + 1), by omega, rfl, by omega, z1, z2⟩, fun y Hn hy => ?_⟩
          obtain ⟨rfl, hy⟩ := hy
          have hy2 : ys[j]? = some y := hy ys (SqT.of hoa3)
          obtain ⟨dy, hdy, ty2⟩ := ty.get hy2
          cases Option.some.inj (hdy.symm.trans hov)
          refine ⟨rfl, ?_⟩
          -- choice + (option,)
          have hxa3 := hd1_le _ _ (s3 _ _ hxa)
          refine ⟨.ref xa, rfl, y, rfl, sl1, fun t nt => ?_⟩
          have st := same_upd (o := .tup [y]) nt
          have ntD : t ≠ D := (ne_of_none hD3 nt).symm
          have sD := hd1_same (p := D) st
          have ty3 : Tk (hd1 D Hn) y ov := ty2.same (s1.trans s3)
          have tz3 : TkAll (hd1 D Hn) zs c := tz.same s3
          have lacc : acc3.length < sizeLine := by
            have h1 := ta3.length
            rw [List.length_map, List.length_append, stepC_len, List.length_map, List.length_take, List.length_take] at h1
            have h2 : min k (chs (os.take i)).length * op.length ≤ 512 * 8 := Nat.mul_le_mul (by have := big i (by omega); omega) o8'
            have : sizeLine = 16777216 := by decide
            omega
          have done : ∀ (H4 : Hp) (p : Addr), Same (hd1 D Hn) (hd1 D H4) → H4 D = some (.lst acc3) → p ≠ D → H4 p = some (.tup (zs ++ [y])) → TkAll (hd1 D H4) zs c → Tk (hd1 D H4) y ov → ∃ acc, H4 D = some (.lst acc) ∧ acc.length < sizeLine ∧ Same H1 (hd1 D (upd H4 D (.lst (acc ++ [.ref p])))) ∧ ∃ acc', (upd H4 D (.lst (acc ++ [.ref p]))) D = some (.lst acc') ∧ TkAll (hd1 D (upd H4 D (.lst (acc ++ [.ref p])))) acc' ((stepC ((chs (os.take i)).take k) op ++ (op.take (j + 1)).map fun o => c ++ [o]).map PyData.tuple) := fun H4 p s4 h4 np hp tzz tyy => by
            refine ⟨acc3, h4, lacc, (s3.trans s4).trans hd1_upd, acc3 ++ [.ref p], upd_same, ?_⟩
            rw [List.take_add_one, hov]
            show TkAll _ _ ((_ ++ (op.take j ++ [ov]).map _).map _)
            rw [List.map_append (l₁ := op.take j), ← List.append_assoc, List.map_append]
            refine ((ta3.same s4).same hd1_upd).append (.cons (.tup (xs := zs ++ [y]) ?_ ((tzz.same hd1_upd).append (.cons (tyy.same hd1_upd) .nil))) .nil)
            rw [hd1_at np, upd_ne np]
            exact hp
          have lz : zs.length + 1 ≤ sizeLine := by
            have h1 := (Tk.tup hxa tz)
            have h2 := tz.length
            have h3 : c.length ≤ 8 := by
              have := chs_width (os.take i) c (List.mem_of_getElem? hc)
              have h8 : os.length ≤ 8 := by rcases o3 with o | ⟨o, _⟩ <;> omega
              rw [this, List.length_take]
              omega
            have : sizeLine = 16777216 := by decide
            omega
          refine ⟨xa, t, zs, [y], rfl, rfl, SqT.of (st _ _ hxa3), SqT.of upd_same, lz, fun ez => ?_, (fun _ z => by cases z), fun nz _ p np => ?_⟩
          · subst ez
            exact done _ t sD (st _ _ hD3) ntD upd_same (tz3.same sD) (ty3.same sD)
          · have sp := same_upd (o := .tup (zs ++ [y])) np
            have sDp := hd1_same (p := D) sp
            have npD : p ≠ D := (ne_of_none (st _ _ hD3) np).symm
            exact done _ p (sD.trans sDp) (sp _ _ (st _ _ hD3)) npD upd_same ((tz3.same sD).same sDp) ((ty3.same sD).same sDp)
        · have ej : j = ys.length := by omega
          refine .inl ⟨⟨ys, SqT.of hoa3, by omega⟩, s3, acc3, hD3, ?_⟩
          rw [htk, stepC_snoc]
          rw [ej, lys, List.take_length] at ta3
          exact ta3
      · have ek : k = cs.length := by omega
        refine .inl ⟨⟨cs, SqL.of hca2, by omega⟩, ?_⟩
        refine ⟨D, _, rfl, fun b o e => hd1_le _ _ (s2 _ _ (s1 _ _ e)), ?_⟩
        rw [ytake]
        refine .lst hD ?_
        rw [ek, lcs, List.take_length] at ta
        exact ta.same hd1_le
    · rintro σ H1 ⟨ca, y2, rfl, s1, tc⟩
      have lx : xs.length = os.length := by rw [tk.length, List.length_map]
      rw [lx, List.take_length] at tc
      obtain ⟨ca', cs, e, hca, tcs⟩ := tc.lst_inv
      cases e
      refine ⟨.ref ca, rfl, ca, cs, rfl, .inl ⟨SqL.of hca, fun r nr => ?_⟩⟩
      exact q r _ (s1.trans (same_upd nr)) (.tup upd_same (tcs.same (same_upd nr)))

/-! ### the word of a gate -/
abbrev Wd := Int × Int × Bool
def wD (x : Wd) : PyData := .tuple [.int x.1, .int x.2.1, .bool x.2.2]
def Wok (x : Wd) : Prop := (x.1 = 0 ∨ x.1 = 1) ∧ (x.2.1 = 0 ∨ x.2.1 = 1)
def pw (x : Wd) : List (Int × Int) := pairsM x.1 x.2.1 x.2.2
def prD (p : Int × Int) : PyData := .tuple [.int p.1, .int p.2]
theorem wd_inv {H : Hp} {v : V} {x : Wd} (h : Tk H v (wD x)) : ∃ a, v = .ref a ∧ H a = some (.tup [.int x.1, .int x.2.1, .bl x.2.2]) := by
  obtain ⟨a, xs, rfl, ha, t⟩ := h.tup_inv
  cases t with
  | cons h1 t => cases t with
    | cons h2 t => cases t with
      | cons h3 t =>
        cases t
        cases h1
        cases h2
        cases h3
        exact ⟨a, rfl, ha⟩
theorem pr_inv {H : Hp} {v : V} {p : Int × Int} (h : Tk H v (prD p)) : ∃ a, v = .ref a ∧ H a = some (.tup [.int p.1, .int p.2]) := by
  obtain ⟨a, xs, rfl, ha, t⟩ := h.tup_inv
  cases t with
  | cons h1 t => cases t with
    | cons h2 t =>
      cases t
      cases h1
      cases h2
      exact ⟨a, rfl, ha⟩
theorem tkPairs {H : Hp} : ∀ ks : List (Addr × Int × Int), (∀ k ∈ ks, PairAt H k) → TkAll H (ks.map fun k => V.ref k.1) ((ks.map (·.2)).map prD)
  | [], _ => .nil
  | k :: r, h => .cons (.tup (h k (List.mem_cons_self ..)) (.cons (.int _) (.cons (.int _) .nil))) (tkPairs r fun x hx => h x (List.mem_cons_of_mem _ hx))
theorem PairsAt.tk {H : Hp} {r D : Addr} {ps : List (Int × Int)} {acc : List V} (h : PairsAt H r ps) (hD : H D = some (.lst acc)) : Tk (hd1 D H) (.ref r) (.tuple (ps.map prD)) := by
  obtain ⟨ks, h1, h2, h3⟩ := h
  have n : ∀ {a : Addr} {xs : List V}, H a = some (.tup xs) → hd1 D H a = some (.tup xs) := fun {a xs} e => by
    rw [hd1_at (ne_of e hD (by intro q; cases q))]
    exact e
  rw [← h3]
  exact .tup (n h1) (tkPairs ks fun k hk => n (h2 k hk))
theorem chs_mem {α : Type} : ∀ (ls : List (List α)) (c : List α), c ∈ chs ls → ∀ o ∈ c, ∃ l ∈ ls, o ∈ l := by
  have key : ∀ (n : Nat) (ls : List (List α)), ls.length = n → ∀ c ∈ chs ls, ∀ o ∈ c, ∃ l ∈ ls, o ∈ l := by
    intro n
    induction n with
    | zero =>
      intro ls h c hc o ho
      cases List.eq_nil_of_length_eq_zero h
      cases List.mem_singleton.mp hc
      cases ho
    | succ n ih =>
      intro ls h c hc o ho
      have hne : ls ≠ [] := fun z => by rw [z] at h; cases h
      obtain ⟨r, x, rfl⟩ : ∃ r x, ls = r ++ [x] := ⟨ls.dropLast, ls.getLast hne, (List.dropLast_concat_getLast hne).symm⟩
      rw [chs_snoc] at hc
      obtain ⟨c0, h0, hc⟩ := List.mem_flatMap.mp hc
      obtain ⟨o', ho', rfl⟩ := List.mem_map.mp hc
      rcases List.mem_append.mp ho with z | z
      · obtain ⟨l, hl, hol⟩ := ih r (by rw [List.length_append] at h; simpa using h) c0 h0 o z
        exact ⟨l, List.mem_append_left _ hl, hol⟩
      · rw [List.mem_singleton.mp z]
        exact ⟨x, by simp, ho'⟩
  exact fun ls c h => key _ ls rfl c h
theorem pairs01 {x : Wd} (h : Wok x) : ∀ p ∈ pw x, (p.1 = 0 ∨ p.1 = 1) ∧ (p.2 = 0 ∨ p.2 = 1) := by
  obtain ⟨f, l, c⟩ := x
  obtain ⟨hf, hl⟩ := h
  dsimp only at hf hl
  rcases hf with rfl | rfl <;> rcases hl with rfl | rfl <;> cases c <;> decide
theorem pairs4 (x : Wd) : (pw x).length ≤ 4 := by
  unfold pw pairsM
  split
  · exact Nat.le_refl _
  · split
    · show 1 ≤ 4; decide
    · split
      · show 3 ≤ 4; decide
      · show 3 ≤ 4; decide
def testC (bs : List Bool) (F L : Int) (c : List (Int × Int)) : Bool := (decide (F = L) && !decide (gateM bs (c.map (·.1)) = F)) || (!decide (F = L) && (decide (gateM bs (c.map (·.1)) = L) && decide (gateM bs (c.map (·.2)) = F)))
def froM (bs : List Bool) (ws : List Wd) (F L : Int) : Bool := (chs (ws.map pw)).any (testC bs F L)
theorem evI (x y : Int) : decide (V.int x = V.int y) = decide (x = y) := by
  by_cases z : x = y
  · rw [decide_eq_true z, decide_eq_true (by rw [z])]
  · rw [decide_eq_false z, decide_eq_false (fun k => z (V.int.inj k))]
def sp_pair_by (K : PySem.W.Frag) : Sp := fun vs H Q _ => ∃ (bs : List Bool) (pa : Addr) (c : List (Int × Int)), vs = [.str (tabOf bs), .ref pa] ∧ Tk H (.ref pa) (.tuple (c.map prD)) ∧ (∀ p ∈ c, (p.1 = 0 ∨ p.1 = 1) ∧ (p.2 = 0 ∨ p.2 = 1)) ∧ bs.length = 2 ^ c.length ∧ c.length ≤ 3 ∧ ∀ r H', Same H H' → H' r = some (.tup [.int (gateM bs (c.map (·.1))), .int (gateM bs (c.map (·.2)))]) → Q (.ref r) H'
theorem ok_pair_by (T : Tx K mg) : FnOk P w K mg base CX0 2 T.f_pair_by T.fd_pair_by ["table", "pairs"] (sp_pair_by K) := by
  refine T.F_pair_by.ok sc_pair_by (fun vs H Q E h => ?_) (fun cdv A outer s H vs Q E hr h => ?_)
  · obtain ⟨bs, pa, c, rfl, _⟩ := h
    rfl
  · obtain ⟨bs, pa, c, rfl, tx, c01, hb, h3, q⟩ := h
    refine ⟨_, (pss_one (ps_ret (pe_tup (pa_cons (pe_call (ok_table_worth T) (hr.mono (by decide)) (by rfl) T.g_table_worth T.F_table_worth.kp T.b_table_worth .nil pass0 (pa_cons (pv 0) (pa_cons (pe_lc (own := [("p", 2), ("q", 3)]) (by rfl) sc_pair_by.nd (pi_tup (pv 1)) (blkOk_by (own := [("p", 2), ("q", 3)]) (N := ["table", "pairs", "p", "q"]) (sc := defScope s_pair_by) (by decide +kernel)) (fun _ _ _ _ _ => (show PG _ _ (gTup K 2 _) from pg_tup rfl (pgs_cons (pg_name (i := 2) sc_pair_by.nd rfl (by first | exact .inl rfl | exact .inr rfl)) (pgs_cons (pg_name (i := 3) sc_pair_by.nd rfl (by first | exact .inl rfl | exact .inr rfl)) pgs_nil)))) (fun _ _ _ _ _ => pts_nil) (fun _ _ _ _ _ => (pv 2))) pa_nil))) (pa_cons (pe_call (ok_table_worth T) (hr.mono (by decide)) (by rfl) T.g_table_worth T.F_table_worth.kp T.b_table_worth .nil pass0 (pa_cons (pv 0) (pa_cons (pe_lc (own := [("p", 2), ("q", 3)]) (by rfl) sc_pair_by.nd (pi_tup (pv 1)) (blkOk_by (own := [("p", 2), ("q", 3)]) (N := ["table", "pairs", "p", "q"]) (sc := defScope s_pair_by) (by decide +kernel)) (fun _ _ _ _ _ => (show PG _ _ (gTup K 2 _) from pg_tup rfl (pgs_cons (pg_name (i := 2) sc_pair_by.nd rfl (by first | exact .inl rfl | exact .inr rfl)) (pgs_cons (pg_name (i := 3) sc_pair_by.nd rfl (by first | exact .inl rfl | exact .inr rfl)) pgs_nil)))) (fun _ _ _ _ _ => pts_nil) (fun _ _ _ _ _ => (pv 3))) pa_nil))) pa_nil))))), ?_⟩
    obtain ⟨pa', zs, e, hpa, tz⟩ := tx.tup_inv
    cases e
    -- a list of one side of the pairs
    have comp : ∀ (H4 : Hp), Same H H4 → SqT K H4 pa zs := fun H4 s4 => SqT.of (s4 _ _ hpa)
    have side : ∀ (j : Nat) (u : V) (H4 : Hp), zs[j]? = some u → Same H H4 → ∃ (p : Int × Int) (b : Addr), c[j]? = some p ∧ u = .ref b ∧ H4 b = some (.tup [.int p.1, .int p.2]) := fun j u H4 hu s4 => by
      obtain ⟨dp, hdp, tp⟩ := tz.get hu
      rw [List.getElem?_map] at hdp
      cases hz : c[j]? with
      | none => rw [hz] at hdp; cases hdp
      | some p =>
        rw [hz] at hdp
        cases Option.some.inj hdp
        obtain ⟨b, rfl, hb'⟩ := pr_inv tp
        exact ⟨p, b, rfl, rfl, s4 _ _ hb'⟩
    have lz : zs.length = c.length := by rw [tz.length, List.length_map]
    -- early
    refine ⟨.str (tabOf bs), rfl, .ref pa, rfl, pa, rfl, ⟨_, comp _ (Same.refl _)⟩, fun E1 nE1 => ?_⟩
    refine lc_tup (K := K) (a := pa) (xs := zs) (fun j H' => Same H (hd1 E1 H') ∧ H' E1 = some (.lst (((c.map (·.1)).take j).map V.int))) ⟨hd1_of (same_upd nE1) nE1, upd_same⟩ (fun j H' _ hP => comp _ (fun b o e => hd1_le _ _ (hP.1 _ _ e))) ?_ ?_
    · rintro j u H4 hu ⟨s4, h4⟩
      obtain ⟨p, b, hp, rfl, hb'⟩ := side j u H4 hu (fun b o e => hd1_le _ _ (s4 _ _ e))
      refine ⟨b, _, rfl, SqT.of hb', rfl, _, _, rfl, _, _, rfl, rfl, rfl, ?_⟩
      refine ⟨.int p.1, rfl, _, h4, ?_, s4.trans hd1_upd, ?_⟩
      · rw [List.length_map, List.length_take]
        exact Nat.lt_of_lt_of_le (show min j (c.map (·.1)).length < 64 by rw [List.length_map]; omega) (by decide)
      · rw [upd_same, List.take_add_one, List.getElem?_map, hp, List.map_append]
        rfl
    rintro H4 ⟨s4, h4⟩
    have s34 : Same H H4 := fun b o e => hd1_le _ _ (s4 _ _ e)
    rw [lz, List.take_of_length_le (by rw [List.length_map]; exact Nat.le_refl _)] at h4
    refine ⟨bs, E1, c.map (·.1), rfl, SqL.of h4, fun w hw => ?_, by rw [List.length_map]; exact hb, by rw [List.length_map]; exact h3, ?_⟩
    · obtain ⟨p, hp, rfl⟩ := List.mem_map.mp hw
      exact (c01 p hp).1
    -- late
    refine ⟨.str (tabOf bs), rfl, .ref pa, rfl, pa, rfl, ⟨_, comp _ s34⟩, fun E2 nE2 => ?_⟩
    refine lc_tup (K := K) (a := pa) (xs := zs) (fun j H' => Same H4 (hd1 E2 H') ∧ H' E2 = some (.lst (((c.map (·.2)).take j).map V.int))) ⟨hd1_of (same_upd nE2) nE2, upd_same⟩ (fun j H' _ hP => comp _ (s34.trans fun b o e => hd1_le _ _ (hP.1 _ _ e))) ?_ ?_
    · rintro j u H5 hu ⟨s5, h5⟩
      obtain ⟨p, b, hp, rfl, hb'⟩ := side j u H5 hu (s34.trans fun b o e => hd1_le _ _ (s5 _ _ e))
      refine ⟨b, _, rfl, SqT.of hb', rfl, _, _, rfl, _, _, rfl, rfl, rfl, ?_⟩
      refine ⟨.int p.2, rfl, _, h5, ?_, s5.trans hd1_upd, ?_⟩
      · rw [List.length_map, List.length_take]
        exact Nat.lt_of_lt_of_le (show min j (c.map (·.2)).length < 64 by rw [List.length_map]; omega) (by decide)
      · rw [upd_same, List.take_add_one, List.getElem?_map, hp, List.map_append]
        rfl
    rintro H5 ⟨s5, h5⟩
    have s45 : Same H4 H5 := fun b o e => hd1_le _ _ (s5 _ _ e)
    rw [lz, List.take_of_length_le (by rw [List.length_map]; exact Nat.le_refl _)] at h5
    refine ⟨bs, E2, c.map (·.2), rfl, SqL.of h5, fun w hw => ?_, by rw [List.length_map]; exact hb, by rw [List.length_map]; exact h3, ?_⟩
    · obtain ⟨p, hp, rfl⟩ := List.mem_map.mp hw
      exact (c01 p hp).2
    refine ⟨sl2, fun r nr => ?_⟩
    exact q r _ ((s34.trans s45).trans (same_upd nr)) upd_same
def sp_goes_fro (K : PySem.W.Frag) : Sp := fun vs H Q _ => ∃ (bs : List Bool) (wa : Addr) (ws : List Wd) (F L : Int), vs = [.str (tabOf bs), .ref wa, .int F, .int L] ∧ Tk H (.ref wa) (.tuple (ws.map wD)) ∧ (∀ x ∈ ws, Wok x) ∧ bs.length = 2 ^ ws.length ∧ ws.length ≤ 3 ∧ ∀ H', Same H H' → Q (.bl (froM bs ws F L)) H'
theorem ok_goes_fro (T : Tx K mg) : FnOk P w K mg base CX0 3 T.f_goes_fro T.fd_goes_fro ["table", "words", "first", "last"] (sp_goes_fro K) := by
  refine T.F_goes_fro.ok sc_goes_fro (fun vs H Q E h => ?_) (fun cdv A outer s H vs Q E hr h => ?_)
  · obtain ⟨bs, wa, ws, F, L, rfl, _⟩ := h
    rfl
  · obtain ⟨bs, wa, ws, F, L, rfl, tw, ok, hb, h3, q⟩ := h
    refine ⟨_, (pss_cons (ps_for PassesOwn.never rfl (pi_tup (pe_call (ok_choices_of T) (hr.mono (by decide)) (by rfl) T.g_choices_of T.F_choices_of.kp T.b_choices_of .nil pass0 (pa_cons (pe_lc (own := [("word", 7)]) (by rfl) sc_goes_fro.nd (pi_tup (pv 1)) (blkOk_by (own := [("word", 7)]) (N := ["table", "words", "first", "last", "pairs", "early", "late", "word"]) (sc := defScope s_goes_fro) (by decide +kernel)) (fun _ _ _ _ _ => (pg_name (i := 7) sc_goes_fro.nd rfl (by first | exact .inl rfl | exact .inr rfl))) (fun _ _ _ _ _ => pts_nil) (fun _ _ _ _ _ => (pe_call (ok_pairs_of T) (hr.mono (by decide)) (by rfl) T.g_pairs_of T.F_pairs_of.kp T.b_pairs_of .nil pass0 (pa_cons (pv 7) pa_nil)))) pa_nil))) (pg_name (i := 4) sc_goes_fro.nd rfl (by first | exact .inl rfl | exact .inr rfl)) (pss_cons (ps_asg (pe_call (ok_pair_by T) (hr.mono (by decide)) (by rfl) T.g_pair_by T.F_pair_by.kp T.b_pair_by .nil pass0 (pa_cons (pv 0) (pa_cons (pv 4) pa_nil))) (pg_tup rfl (pgs_cons (pg_name (i := 5) sc_goes_fro.nd rfl (by first | exact .inl rfl | exact .inr rfl)) (pgs_cons (pg_name (i := 6) sc_goes_fro.nd rfl (by first | exact .inl rfl | exact .inr rfl)) pgs_nil)))) (pss_cons (ps_if (pw_and (pt_cmpR op_eq (pv 2) (pv 3) (nomark _)) (pw_and1 (pt_cmpR op_ne (pv 5) (pv 2) (nomark _)))).pt (pss_one (ps_ret pe_bl)) pss_nil) (pss_one (ps_if (pw_and (pt_cmpR op_ne (pv 2) (pv 3) (nomark _)) (pw_and (pt_cmpR op_eq (pv 5) (pv 3) (nomark _)) (pw_and1 (pt_cmpR op_eq (pv 6) (pv 2) (nomark _))))).pt (pss_one (ps_ret pe_bl)) pss_nil))))) (pss_one (ps_ret pe_bl))), ?_⟩
    obtain ⟨wa', xs, e, hwa, tws⟩ := tw.tup_inv
    cases e
    -- [pairs_of(word) for word in words]
    refine ⟨.ref wa, rfl, wa, rfl, ⟨_, SqT.of hwa⟩, fun D nD => ?_⟩
    refine lc_tup (K := K) (a := wa) (xs := xs) (fun j H' => Same H (hd1 D H') ∧ ∃ acc, H' D = some (.lst acc) ∧ TkAll (hd1 D H') acc ((ws.take j).map fun x => PyData.tuple ((pw x).map prD))) ⟨hd1_of (same_upd nD) nD, [], upd_same, .nil⟩ (fun j H' _ hP => SqT.of (hd1_le _ _ (hP.1 _ _ hwa))) ?_ ?_
    · rintro j v H1 hv ⟨s1, acc, hD, ta⟩
      obtain ⟨dx, hdx, tx⟩ := tws.get hv
      obtain ⟨x, hx, rfl⟩ : ∃ x, ws[j]? = some x ∧ dx = wD x := by
        rw [List.getElem?_map] at hdx
        cases hz : ws[j]? with
        | none => rw [hz] at hdx; cases hdx
        | some x => rw [hz] at hdx; exact ⟨x, rfl, (Option.some.inj hdx).symm⟩
      obtain ⟨a, rfl, ha⟩ := wd_inv tx
      have okx := ok x (List.mem_of_getElem? hx)
      refine ⟨rfl, ?_⟩
      refine ⟨.ref a, rfl, a, x.1, x.2.1, x.2.2, rfl, hd1_le _ _ (s1 _ _ ha), okx.1, okx.2, fun r H2 s2 p2 => ?_⟩
      have hD2 := s2 _ _ hD
      have sD := hd1_same (p := D) s2
      refine ⟨acc, hD2, ?_, (s1.trans sD).trans hd1_upd, acc ++ [.ref r], upd_same, ?_⟩
      · have := ta.length
        rw [List.length_map, List.length_take] at this
        exact Nat.lt_of_lt_of_le (show acc.length < 64 by omega) (by decide)
      · rw [List.take_add_one, hx]
        show TkAll _ _ ((ws.take j ++ [x]).map _)
        rw [List.map_append]
        exact ((ta.same sD).same hd1_upd).append (.cons ((p2.tk hD2).same hd1_upd) .nil)
    · rintro H1 ⟨s1, acc, hD, ta⟩
      have lx : xs.length = ws.length := by rw [tws.length, List.length_map]
      rw [lx, List.take_length] at ta
      have ta' : TkAll H1 acc ((ws.map fun x => (pw x).map prD).map PyData.tuple) := by
        rw [List.map_map]
        exact ta.same hd1_le
      refine ⟨D, acc, _, rfl, hD, ta', .inl (by rw [List.length_map]; exact h3), fun o ho => ?_, fun r H2 s2 tr => ?_⟩
      · obtain ⟨x, _, rfl⟩ := List.mem_map.mp ho
        rw [List.length_map]
        have := pairs4 x
        omega
      have sA : Same H H2 := fun b o e => s2 _ _ (hd1_le _ _ (s1 _ _ e))
      have eC : chs (ws.map fun x => (pw x).map prD) = (chs (ws.map pw)).map (List.map prD) := by
        rw [← chs_map prD _ _ rfl, List.map_map]
        rfl
      rw [eC] at tr
      obtain ⟨r', cs, e, hr2, tcs⟩ := tr.tup_inv
      cases e
      have lcs : cs.length = (chs (ws.map pw)).length := by rw [tcs.length, List.length_map, List.length_map]
      refine ⟨r, rfl, ⟨_, SqT.of hr2⟩, for_tup (K := K) (a := r) (xs := cs) (fun i σ H' => ∃ y4 y5 y6, σ = [some (.str (tabOf bs)), some (.ref wa), some (.int F), some (.int L), y4, y5, y6, none] ∧ Same H2 H' ∧ ∀ j c, j < i → (chs (ws.map pw))[j]? = some c → testC bs F L c = false) ⟨_, _, _, rfl, Same.refl _, fun j c hj => absurd hj (Nat.not_lt_zero _)⟩ (fun i σ H' _ ⟨_, _, _, _, z, _⟩ => SqT.of (z _ _ hr2)) ?_ ?_⟩
      · rintro i v σ H3 hv ⟨y4, y5, y6, rfl, s3, none_⟩
        obtain ⟨dx, hdx, tx⟩ := tcs.get hv
        obtain ⟨c, hc, rfl⟩ : ∃ c, (chs (ws.map pw))[i]? = some c ∧ dx = .tuple (c.map prD) := by
          rw [List.getElem?_map, List.getElem?_map] at hdx
          cases hz : (chs (ws.map pw))[i]? with
          | none => rw [hz] at hdx; cases hdx
          | some c => rw [hz] at hdx; exact ⟨c, rfl, (Option.some.inj hdx).symm⟩
        have hcm := List.mem_of_getElem? hc
        have c01 : ∀ p ∈ c, (p.1 = 0 ∨ p.1 = 1) ∧ (p.2 = 0 ∨ p.2 = 1) := fun p hp => by
          obtain ⟨l, hl, hpl⟩ := chs_mem _ c hcm p hp
          obtain ⟨x, hx, rfl⟩ := List.mem_map.mp hl
          exact pairs01 (ok x hx) p hpl
        have lc : c.length = ws.length := by rw [chs_width _ c hcm, List.length_map]
        obtain ⟨pa, zs, rfl, _⟩ := tx.tup_inv
        refine ⟨.str (tabOf bs), rfl, .ref pa, rfl, bs, pa, c, rfl, tx.same s3, c01, by rw [lc]; exact hb, by rw [lc]; exact h3, fun r5 H5 s35 h5 => ?_⟩
        refine ⟨r5, _, rfl, SqT.of h5, rfl, _, _, rfl, _, _, rfl, rfl, ?_⟩
        have sAll : Same H2 H5 := s3.trans s35
        have yes : testC bs F L c = true → Q (.bl true) H5 := fun z => by
          have e : froM bs ws F L = true := List.any_eq_true.mpr ⟨c, hcm, z⟩
          have := q H5 (sA.trans sAll)
          rw [e] at this
          exact this
        have no : testC bs F L c = false → ∃ y4 y5 y6, ([some (.str (tabOf bs)), some (.ref wa), some (.int F), some (.int L), some (.ref pa), some (.int (gateM bs (c.map (·.1)))), some (.int (gateM bs (c.map (·.2)))), none] : List (Option V)) = [some (.str (tabOf bs)), some (.ref wa), some (.int F), some (.int L), y4, y5, y6, none] ∧ Same H2 H5 ∧ ∀ j c, j < i + 1 → (chs (ws.map pw))[j]? = some c → testC bs F L c = false := fun z =>
          ⟨_, _, _, rfl, sAll, fun j c' hj hc' => by
            by_cases hji : j < i
            · exact none_ j c' hji hc'
            · have : j = i := by omega
              subst this
              cases Option.some.inj (hc.symm.trans hc')
              exact z⟩
        refine ⟨.int F, rfl, .int L, rfl, rfl, _, rfl, ite2 (fun e1 => ?_) (fun e1 => ?_)⟩
        · rw [evI] at e1
          refine ⟨.int (gateM bs (c.map (·.1))), rfl, .int F, rfl, rfl, _, rfl, ?_⟩
          rw [evI]
          refine ite2 (fun e2 => ?_) (fun e2 => ?_)
          · refine yes ?_
            unfold testC
            rw [e1, e2]
            rfl
          · refine ⟨.int F, rfl, .int L, rfl, rfl, _, rfl, ?_⟩
            rw [evI, e1]
            refine iteF (iteF (no ?_))
            unfold testC
            rw [e1, Bool.eq_false_iff.mpr e2]
            rfl
        · rw [evI] at e1
          refine iteF ?_
          refine ⟨.int F, rfl, .int L, rfl, rfl, _, rfl, ?_⟩
          rw [evI, Bool.eq_false_iff.mpr e1]
          refine iteT ?_
          refine ⟨.int (gateM bs (c.map (·.1))), rfl, .int L, rfl, rfl, _, rfl, ?_⟩
          rw [evI]
          refine ite2 (fun e2 => ?_) (fun e2 => ?_)
          · refine ⟨.int (gateM bs (c.map (·.2))), rfl, .int F, rfl, rfl, _, rfl, ?_⟩
            rw [evI]
            refine ite2 (fun e3 => ?_) (fun e3 => ?_)
            · refine yes ?_
              unfold testC
              rw [Bool.eq_false_iff.mpr e1, e2, e3]
              rfl
            · refine no ?_
              unfold testC
              rw [Bool.eq_false_iff.mpr e1, e2, Bool.eq_false_iff.mpr e3]
              rfl
          · refine iteF (no ?_)
            unfold testC
            rw [Bool.eq_false_iff.mpr e1, Bool.eq_false_iff.mpr e2]
            rfl
      · rintro σ H3 ⟨y4, y5, y6, rfl, s3, none_⟩
        have e : froM bs ws F L = false := by
          unfold froM
          rw [List.any_eq_false]
          intro c hc
          obtain ⟨j, hj⟩ := List.getElem?_of_mem hc
          have hjl := (List.getElem?_eq_some_iff.mp hj).1
          rw [none_ j c (by rw [lcs]; exact hjl) hj]
          exact Bool.false_ne_true
        have := q H3 (sA.trans s3)
        rw [e] at this
        exact this
def sp_gate_word (K : PySem.W.Frag) : Sp := fun vs H Q _ => ∃ (bs : List Bool) (wa : Addr) (ws : List Wd), vs = [.str (tabOf bs), .ref wa] ∧ Tk H (.ref wa) (.tuple (ws.map wD)) ∧ (∀ x ∈ ws, Wok x) ∧ bs.length = 2 ^ ws.length ∧ ws.length ≤ 3 ∧ ∀ r H', Same H H' → H' r = some (.tup [.int (gateM bs (ws.map (·.1))), .int (gateM bs (ws.map (·.2.1))), .bl (froM bs ws (gateM bs (ws.map (·.1))) (gateM bs (ws.map (·.2.1))))]) → Q (.ref r) H'
/-- [word[k] for word in words] -/
theorem words_at {H : Hp} {xs : List V} {ws : List Wd} (t : TkAll H xs (ws.map wD)) {j : Nat} {v : V} (h : xs[j]? = some v) : ∃ (x : Wd) (a : Addr), ws[j]? = some x ∧ v = .ref a ∧ H a = some (.tup [.int x.1, .int x.2.1, .bl x.2.2]) := by
  obtain ⟨dx, hdx, tx⟩ := t.get h
  rw [List.getElem?_map] at hdx
  cases hz : ws[j]? with
  | none => rw [hz] at hdx; cases hdx
  | some x =>
    rw [hz] at hdx
    cases Option.some.inj hdx
    obtain ⟨a, rfl, ha⟩ := wd_inv tx
    exact ⟨x, a, rfl, rfl, ha⟩
theorem ok_gate_word (T : Tx K mg) : FnOk P w K mg base CX0 4 T.f_gate_word T.fd_gate_word ["table", "words"] (sp_gate_word K) := by
  refine T.F_gate_word.ok sc_gate_word (fun vs H Q E h => ?_) (fun cdv A outer s H vs Q E hr h => ?_)
  · obtain ⟨bs, wa, ws, rfl, _⟩ := h
    rfl
  · obtain ⟨bs, wa, ws, rfl, tw, ok, hb, h3, q⟩ := h
    refine ⟨_, (pss_cons (ps_set (i := 2) sc_gate_word.nd rfl (by first | exact .inl rfl | exact .inr rfl) (pe_call (ok_table_worth T) (hr.mono (by decide)) (by rfl) T.g_table_worth T.F_table_worth.kp T.b_table_worth .nil pass0 (pa_cons (pv 0) (pa_cons (pe_lc (own := [("word", 4)]) (by rfl) sc_gate_word.nd (pi_tup (pv 1)) (blkOk_by (own := [("word", 4)]) (N := ["table", "words", "first", "last", "word"]) (sc := defScope s_gate_word) (by decide +kernel)) (fun _ _ _ _ _ => (pg_name (i := 4) sc_gate_word.nd rfl (by first | exact .inl rfl | exact .inr rfl))) (fun _ _ _ _ _ => pts_nil) (fun _ _ _ _ _ => (pe_ix (show IxR _ (rIxT K) from ix_tup) (pv 4) pe_int (fun _ _ => rfl)))) pa_nil)))) (pss_cons (ps_set (i := 3) sc_gate_word.nd rfl (by first | exact .inl rfl | exact .inr rfl) (pe_call (ok_table_worth T) (hr.mono (by decide)) (by rfl) T.g_table_worth T.F_table_worth.kp T.b_table_worth .nil pass0 (pa_cons (pv 0) (pa_cons (pe_lc (own := [("word", 4)]) (by rfl) sc_gate_word.nd (pi_tup (pv 1)) (blkOk_by (own := [("word", 4)]) (N := ["table", "words", "first", "last", "word"]) (sc := defScope s_gate_word) (by decide +kernel)) (fun _ _ _ _ _ => (pg_name (i := 4) sc_gate_word.nd rfl (by first | exact .inl rfl | exact .inr rfl))) (fun _ _ _ _ _ => pts_nil) (fun _ _ _ _ _ => (pe_ix (show IxR _ (rIxT K) from ix_tup) (pv 4) pe_int (fun _ _ => rfl)))) pa_nil)))) (pss_one (ps_ret (pe_tup (pa_cons (pv 2) (pa_cons (pv 3) (pa_cons (pe_call (ok_goes_fro T) (hr.mono (by decide)) (by rfl) T.g_goes_fro T.F_goes_fro.kp T.b_goes_fro .nil pass0 (pa_cons (pv 0) (pa_cons (pv 1) (pa_cons (pv 2) (pa_cons (pv 3) pa_nil))))) pa_nil)))))))), ?_⟩
    obtain ⟨wa', xs, e, hwa, tws⟩ := tw.tup_inv
    cases e
    have lx : xs.length = ws.length := by rw [tws.length, List.length_map]
    refine ⟨.str (tabOf bs), rfl, .ref wa, rfl, wa, rfl, ⟨_, SqT.of hwa⟩, fun D nD => ?_⟩
    refine lc_tup (K := K) (a := wa) (xs := xs) (fun j H' => Same H (hd1 D H') ∧ H' D = some (.lst (((ws.map (·.1)).take j).map V.int))) ⟨hd1_of (same_upd nD) nD, upd_same⟩ (fun j H' _ hP => SqT.of (hd1_le _ _ (hP.1 _ _ hwa))) ?_ ?_
    · rintro j v H1 hv ⟨s1, h1⟩
      obtain ⟨x, a, hx, rfl, ha⟩ := words_at tws hv
      refine ⟨rfl, .ref a, rfl, a, _, 0, .int x.1, rfl, rfl, SqT.of (hd1_le _ _ (s1 _ _ ha)), rfl, _, h1, ?_, s1.trans hd1_upd, ?_⟩
      · rw [List.length_map, List.length_take, List.length_map]
        exact Nat.lt_of_lt_of_le (show min j ws.length < 64 by omega) (by decide)
      · rw [upd_same, List.take_add_one, List.getElem?_map, hx, List.map_append]
        rfl
    rintro H1 ⟨s1, h1⟩
    have s01 : Same H H1 := fun b o e => hd1_le _ _ (s1 _ _ e)
    rw [lx, List.take_of_length_le (by rw [List.length_map]; exact Nat.le_refl _)] at h1
    refine ⟨bs, D, _, rfl, SqL.of h1, fun u hu => ?_, by rw [List.length_map]; exact hb, by rw [List.length_map]; exact h3, ?_⟩
    · obtain ⟨x, hx, rfl⟩ := List.mem_map.mp hu
      exact (ok x hx).1
    refine ⟨.str (tabOf bs), rfl, .ref wa, rfl, wa, rfl, ⟨_, SqT.of (s01 _ _ hwa)⟩, fun D2 nD2 => ?_⟩
    refine lc_tup (K := K) (a := wa) (xs := xs) (fun j H' => Same H1 (hd1 D2 H') ∧ H' D2 = some (.lst (((ws.map (·.2.1)).take j).map V.int))) ⟨hd1_of (same_upd nD2) nD2, upd_same⟩ (fun j H' _ hP => SqT.of (hd1_le _ _ (hP.1 _ _ (s01 _ _ hwa)))) ?_ ?_
    · rintro j v H2 hv ⟨s2, h2⟩
      obtain ⟨x, a, hx, rfl, ha⟩ := words_at tws hv
      refine ⟨rfl, .ref a, rfl, a, _, 1, .int x.2.1, rfl, rfl, SqT.of (hd1_le _ _ (s2 _ _ (s01 _ _ ha))), rfl, _, h2, ?_, s2.trans hd1_upd, ?_⟩
      · rw [List.length_map, List.length_take, List.length_map]
        exact Nat.lt_of_lt_of_le (show min j ws.length < 64 by omega) (by decide)
      · rw [upd_same, List.take_add_one, List.getElem?_map, hx, List.map_append]
        rfl
    rintro H2 ⟨s2, h2⟩
    have s12 : Same H1 H2 := fun b o e => hd1_le _ _ (s2 _ _ e)
    rw [lx, List.take_of_length_le (by rw [List.length_map]; exact Nat.le_refl _)] at h2
    refine ⟨bs, D2, _, rfl, SqL.of h2, fun u hu => ?_, by rw [List.length_map]; exact hb, by rw [List.length_map]; exact h3, ?_⟩
    · obtain ⟨x, hx, rfl⟩ := List.mem_map.mp hu
      exact (ok x hx).2
    have sA := s01.trans s12
    refine ⟨.int (gateM bs (ws.map (·.1))), rfl, .int (gateM bs (ws.map (·.2.1))), rfl, .str (tabOf bs), rfl, .ref wa, rfl, .int (gateM bs (ws.map (·.1))), rfl, .int (gateM bs (ws.map (·.2.1))), rfl, bs, wa, ws, _, _, rfl, tw.same sA, ok, hb, h3, fun H3 s3 => ?_⟩
    refine ⟨sl3, fun r nr => ?_⟩
    exact q r _ ((sA.trans s3).trans (same_upd nr)) upd_same

end
end Gk

set_option Elab.async false
set_option linter.all false
set_option maxRecDepth 100000
set_option maxHeartbeats 1000000
namespace Gk
open PySem PySem.Spec PyProof.Rows L2
/-! ### walks -/
theorem gx_tup {α : Type} {K : PySem.W.Frag} {a : Addr} {xs : List V} {g : TG} {tt : TT} {te : TE} {vs : List Nat} {σ0 : L2.St} {End : α → Hp → Prop} {Yd : α → V → Hp → (α → Hp → Prop) → Prop} {a0 : α} {H0 : Hp} (Pv : Nat → α → Hp → Prop) (h0 : Pv 0 a0 H0)
    (hl : ∀ i c H, i ≤ xs.length → Pv i c H → SqT K H a xs)
    (hs : ∀ i x c H, xs[i]? = some x → Pv i c H → g x σ0 H fun σ2 H2 => wipe σ2 vs = σ0 ∧ tt σ2 H2 fun b H3 => if b = true then te σ2 H3 fun y H4 => Yd c y H4 (Pv (i + 1)) else Pv (i + 1) c H3) (hd : ∀ c H, Pv xs.length c H → End c H) :
    ∃ W : Nat → Nat → α → Hp → Prop, (∃ m, W 0 m a0 H0) ∧ tGx (Itt K a) g tt te σ0 vs End Yd W := by
  refine ⟨fun i m c H => m = xs.length - i ∧ i ≤ xs.length ∧ Pv i c H, ⟨xs.length, rfl, Nat.zero_le _, h0⟩, ?_⟩
  rintro i m c H ⟨rfl, hi, p⟩
  by_cases hlt : i < xs.length
  · have hx : xs[i]? = some xs[i] := List.getElem?_eq_getElem hlt
    refine .inr ⟨⟨xs, xs[i], hl i c H hi p, hx⟩, Pv (i + 1), fun c' H' p' => ⟨xs.length - (i + 1), by omega, rfl, hlt, p'⟩, fun x H' y => ?_⟩
    obtain ⟨rfl, y⟩ := y
    exact hs i x c _ (y xs (hl i c _ hi p)) p
  · have e : i = xs.length := by omega
    subst e
    exact .inl ⟨⟨xs, hl _ c H hi p, Nat.le_refl _⟩, hd c H p⟩
theorem lc_zipT {K : PySem.W.Frag} {a b : Addr} {xs ys : List V} {g : TG} {tt : TT} {te : TE} {vs : List Nat} {σ : L2.St} {H1 : Hp} {D : Addr} {Qd : Hp → Prop} (el : xs.length = ys.length) (Pv : Nat → Hp → Prop) (h0 : Pv 0 (upd H1 D (.lst []))) (hl : ∀ i H, i ≤ xs.length → Pv i H → SqT K H a xs ∧ SqT K H b ys)
    (hs : ∀ i x y T H, xs[i]? = some x → ys[i]? = some y → H T = none → Pv i H → g (.ref T) (wipe σ vs) (upd H T (.tup [x, y])) fun σ2 H2 => wipe σ2 vs = wipe σ vs ∧ tt σ2 H2 fun b H3 =>
      if b = true then te σ2 H3 fun y H4 => ∃ acc, H4 D = some (.lst acc) ∧ acc.length < sizeLine ∧ Pv (i + 1) (upd H4 D (.lst (acc ++ [y]))) else Pv (i + 1) H3) (hd : ∀ H, Pv xs.length H → Qd H) :
    ∃ W : Nat → Nat → Hp → Prop, (∃ m, W 0 m (upd H1 D (.lst []))) ∧ ∀ i m H, W i m H →
      ((RZ.ItzT K a b).stop i H ∧ Qd H) ∨ ((RZ.ItzT K a b).go i H ∧ ∃ Nx : Hp → Prop, (∀ H', Nx H' → ∃ m', m' < m ∧ W (i + 1) m' H') ∧ ∀ x H', (RZ.ItzT K a b).yld i H x H' → g x (wipe σ vs) H' fun σ2 H2 => wipe σ2 vs = wipe σ vs ∧ tt σ2 H2 fun b H3 =>
        if b = true then te σ2 H3 fun y H4 => ∃ acc, H4 D = some (.lst acc) ∧ acc.length < sizeLine ∧ Nx (upd H4 D (.lst (acc ++ [y]))) else Nx H3) := by
  refine ⟨fun i m H => m = xs.length - i ∧ i ≤ xs.length ∧ Pv i H, ⟨xs.length, by simp, Nat.zero_le _, h0⟩, ?_⟩
  rintro i m H ⟨rfl, hi, p⟩
  obtain ⟨qx, qy⟩ := hl i H hi p
  by_cases hlt : i < xs.length
  · have hx : xs[i]? = some xs[i] := List.getElem?_eq_getElem hlt
    have hy : ys[i]? = some (ys[i]'(by omega)) := List.getElem?_eq_getElem _
    refine .inr ⟨⟨xs, ys, _, _, qx, qy, hx, hy⟩, Pv (i + 1), fun H' p' => ⟨xs.length - (i + 1), by omega, rfl, hlt, p'⟩, fun x H' y => ?_⟩
    obtain ⟨T, x1, y1, rfl, nT, rfl, e1, e2⟩ := y
    exact hs i x1 y1 T H (e1 xs qx) (e2 ys qy) nT p
  · have e : i = xs.length := by omega
    subst e
    exact .inl ⟨⟨xs, ys, qx, qy, .inl (Nat.le_refl _)⟩, hd H p⟩

/-! ### nets, and the words of nets -/
abbrev Gt := List Bool × List Nat
def gD (g : Gt) : PyData := .tuple [.str (tabOf g.1), .tuple ((g.2.map Int.ofNat).map PyData.int)]
def netD (many : Int) (gs : List Gt) : PyData := .tuple [.int many, .tuple (gs.map gD)]
def rowD (r : List Int) : PyData := .tuple (r.map PyData.int)
def chD (a b : List Int) : PyData := .tuple [rowD a, rowD b]
def GtOk (n : Nat) (g : Gt) : Prop := g.1.length = 2 ^ g.2.length ∧ 1 ≤ g.2.length ∧ g.2.length ≤ 3 ∧ ∀ i ∈ g.2, i < n
def NetOk (n : Nat) (gs : List Gt) : Prop := ∀ k g, gs[k]? = some g → GtOk (n + k) g
def Row01 (r : List Int) : Prop := ∀ x ∈ r, x = 0 ∨ x = 1
mutual
theorem Tk.gr {H H' : Hp} (s : Gr H H') : ∀ {v : V} {d : PyData}, Tk H v d → Tk H' v d
  | _, _, .bl b => .bl b
  | _, _, .int i => .int i
  | _, _, .str x => .str x
  | _, _, .lst h t => .lst (s.lst h) (t.gr s)
  | _, _, .tup h t => .tup (s.tup h) (t.gr s)
theorem TkAll.gr {H H' : Hp} (s : Gr H H') : ∀ {vs : List V} {ds : List PyData}, TkAll H vs ds → TkAll H' vs ds
  | _, _, .nil => .nil
  | _, _, .cons h t => .cons (h.gr s) (t.gr s)
end
theorem Tk.row_inv {H : Hp} {v : V} {r : List Int} (h : Tk H v (rowD r)) : ∃ a, v = .ref a ∧ H a = some (.tup (r.map V.int)) := by
  obtain ⟨a, xs, rfl, ha, t⟩ := h.tup_inv
  rw [t.int_inv] at ha
  exact ⟨a, rfl, ha⟩
theorem Tk.ch_inv {H : Hp} {v : V} {a b : List Int} (h : Tk H v (chD a b)) : ∃ c ra rb, v = .ref c ∧ H c = some (.tup [.ref ra, .ref rb]) ∧ H ra = some (.tup (a.map V.int)) ∧ H rb = some (.tup (b.map V.int)) := by
  obtain ⟨c, xs, rfl, hc, t⟩ := h.tup_inv
  cases t with
  | cons h1 t => cases t with
    | cons h2 t =>
      cases t
      obtain ⟨ra, rfl, ha⟩ := h1.row_inv
      obtain ⟨rb, rfl, hb⟩ := h2.row_inv
      exact ⟨c, ra, rb, rfl, hc, ha, hb⟩
theorem Tk.net_inv {H : Hp} {v : V} {m : Int} {gs : List Gt} (h : Tk H v (netD m gs)) : ∃ n g xs, v = .ref n ∧ H n = some (.tup [.int m, .ref g]) ∧ H g = some (.tup xs) ∧ TkAll H xs (gs.map gD) := by
  obtain ⟨n, xs, rfl, hn, t⟩ := h.tup_inv
  cases t with
  | cons h1 t => cases t with
    | cons h2 t =>
      cases t
      cases h1
      obtain ⟨g, ys, rfl, hg, t2⟩ := h2.tup_inv
      exact ⟨n, g, ys, rfl, hn, hg, t2⟩
theorem Tk.gt_inv {H : Hp} {v : V} {g : Gt} (h : Tk H v (gD g)) : ∃ a i, v = .ref a ∧ H a = some (.tup [.str (tabOf g.1), .ref i]) ∧ H i = some (.tup ((g.2.map Int.ofNat).map V.int)) := by
  obtain ⟨a, xs, rfl, ha, t⟩ := h.tup_inv
  cases t with
  | cons h1 t => cases t with
    | cons h2 t =>
      cases t
      cases h1
      obtain ⟨i, rfl, hi⟩ := (show Tk H _ (rowD (g.2.map Int.ofNat)) from h2).row_inv
      exact ⟨a, i, rfl, ha, hi⟩
theorem TkAll.at {H : Hp} {α : Type} {f : α → PyData} {xs : List V} {ds : List α} (t : TkAll H xs (ds.map f)) {j : Nat} {v : V} (h : xs[j]? = some v) : ∃ x, ds[j]? = some x ∧ Tk H v (f x) := by
  obtain ⟨dx, hdx, tx⟩ := t.get h
  rw [List.getElem?_map] at hdx
  cases hz : ds[j]? with
  | none => rw [hz] at hdx; cases hdx
  | some x =>
    rw [hz] at hdx
    cases Option.some.inj hdx
    exact ⟨x, rfl, tx⟩
theorem TkAll.at' {H : Hp} {α : Type} {f : α → PyData} {xs : List V} {ds : List α} (t : TkAll H xs (ds.map f)) {j : Nat} {x : α} (h : ds[j]? = some x) : ∃ v, xs[j]? = some v ∧ Tk H v (f x) := by
  have hl := t.length
  rw [List.length_map] at hl
  have hj := (List.getElem?_eq_some_iff.mp h).1
  obtain ⟨y, hy, ty⟩ := t.at (List.getElem?_eq_getElem (l := xs) (i := j) (by omega))
  cases Option.some.inj (h.symm.trans hy)
  exact ⟨_, List.getElem?_eq_getElem _, ty⟩
theorem grow_upd {H H' : Hp} {p : Addr} {o : HO} (g : Gr H H') (n : H' p = none) : Gr H (upd H' p o) := g.trans (Gr.none n)
/-- no table, no older list: only the list at D is written -/
def GrD (D : Addr) (H H' : Hp) : Prop := Gr H (hd1 D H')
theorem GrD.gr {D : Addr} {H H' : Hp} (g : GrD D H H') : Gr H H' := g.trans (Gr.of hd1_le)
theorem TabG_hd1 {D P : Addr} {H : Hp} (h : GxR.TabG H P) (n : D ≠ P) : GxR.TabG (hd1 D H) P := by
  obtain ⟨ps, e, t⟩ := h
  exact ⟨ps, by rw [hd1_at (Ne.symm n)]; exact e, t⟩
theorem GrD.new {D : Addr} {H : Hp} {o : HO} (n : H D = none) : GrD D H (upd H D o) := Gr.of (hd1_of (same_upd n) n)
theorem hd1_gr {D : Addr} {H H' : Hp} (g : Gr H H') (hD : ∀ P, GxR.TabG H P → D ≠ P) : Gr (hd1 D H) (hd1 D H') := by
  refine ⟨fun b o n e => ?_, fun b t => ?_⟩
  · have hb : b ≠ D := fun z => by
      unfold hd1 at e
      rw [if_pos z] at e; cases e
    rw [hd1_at hb] at e ⊢
    exact g.1 b o n e
  · obtain ⟨ps, e, t⟩ := t
    have e' := hd1_le _ _ e
    exact TabG_hd1 (g.2 b ⟨ps, e', t⟩) (hD b ⟨ps, e', t⟩)
theorem GrD.then {D : Addr} {H H1 H2 : Hp} {xs : List V} (a : GrD D H H1) (hD : H1 D = some (.lst xs)) (b : Gr H1 H2) : GrD D H H2 := a.trans (hd1_gr b fun P ⟨ps, e, _⟩ z => by
  rw [← z, hD] at e
  cases e)
theorem GrD.set {D : Addr} {H H1 : Hp} {o : HO} (a : GrD D H H1) : GrD D H (upd H1 D o) := a.trans (Gr.of hd1_upd)

/-! ### the words of nets -/
def gwM (bs : List Bool) (ws : List Wd) : Wd := (gateM bs (ws.map (·.1)), gateM bs (ws.map (·.2.1)), froM bs ws (gateM bs (ws.map (·.1))) (gateM bs (ws.map (·.2.1))))
def pick (ws : List Wd) (ins : List Nat) : List Wd := ins.map fun i => ws.getD i (0, 0, false)
def stepW (ws : List Wd) (g : Gt) : List Wd := ws ++ [gwM g.1 (pick ws g.2)]
def wordsM (gs : List Gt) (w0 : List Wd) : List Wd := gs.foldl stepW w0
def w0M (a b : List Int) : List Wd := (a.zip b).map fun p => (p.1, p.2, false)
theorem wordsM_snoc (gs : List Gt) (g : Gt) (w0 : List Wd) : wordsM (gs ++ [g]) w0 = stepW (wordsM gs w0) g := by
  unfold wordsM
  rw [List.foldl_append]
  rfl
theorem wordsM_take {gs : List Gt} {k : Nat} {g : Gt} (h : gs[k]? = some g) (w0 : List Wd) : wordsM (gs.take (k + 1)) w0 = stepW (wordsM (gs.take k) w0) g := by
  rw [List.take_add_one, h]
  exact wordsM_snoc _ _ _
theorem wordsM_len (gs : List Gt) (w0 : List Wd) : (wordsM gs w0).length = w0.length + gs.length := by
  induction gs generalizing w0 with
  | nil => rfl
  | cons g r ih =>
    show (wordsM r (stepW w0 g)).length = _
    rw [ih]
    unfold stepW
    rw [List.length_append, List.length_cons, List.length_cons, List.length_nil]
    omega
theorem gw_ok (bs : List Bool) (ws : List Wd) : Wok (gwM bs ws) := ⟨gate01 _ _, gate01 _ _⟩
theorem wordsM_ok (gs : List Gt) (w0 : List Wd) (h : ∀ x ∈ w0, Wok x) : ∀ x ∈ wordsM gs w0, Wok x := by
  induction gs generalizing w0 with
  | nil => exact h
  | cons g r ih =>
    refine ih (stepW w0 g) fun x hx => ?_
    rcases List.mem_append.mp hx with z | z
    · exact h x z
    · rw [List.mem_singleton.mp z]
      exact gw_ok _ _
theorem w0_ok {a b : List Int} (ha : Row01 a) (hb : Row01 b) : ∀ x ∈ w0M a b, Wok x := fun x hx => by
  obtain ⟨p, hp, rfl⟩ := List.mem_map.mp hx
  exact ⟨ha _ (List.of_mem_zip hp).1, hb _ (List.of_mem_zip hp).2⟩
theorem w0_len {a b : List Int} (h : a.length = b.length) : (w0M a b).length = a.length := by
  unfold w0M
  rw [List.length_map, List.length_zip]
  omega

section
variable {P : Program} {w : World} {K : PySem.W.Frag} {mg : Str → Option Value} {base : Heap}
def sp_words_of (K : PySem.W.Frag) (Pt : Addr) : Sp := fun vs H Q _ => ∃ (nv cv : V) (m : Int) (gs : List Gt) (a b : List Int), vs = [nv, cv] ∧ Tk H nv (netD m gs) ∧ Tk H cv (chD a b) ∧ a.length = b.length ∧ Row01 a ∧ Row01 b ∧ a.length ≤ 16 ∧ gs.length ≤ 1000 ∧ NetOk a.length gs ∧ GxR.TabG H Pt ∧
  ∀ r H', Gr H H' → Tk H' (.ref r) (.tuple ((wordsM gs (w0M a b)).map wD)) → Q (.ref r) H'
theorem w0_get {a b : List Int} {i : Nat} {x y : V} (hx : (a.map V.int)[i]? = some x) (hy : (b.map V.int)[i]? = some y) : ∃ p q, x = .int p ∧ y = .int q ∧ (w0M a b)[i]? = some (p, q, false) := by
  rw [List.getElem?_map] at hx hy
  cases ea : a[i]? with
  | none => rw [ea] at hx; cases hx
  | some p =>
    cases eb : b[i]? with
    | none => rw [eb] at hy; cases hy
    | some q =>
      rw [ea] at hx
      rw [eb] at hy
      refine ⟨p, q, (Option.some.inj hx).symm, (Option.some.inj hy).symm, ?_⟩
      unfold w0M
      rw [List.getElem?_map, List.getElem?_zip_eq_some (z := (p, q)) |>.mpr ⟨ea, eb⟩]
      rfl
theorem ok_words_of (T : Tx K mg) (B : Tb base T) : FnOk P w K mg base CX0 5 T.f_words_of T.fd_words_of ["net", "change"] (sp_words_of K T.P_words_of) := by
  refine okC T.F_words_of sc_words_of (fun vs H Q E h => ?_) (fun A outer s H vs Q E hr h => ?_)
  · obtain ⟨nv, cv, m, gs, a, b, rfl, _⟩ := h
    rfl
  · obtain ⟨nv, cv, m, gs, a, b, rfl, tn, tc, el, ha, hb, h16, h64, ok, tab, q⟩ := h
    refine ⟨_, (pss_cons (ps_asg (pv 1) (pg_tup rfl (pgs_cons (pg_name (i := 2) sc_words_of.nd rfl (by first | exact .inl rfl | exact .inr rfl)) (pgs_cons (pg_name (i := 3) sc_words_of.nd rfl (by first | exact .inl rfl | exact .inr rfl)) pgs_nil)))) (pss_cons (ps_set (i := 4) sc_words_of.nd rfl (by first | exact .inl rfl | exact .inr rfl) (pe_lc (own := [("before", 7), ("after", 8)]) (by rfl) sc_words_of.nd (RZ.pi_zipA (by rfl) T.m_zip (pa_cons (pv 2) (pa_cons (pv 3) pa_nil))) (blkOk_by (own := [("before", 7), ("after", 8)]) (N := ["net", "change", "a", "b", "words", "table", "ins", "before", "after", "wire"]) (sc := defScope s_words_of) (by decide +kernel)) (fun _ _ _ _ _ => (show PG _ _ (gTup K 2 _) from pg_tup rfl (pgs_cons (pg_name (i := 7) sc_words_of.nd rfl (by first | exact .inl rfl | exact .inr rfl)) (pgs_cons (pg_name (i := 8) sc_words_of.nd rfl (by first | exact .inl rfl | exact .inr rfl)) pgs_nil)))) (fun _ _ _ _ _ => pts_nil) (fun _ _ _ _ _ => (pe_tup (pa_cons (pv 7) (pa_cons (pv 8) (pa_cons pe_bl pa_nil))))))) (pss_cons (ps_for PassesOwn.never rfl (pi_tup (pe_ix ix_tup (pv 0) pe_int (fun _ _ => rfl))) (pg_tup rfl (pgs_cons (pg_name (i := 5) sc_words_of.nd rfl (by first | exact .inl rfl | exact .inr rfl)) (pgs_cons (pg_name (i := 6) sc_words_of.nd rfl (by first | exact .inl rfl | exact .inr rfl)) pgs_nil))) (pss_one (ps_expr (pe_bm PySem.F.plainAttrs_list PySem.F.slot_list_append PySem.F.type_list_append mt_append (pv 4) (pa_cons (pe_call (ok_gate_word T) (hr.mono (by decide)) (by rfl) T.g_gate_word T.F_gate_word.kp T.b_gate_word .nil pass0 (pa_cons (pv 5) (pa_cons (pe_tupX (own := [("wire", 9)]) (k := 0) (hr.mono (by decide)) rfl sc_words_of.nd (by rfl) T.m_tuple (by decide +kernel) B.TB_words_of T.cd_words_of rfl rfl (by decide +kernel) (blkOk_by (own := [("wire", 9)]) (N := ["net", "change", "a", "b", "words", "table", "ins", "before", "after", "wire"]) (sc := defScope s_words_of) (by decide +kernel)) (pi_tup (pv 6)) (fun _ _ _ _ _ _ _ hr gd => (pg_name (i := 9) sc_words_of.nd rfl (by first | exact .inl rfl | exact .inr rfl))) (fun _ _ _ _ _ _ _ hr gd => pts_nil) (fun _ _ _ _ _ _ _ hr gd => (pe_ix (show IxR _ (rIxL K) from ix_list) (pv 4) (pv 9) (fun _ _ => rfl))) (fun _ => rfl)) pa_nil))) pa_nil))))) (pss_one (ps_ret (pe_callTy call_tuple_of (by rfl) T.m_tuple (by decide +kernel) (pa_cons (pv 4) pa_nil))))))), ?_⟩
    obtain ⟨c, ra, rb, rfl, hc, hra, hrb⟩ := tc.ch_inv
    obtain ⟨n, g, xs, rfl, hn, hg, tg⟩ := tn.net_inv
    have w0len := w0_len el
    refine ⟨.ref c, rfl, c, _, rfl, SqT.of hc, rfl, _, _, rfl, _, _, rfl, rfl, ?_⟩
    refine ⟨.ref ra, rfl, .ref rb, rfl, ra, rb, _, _, rfl, .inr ⟨SqT.of hra, SqT.of hrb, fun D nD => ?_⟩⟩
    refine lc_zipT (K := K) (a := ra) (b := rb) (xs := a.map V.int) (ys := b.map V.int) (by rw [List.length_map, List.length_map]; exact el)
      (fun i H' => GrD D H H' ∧ ∃ acc, H' D = some (.lst acc) ∧ TkAll (hd1 D H') acc (((w0M a b).take i).map wD)) ⟨GrD.new nD, [], upd_same, .nil⟩ (fun i H' _ hP => ⟨SqT.of (hP.1.gr.tup hra), SqT.of (hP.1.gr.tup hrb)⟩) ?_ ?_
    · rintro i x y Tq H1 hx hy nT ⟨gr, acc, hD, ta⟩
      obtain ⟨p1, q1, rfl, rfl, hw⟩ := w0_get hx hy
      refine ⟨Tq, _, rfl, SqT.of upd_same, rfl, _, _, rfl, _, _, rfl, rfl, rfl, ?_⟩
      refine ⟨.int p1, rfl, .int q1, rfl, sl3, fun p np => ?_⟩
      have n1 : D ≠ Tq := ne_of_none hD nT
      have hD1 : (upd H1 Tq (.tup [.int p1, .int q1])) D = some (.lst acc) := by rw [upd_ne n1]; exact hD
      have hD2 : (upd (upd H1 Tq (.tup [.int p1, .int q1])) p (.tup [.int p1, .int q1, .bl false])) D = some (.lst acc) := by
        rw [upd_ne (ne_of_none hD1 np)]
        exact hD1
      have g1 := gr.then hD ((Gr.none (o := HO.tup [.int p1, .int q1]) nT).trans (Gr.none (o := HO.tup [.int p1, .int q1, .bl false]) np))
      refine ⟨acc, hD2, ?_, g1.set, acc ++ [.ref p], upd_same, ?_⟩
      · have := ta.length
        rw [List.length_map, List.length_take] at this
        exact Nat.lt_of_lt_of_le (show acc.length < 64 by omega) (by decide)
      · rw [List.take_add_one, hw]
        show TkAll _ _ (((w0M a b).take i ++ [(p1, q1, false)]).map _)
        rw [List.map_append]
        have sD : Same (hd1 D H1) (hd1 D (upd (upd (upd H1 Tq (.tup [.int p1, .int q1])) p (.tup [.int p1, .int q1, .bl false])) D (.lst (acc ++ [.ref p])))) := ((hd1_same (same_upd nT)).trans (hd1_same (same_upd np))).trans hd1_upd
        have pD : p ≠ D := (ne_of_none hD1 np).symm
        refine (ta.same sD).append (.cons (.tup (a := p) ?_ (.cons (.int _) (.cons (.int _) (.cons (.bl _) .nil)))) .nil)
        rw [hd1_at pD, upd_ne pD, upd_same]
    · rintro H1 ⟨gr, acc, hD, ta⟩
      rw [List.length_map, List.take_of_length_le (by omega)] at ta
      refine ⟨.ref n, rfl, n, _, 1, .ref g, rfl, rfl, SqT.of (gr.gr.tup hn), rfl, g, rfl, ⟨_, SqT.of (gr.gr.tup hg)⟩, ?_⟩
      refine for_tup (K := K) (a := g) (xs := xs) (fun i σ H' => ∃ y5 y6, σ = [some (.ref n), some (.ref c), some (.ref ra), some (.ref rb), some (.ref D), y5, y6, none, none, none] ∧ GrD D H H' ∧ ∃ acc, H' D = some (.lst acc) ∧ TkAll (hd1 D H') acc ((wordsM (gs.take i) (w0M a b)).map wD))
        ⟨_, _, rfl, gr, acc, hD, ta⟩ (fun i σ H' _ ⟨_, _, _, hP, _⟩ => SqT.of (hP.gr.tup hg)) ?_ ?_
      · rintro i v σ H2 hv ⟨y5, y6, rfl, gr2, acc2, hD2, ta2⟩
        obtain ⟨gt, hgt, tgt⟩ := tg.at hv
        obtain ⟨ga, ii, rfl, hga, hii⟩ := (tgt.gr gr2.gr).gt_inv
        obtain ⟨ok1, ok2, ok3, ok4⟩ := ok i gt hgt
        refine ⟨ga, _, rfl, SqT.of hga, rfl, _, _, rfl, _, _, rfl, rfl, ?_⟩
        have tab2 := gr2.gr.2 _ tab
        have wlen : (wordsM (gs.take i) (w0M a b)).length = a.length + i := by
          rw [wordsM_len, w0len, List.length_take]
          have := (List.getElem?_eq_some_iff.mp hgt).1
          omega
        have alen : acc2.length = a.length + i := by
          have := ta2.length
          rw [List.length_map] at this
          omega
        have hi64 := (List.getElem?_eq_some_iff.mp hgt).1
        refine ⟨.ref D, rfl, .inl ⟨rfl, _, SqL.of hD2⟩, .str (tabOf gt.1), rfl, .ref ii, rfl, ii, rfl, ⟨_, SqT.of hii⟩, tab2, fun H3 tb3 => ?_⟩
        have g3 := Gr.tab tab2 tb3
        have hD3 := g3.lst hD2
        have nP : D ≠ T.P_words_of := fun z => by
          obtain ⟨ps, e, _⟩ := tab2
          rw [← z, hD2] at e
          cases e
        have s3 := hd1_gr (D := D) g3 fun P ⟨ps, e, _⟩ z => by
          rw [← z, hD2] at e
          cases e
        refine gx_tup (K := K) (a := ii) (xs := (gt.2.map Int.ofNat).map V.int) (fun j ys H' => H' = H3 ∧ TkAll (hd1 D H3) ys ((pick (wordsM (gs.take i) (w0M a b)) (gt.2.take j)).map wD)) ⟨rfl, .nil⟩ (fun j ys H' _ ⟨e, _⟩ => by rw [e]; exact SqT.of (g3.tup hii)) ?_ ?_
        · rintro j x ys H' hx ⟨rfl, tys⟩
          rw [List.getElem?_map, List.getElem?_map] at hx
          cases hj : gt.2[j]? with
          | none => rw [hj] at hx; cases hx
          | some k =>
            rw [hj] at hx
            cases Option.some.inj hx
            have hk := ok4 k (List.mem_of_getElem? hj)
            have hwk : (wordsM (gs.take i) (w0M a b))[k]? = some ((wordsM (gs.take i) (w0M a b)).getD k (0, 0, false)) := by
              rw [List.getD_eq_getElem?_getD, List.getElem?_eq_getElem (by omega)]
              rfl
            obtain ⟨u, hu, tu⟩ := ta2.at' hwk
            have hjl := (List.getElem?_eq_some_iff.mp hj).1
            refine ⟨rfl, .ref D, rfl, .int (Int.ofNat k), rfl, D, _, Int.ofNat k, u, rfl, rfl, SqL.of hD3, ?_, ?_, rfl, ?_⟩
            · exact atI_nat hu
            · have := tys.length
              rw [List.length_map] at this
              unfold pick at this
              rw [List.length_map, List.length_take] at this
              exact Nat.lt_of_lt_of_le (show ys.length < 64 by omega) (by decide)
            · rw [List.take_add_one, hj]
              unfold pick
              rw [List.map_append, List.map_append]
              exact tys.append (.cons (tu.gr s3) .nil)
        · rintro ys H' ⟨rfl, tys⟩
          rw [List.length_map, List.length_map, List.take_length] at tys
          have yl : ys.length = gt.2.length := by
            have := tys.length
            rw [List.length_map] at this
            unfold pick at this
            rw [List.length_map] at this
            exact this
          refine ⟨Nat.le_trans (show ys.length ≤ 64 by omega) (by decide), fun p np => ?_⟩
          have pl : (pick (wordsM (gs.take i) (w0M a b)) gt.2).length = gt.2.length := by unfold pick; rw [List.length_map]
          have tp : Tk (upd H' p (.tup ys)) (.ref p) (.tuple ((pick (wordsM (gs.take i) (w0M a b)) gt.2).map wD)) := .tup upd_same ((tys.same hd1_le).same (same_upd np))
          refine ⟨gt.1, p, _, rfl, tp, fun x hx => ?_, by rw [pl]; exact ok1, by rw [pl]; exact ok3, fun r H4 s4 hr4 => ?_⟩
          · obtain ⟨k, hk, rfl⟩ := List.mem_map.mp hx
            refine wordsM_ok (gs.take i) (w0M a b) (w0_ok ha hb) _ ?_
            rw [List.getD_eq_getElem?_getD, List.getElem?_eq_getElem (by rw [wlen]; exact ok4 k hk)]
            exact List.getElem_mem _
          · have hD4 : H4 D = some (.lst acc2) := s4 _ _ (by rw [upd_ne (ne_of_none hD3 np)]; exact hD3)
            have g34 : Gr H' H4 := (Gr.none np).trans (Gr.of s4)
            refine ⟨D, acc2, _, rfl, rfl, hD4, Nat.lt_of_lt_of_le (show acc2.length < 2000 by omega) (by decide), ?_⟩
            refine ⟨_, _, rfl, (gr2.then hD2 (g3.trans g34)).set, _, upd_same, ?_⟩
            rw [wordsM_take hgt]
            unfold stepW
            rw [List.map_append]
            have s4D := hd1_gr (D := D) g34 fun P ⟨ps, e, _⟩ z => by
              rw [← z, hD3] at e
              cases e
            have rD : r ≠ D := (ne_of hD4 hr4 (by intro z; cases z)).symm
            refine (((ta2.gr s3).gr s4D).same hd1_upd).append (.cons (.tup (a := r) ?_ (.cons (.int _) (.cons (.int _) (.cons (.bl _) .nil)))) .nil)
            rw [hd1_at rD, upd_ne rD]
            exact hr4
      · rintro σ H2 ⟨y5, y6, rfl, gr2, acc2, hD2, ta2⟩
        have xl : xs.length = gs.length := by rw [tg.length, List.length_map]
        rw [xl, List.take_length] at ta2
        refine ⟨.ref D, rfl, D, acc2, rfl, .inl ⟨SqL.of hD2, fun l nl => ?_⟩⟩
        exact q l _ (gr2.gr.trans (Gr.none nl)) (.tup upd_same ((ta2.same hd1_le).same (same_upd nl)))

end
end Gk

set_option Elab.async false
set_option linter.all false
set_option maxRecDepth 100000
set_option maxHeartbeats 1000000
namespace Gk
open PySem PySem.Spec PyProof.Rows L2
section
variable {P : Program} {w : World} {K : PySem.W.Frag} {mg : Str → Option Value} {base : Heap}
/-! ### the deck of three parts -/
theorem p03 : (0 : Int) < 1000003 := by decide
def DeckB (H : Hp) (d l : Addr) (n : Int) : Prop := d ≠ l ∧ ∃ (cs : List Int) (z y : Int), H d = some (.lst [.ref l, .int z, .int y]) ∧ H l = some (.lst (cs.map V.int)) ∧ cs.length ≤ 63 ∧ 0 ≤ z ∧ z ≤ n
theorem DeckB.mono {H : Hp} {d l : Addr} {n m : Int} (D : DeckB H d l n) (h : n ≤ m) : DeckB H d l m := by
  obtain ⟨ne, cs, z, y, h1, h2, h3, h4, h5⟩ := D
  exact ⟨ne, cs, z, y, h1, h2, h3, h4, Int.le_trans h5 h⟩
theorem DeckB.same {H H' : Hp} {d l : Addr} {n : Int} (D : DeckB H d l n) (s : Same H H') : DeckB H' d l n := by
  obtain ⟨ne, cs, z, y, hd, hl, r⟩ := D
  exact ⟨ne, cs, z, y, s _ _ hd, s _ _ hl, r⟩
theorem DeckB.gr {H H' : Hp} {d l : Addr} {n : Int} (D : DeckB H d l n) (s : Gr H H') : DeckB H' d l n := by
  obtain ⟨ne, cs, z, y, hd, hl, r⟩ := D
  exact ⟨ne, cs, z, y, s.lst hd, s.lst hl, r⟩
theorem lc_enum {K : PySem.W.Frag} {a : Addr} {xs : List V} {g : TG} {tt : TT} {te : TE} {vs : List Nat} {σ : L2.St} {H1 : Hp} {D : Addr} {Qd : Hp → Prop} (Pv : Nat → Hp → Prop) (h0 : Pv 0 (upd H1 D (.lst []))) (hl : ∀ i H, i ≤ xs.length → Pv i H → SqL K H a xs)
    (hs : ∀ i x T H, xs[i]? = some x → H T = none → Pv i H → g (.ref T) (wipe σ vs) (upd H T (.tup [.int (i : Nat), x])) fun σ2 H2 => wipe σ2 vs = wipe σ vs ∧ tt σ2 H2 fun b H3 =>
      if b = true then te σ2 H3 fun y H4 => ∃ acc, H4 D = some (.lst acc) ∧ acc.length < sizeLine ∧ Pv (i + 1) (upd H4 D (.lst (acc ++ [y]))) else Pv (i + 1) H3) (hd : ∀ H, Pv xs.length H → Qd H) :
    ∃ W : Nat → Nat → Hp → Prop, (∃ m, W 0 m (upd H1 D (.lst []))) ∧ ∀ i m H, W i m H →
      ((Ite K a).stop i H ∧ Qd H) ∨ ((Ite K a).go i H ∧ ∃ Nx : Hp → Prop, (∀ H', Nx H' → ∃ m', m' < m ∧ W (i + 1) m' H') ∧ ∀ x H', (Ite K a).yld i H x H' → g x (wipe σ vs) H' fun σ2 H2 => wipe σ2 vs = wipe σ vs ∧ tt σ2 H2 fun b H3 =>
        if b = true then te σ2 H3 fun y H4 => ∃ acc, H4 D = some (.lst acc) ∧ acc.length < sizeLine ∧ Nx (upd H4 D (.lst (acc ++ [y]))) else Nx H3) := by
  refine ⟨fun i m H => m = xs.length - i ∧ i ≤ xs.length ∧ Pv i H, ⟨xs.length, by simp, Nat.zero_le _, h0⟩, ?_⟩
  rintro i m H ⟨rfl, hi, p⟩
  have qx := hl i H hi p
  by_cases hlt : i < xs.length
  · have hx : xs[i]? = some xs[i] := List.getElem?_eq_getElem hlt
    refine .inr ⟨⟨xs, _, qx, hx⟩, Pv (i + 1), fun H' p' => ⟨xs.length - (i + 1), by omega, rfl, hlt, p'⟩, fun x H' y => ?_⟩
    obtain ⟨T, x1, rfl, nT, rfl, e1⟩ := y
    exact hs i x1 T H (e1 xs qx) nT p
  · have e : i = xs.length := by omega
    subst e
    exact .inl ⟨⟨xs, qx, Nat.le_refl _⟩, hd H p⟩
theorem cutB {ns : List Int} (h : ns.length ≤ 63) : cutV (ns.map V.int) none (some 63) = ns.map V.int := by
  unfold cutV
  have e : HT.sIx (ns.map V.int).length (ns.map V.int).length (some 63) = min 63 (ns.map V.int).length := HT.sIx_nat _ _ 63
  rw [HT.sIx_none, e, List.length_map, List.drop_zero]
  apply List.take_of_length_le
  rw [List.length_map]
  omega
def sp_deck (K : PySem.W.Frag) : Sp := fun vs H Q _ => ∃ (a : Addr) (ns : List Int), vs = [.ref a] ∧ SqL K H a (ns.map V.int) ∧ ns.length ≤ 63 ∧ ∀ H' d l, Same H H' → DeckB H' d l 0 → Q (.ref d) H'
theorem ok_deck (T : Tx K mg) : FnOk P w K mg base CX0 1 T.f_deck T.fd_deck ["_law_script"] (sp_deck K) := by
  refine T.F_deck.ok sc_deck (fun vs H Q E h => ?_) (fun cdv A outer s H vs Q E hr h => ?_)
  · obtain ⟨a, ns, rfl, _⟩ := h
    rfl
  · obtain ⟨a, ns, rfl, hS, hlen, q⟩ := h
    refine ⟨_, (pss_cons (ps_set (i := 1) sc_deck.nd rfl (by first | exact .inl rfl | exact .inr rfl) (pe_callTy call_list_of (by rfl) T.m_list (by decide +kernel) (pa_cons (pe_slice sl_list (pv 0) po_none (po_some pe_int)) pa_nil))) (pss_one (ps_ret (pe_lst (pa_cons (pv 1) (pa_cons pe_int (pa_cons (pe_callB (cr_sum rfl) (by rfl) T.m_sum (by decide +kernel) (pa_cons (pe_lc (own := [("_law_k", 2), ("_law_cell", 3)]) (by rfl) sc_deck.nd (pi_enum (by rfl) T.m_enumerate (pa_cons (pv 1) pa_nil)) (blkOk_by (own := [("_law_k", 2), ("_law_cell", 3)]) (N := ["_law_script", "_law_cells", "_law_k", "_law_cell"]) (sc := defScope s_deck) (by decide +kernel)) (fun _ _ _ _ _ => (show PG _ _ (gTup K 2 _) from pg_tup rfl (pgs_cons (pg_name (i := 2) sc_deck.nd rfl (by first | exact .inl rfl | exact .inr rfl)) (pgs_cons (pg_name (i := 3) sc_deck.nd rfl (by first | exact .inl rfl | exact .inr rfl)) pgs_nil)))) (fun _ _ _ _ _ => pts_nil) (fun _ _ _ _ _ => (pe_op op_mul (pe_op op_mod (pv 3) pe_int) (pe_op op_add (pv 2) pe_int)))) pa_nil)) pa_nil))))))), ?_⟩
    refine ⟨.ref a, rfl, 63, rfl, a, _, rfl, hS, fun c2 nc2 => ?_⟩
    rw [cutB hlen]
    refine ⟨c2, _, rfl, .inl (SqL.of upd_same), fun l nl => ?_⟩
    have s1 : Same H (upd (upd H c2 (.lst (ns.map V.int))) l (.lst (ns.map V.int))) := (same_upd nc2).trans (same_upd nl)
    have h1 : (upd (upd H c2 (.lst (ns.map V.int))) l (.lst (ns.map V.int))) l = some (.lst (ns.map V.int)) := upd_same
    revert s1 h1
    generalize upd (upd H c2 (.lst (ns.map V.int))) l (.lst (ns.map V.int)) = H1
    intro s1 h1
    refine ⟨.ref l, rfl, .ref l, rfl, l, _, rfl, SqL.of h1, fun D nD => ?_⟩
    refine lc_enum (K := K) (a := l) (xs := ns.map V.int) (fun i H' => Same H1 (hd1 D H') ∧ ∃ ms : List Int, H' D = some (.lst (ms.map V.int)) ∧ ms.length = i) ⟨hd1_of (same_upd nD) nD, [], upd_same, rfl⟩ (fun i H' _ hP => SqL.of (hd1_le _ _ (hP.1 _ _ h1))) ?_ ?_
    · rintro i x Tq H2 hx nT ⟨s2, ms, hD, lm⟩
      rw [List.getElem?_map] at hx
      cases hj : ns[i]? with
      | none => rw [hj] at hx; cases hx
      | some c =>
        rw [hj] at hx
        cases Option.some.inj hx
        have hi := (List.getElem?_eq_some_iff.mp hj).1
        refine ⟨Tq, _, rfl, SqT.of upd_same, rfl, _, _, rfl, _, _, rfl, rfl, rfl, ?_⟩
        refine ⟨.int c, rfl, _, _, rfl, rfl, p03, .int (i : Nat), rfl, _, _, rfl, rfl, c % 1000003, (i : Int) + 2, rfl, rfl, .inr ⟨by omega, by omega⟩, ?_⟩
        have hD2 : (upd H2 Tq (.tup [.int (i : Nat), .int c])) D = some (.lst (ms.map V.int)) := by
          rw [upd_ne (ne_of_none hD nT)]
          exact hD
        refine ⟨_, hD2, ?_, (s2.trans (hd1_same (same_upd nT))).trans hd1_upd, ms ++ [c % 1000003 * ((i : Int) + 2)], ?_, by rw [List.length_append, lm]; rfl⟩
        · rw [List.length_map, lm]
          exact Nat.lt_of_lt_of_le (show i < 64 by omega) (by decide)
        · rw [upd_same, List.map_append]
          rfl
    · rintro H2 ⟨s2, ms, hD, lm⟩
      have s12 : Same H1 H2 := fun b o e => hd1_le _ _ (s2 _ _ e)
      refine ⟨D, ms, rfl, SqL.of hD, sl3, fun d nd => ?_⟩
      have nld : l ≠ d := ne_of_none (s12 _ _ h1) nd
      exact q _ d l ((s1.trans s12).trans (same_upd nd)) ⟨nld.symm, ns, 0, ms.sum, upd_same, (by rw [upd_ne nld]; exact s12 _ _ h1), hlen, Int.le_refl _, Int.le_refl _⟩
/-! ### a draw -/
def sp_draw (K : PySem.W.Frag) : Sp := fun vs H Q _ => ∃ (d l : Addr) (m n : Int), vs = [.ref d, .int m] ∧ DeckB H d l n ∧ n < 1000000000 ∧ 0 < m ∧ m < 1073741824 ∧ ∀ H' v, DeckB H' d l (n + 1) → Fr d l H H' → 0 ≤ v → v < m → Q (.int v) H'
theorem ok_draw (T : Tx K mg) : FnOk P w K mg base CX0 1 T.f_draw T.fd_draw ["_law_deck_here", "_law_most"] (sp_draw K) := by
  refine T.F_draw.ok sc_draw (fun vs H Q E h => ?_) (fun cdv A outer s H vs Q E hr h => ?_)
  · obtain ⟨d, l, m, n, rfl, _⟩ := h
    rfl
  · obtain ⟨d, l, m, n, rfl, D, hn, hm0, hm1, q⟩ := h
    obtain ⟨ne, cs, z, y, hd, hl, hcs, hz0, hz1⟩ := D
    refine ⟨_, (pss_cons (ps_asg (pe_op op_add (pe_ix ix_list (pv 0) pe_int (fun _ _ => rfl)) pe_int) (pg_sub (pv 0) pe_int set_list)) (pss_cons (ps_set (i := 2) sc_draw.nd rfl (by first | exact .inl rfl | exact .inr rfl) (pe_op op_add (pe_ix ix_list (pv 0) pe_int (fun _ _ => rfl)) (pe_op op_mul pe_int (pe_ix ix_list (pv 0) pe_int (fun _ _ => rfl))))) (pss_cons (ps_if (pt_cmpR (op_neD hr.units) (pe_ix ix_list (pv 0) pe_int (fun _ _ => rfl)) (pe_lst pa_nil) (nomark _)) (pss_cons (ps_set (i := 2) sc_draw.nd rfl (by first | exact .inl rfl | exact .inr rfl) (pe_bm PySem.F.plainAttrs_list PySem.F.slot_list_pop PySem.F.type_list_pop mt_popAt (pe_ix ix_list (pv 0) pe_int (fun _ _ => rfl)) (pa_cons pe_int pa_nil))) (pss_one (ps_if (pt_cmpR op_ge (pv 2) (pe_op op_pow pe_int pe_int) (nomark _)) (pss_cons (ps_expr (pe_bm PySem.F.plainAttrs_list PySem.F.slot_list_insert PySem.F.type_list_insert mt_insert (pe_ix ix_list (pv 0) pe_int (fun _ _ => rfl)) (pa_cons pe_int (pa_cons (pe_op op_fdiv (pv 2) (pv 1)) pa_nil)))) (pss_one (ps_ret (pe_op op_mod (pv 2) (pv 1))))) pss_nil))) pss_nil) (pss_cons (ps_set (i := 3) sc_draw.nd rfl (by first | exact .inl rfl | exact .inr rfl) (pe_op op_mod (pe_op op_mul (pe_op op_add (pe_op op_add (pe_op op_mod (pv 2) pe_int) (pe_op op_mul (pe_op op_mul pe_int (pe_ix ix_list (pv 0) pe_int (fun _ _ => rfl))) (pe_ix ix_list (pv 0) pe_int (fun _ _ => rfl)))) pe_int) pe_int) pe_int)) (pss_cons (ps_set (i := 3) sc_draw.nd rfl (by first | exact .inl rfl | exact .inr rfl) (pe_op op_mod (pe_op op_add (pe_op op_add (pe_op op_mul (pv 3) (pv 3)) (pe_op op_mul pe_int (pv 3))) (pe_ix ix_list (pv 0) pe_int (fun _ _ => rfl))) pe_int)) (pss_one (ps_ret (pe_op op_mod (pe_op op_fdiv (pv 3) pe_int) (pv 1))))))))), ?_⟩
    -- deck[1] = deck[1] + 1
    refine ⟨.ref d, rfl, d, _, 1, .int z, rfl, rfl, SqL.of hd, rfl, z, 1, rfl, rfl, .ref d, rfl, d, _, 1, 1, rfl, rfl, hd, rfl, ?_⟩
    have hd1 : (upd H d (.lst [.ref l, .int (z + 1), .int y])) d = some (.lst [.ref l, .int (z + 1), .int y]) := upd_same
    have hl1 : (upd H d (.lst [.ref l, .int (z + 1), .int y])) l = some (.lst (cs.map V.int)) := by rw [upd_ne ne.symm]; exact hl
    have fr1 : Fr d l H (upd H d (.lst [.ref l, .int (z + 1), .int y])) := Fr.d
    have hz2 : 0 ≤ z + 1 := by omega
    have hz3 : z + 1 ≤ n + 1 := by omega
    have hz4 : z + 1 < 2000000000 := by omega
    show tSeq _ _ _ _ (upd H d (.lst [.ref l, .int (z + 1), .int y]))
    revert hd1 hl1 fr1 hz2 hz3 hz4
    generalize upd H d (.lst [.ref l, .int (z + 1), .int y]) = H1
    generalize z + 1 = z'
    intro hd1 hl1 fr1 hz2 hz3 hz4
    -- cell = deck[2] + 104729 * deck[1]
    refine ⟨.ref d, rfl, d, _, 2, .int y, rfl, rfl, SqL.of hd1, rfl, .ref d, rfl, d, _, 1, .int z', rfl, rfl, SqL.of hd1, rfl, 104729, z', rfl, rfl, .inl ⟨by decide, by decide⟩, _, _, rfl, rfl, ?_⟩
    -- if deck[0] != []
    refine ⟨.ref d, rfl, d, _, 0, .ref l, rfl, rfl, SqL.of hd1, rfl, Nat.zero_le _, fun p np => ?_⟩
    have fr2 : Fr d l H (upd H1 p (.lst [])) := fr1.trans (Fr.new np)
    have hd2 : (upd H1 p (.lst [])) d = some (.lst [.ref l, .int z', .int y]) := same_upd np _ _ hd1
    have hl2 : (upd H1 p (.lst [])) l = some (.lst (cs.map V.int)) := same_upd np _ _ hl1
    refine ⟨.list (cs.map .int), .list [], .lst (SqL.of hl2) (dpInts cs), .lst (SqL.of upd_same) .nil, shInts cs, rfl, _, rfl, ?_⟩
    revert fr2 hd2 hl2
    generalize upd H1 p (.lst []) = H2
    intro fr2 hd2 hl2
    cases cs with
    | nil =>
      refine iteF ?_
      refine ⟨.int (y + 104729 * z'), rfl, _, _, rfl, rfl, p29, .ref d, rfl, d, _, 1, .int z', rfl, rfl, SqL.of hd2, rfl, 7919, z', rfl, rfl, .inl ⟨by decide, by decide⟩, .ref d, rfl, d, _, 1, .int z', rfl, rfl, SqL.of hd2, rfl, 7919 * z', z', rfl, rfl, .inr ⟨by omega, by omega⟩, _, _, rfl, rfl, _, _, rfl, rfl, _, 48271, rfl, rfl, .inr ⟨by decide, by decide⟩, _, _, rfl, rfl, p47, ?_⟩
      dsimp only
      have v0 := Int.emod_nonneg (((y + 104729 * z') % 2147483629 + 7919 * z' * z' + 31) * 48271) (show (2147483647 : Int) ≠ 0 by decide)
      have v1 := Int.emod_lt_of_pos (((y + 104729 * z') % 2147483629 + 7919 * z' * z' + 31) * 48271) (show (0 : Int) < 2147483647 by decide)
      revert v0 v1
      generalize (((y + 104729 * z') % 2147483629 + 7919 * z' * z' + 31) * 48271) % 2147483647 = v
      intro v0 v1
      refine ⟨.int v, rfl, .int v, rfl, v, v, rfl, rfl, .inl ⟨by omega, by omega⟩, .int v, rfl, 69621, v, rfl, rfl, .inl ⟨by decide, by decide⟩, _, _, rfl, rfl, .ref d, rfl, d, _, 1, .int z', rfl, rfl, SqL.of hd2, rfl, _, _, rfl, rfl, _, _, rfl, rfl, p87, ?_⟩
      refine ⟨.int ((v * v + 69621 * v + z') % 2147483587), rfl, _, _, rfl, rfl, ⟨by decide, by decide⟩, .int m, rfl, _, _, rfl, rfl, hm0, ?_⟩
      exact q _ _ ⟨ne, [], z', y, hd2, hl2, hcs, hz2, hz3⟩ fr2 (Int.emod_nonneg _ (by omega)) (Int.emod_lt_of_pos _ hm0)
    | cons c r =>
      refine iteT ?_
      -- cell = deck[0].pop(0)
      refine ⟨.ref d, rfl, d, _, 0, .ref l, rfl, rfl, SqL.of hd2, rfl, .inl ⟨rfl, _, SqL.of hl2⟩, l, _, 0, 0, .int c, rfl, rfl, hl2, by decide, by decide, seqIx0 _ _, rfl, ?_⟩
      have hd3 : (upd H2 l (.lst (r.map V.int))) d = some (.lst [.ref l, .int z', .int y]) := by rw [upd_ne ne]; exact hd2
      have hl3 : (upd H2 l (.lst (r.map V.int))) l = some (.lst (r.map V.int)) := upd_same
      have fr3 : Fr d l H (upd H2 l (.lst (r.map V.int))) := fr2.trans Fr.l
      have hr63 : r.length + 1 ≤ 63 := hcs
      -- if cell >= 10 ** 18
      refine ⟨.int c, rfl, _, _, rfl, rfl, ⟨by decide, by decide, by decide⟩, _, _, rfl, rfl, _, rfl, ite2 (fun _ => ?_) (fun _ => ?_)⟩
      · refine ⟨.ref d, rfl, d, _, 0, .ref l, rfl, rfl, SqL.of hd3, rfl, .inl ⟨rfl, _, SqL.of hl3⟩, .int c, rfl, .int m, rfl, _, _, rfl, rfl, ⟨hm0, hm1⟩, l, _, 0, _, rfl, rfl, hl3, ?_, by decide, by decide, ?_⟩
        · rw [List.length_map]
          exact Nat.lt_of_lt_of_le (show r.length < 64 by omega) (by decide)
        · refine ⟨.int c, rfl, .int m, rfl, _, _, rfl, rfl, hm0, ?_⟩
          refine q _ _ ⟨ne, c / m :: r, z', y, (by rw [upd_ne ne]; exact hd3), ?_, hr63, hz2, hz3⟩ (fr3.trans Fr.l) (Int.emod_nonneg _ (by omega)) (Int.emod_lt_of_pos _ hm0)
          rw [upd_same]
          simp
      · refine ⟨.int c, rfl, _, _, rfl, rfl, p29, .ref d, rfl, d, _, 1, .int z', rfl, rfl, SqL.of hd3, rfl, 7919, z', rfl, rfl, .inl ⟨by decide, by decide⟩, .ref d, rfl, d, _, 1, .int z', rfl, rfl, SqL.of hd3, rfl, 7919 * z', z', rfl, rfl, .inr ⟨by omega, by omega⟩, _, _, rfl, rfl, _, _, rfl, rfl, _, 48271, rfl, rfl, .inr ⟨by decide, by decide⟩, _, _, rfl, rfl, p47, ?_⟩
        dsimp only
        have v0 := Int.emod_nonneg ((c % 2147483629 + 7919 * z' * z' + 31) * 48271) (show (2147483647 : Int) ≠ 0 by decide)
        have v1 := Int.emod_lt_of_pos ((c % 2147483629 + 7919 * z' * z' + 31) * 48271) (show (0 : Int) < 2147483647 by decide)
        revert v0 v1
        generalize ((c % 2147483629 + 7919 * z' * z' + 31) * 48271) % 2147483647 = v
        intro v0 v1
        refine ⟨.int v, rfl, .int v, rfl, v, v, rfl, rfl, .inl ⟨by omega, by omega⟩, .int v, rfl, 69621, v, rfl, rfl, .inl ⟨by decide, by decide⟩, _, _, rfl, rfl, .ref d, rfl, d, _, 1, .int z', rfl, rfl, SqL.of hd3, rfl, _, _, rfl, rfl, _, _, rfl, rfl, p87, ?_⟩
        refine ⟨.int ((v * v + 69621 * v + z') % 2147483587), rfl, _, _, rfl, rfl, ⟨by decide, by decide⟩, .int m, rfl, _, _, rfl, rfl, hm0, ?_⟩
        exact q _ _ ⟨ne, r, z', y, hd3, hl3, by omega, hz2, hz3⟩ fr3 (Int.emod_nonneg _ (by omega)) (Int.emod_lt_of_pos _ hm0)

end
end Gk

set_option Elab.async false
set_option linter.all false
set_option maxRecDepth 100000
set_option maxHeartbeats 1000000
namespace Gk
open PySem PySem.Spec PyProof.Rows L2
/-! ### data of tuples alone: no list that is written can harm it -/
mutual
def noL : PyData → Bool
  | .list _ => false
  | .tuple ds => noLs ds
  | _ => true
def noLs : List PyData → Bool
  | [] => true
  | d :: r => noL d && noLs r
end
def Ts (H H' : Hp) : Prop := ∀ b xs, H b = some (HO.tup xs) → H' b = some (.tup xs)
theorem Ts.refl {H : Hp} : Ts H H := fun _ _ e => e
theorem Ts.trans {H H1 H2 : Hp} (a : Ts H H1) (b : Ts H1 H2) : Ts H H2 := fun c xs e => b c xs (a c xs e)
theorem Ts.same {H H' : Hp} (s : Same H H') : Ts H H' := fun b xs e => s _ _ e
theorem Ts.gr {H H' : Hp} (s : Gr H H') : Ts H H' := fun b xs e => s.tup e
theorem Ts.new {H : Hp} {p : Addr} {o : HO} (h : H p = none) : Ts H (upd H p o) := Ts.same (same_upd h)
theorem Ts.set {H : Hp} {p : Addr} {xs ys : List V} (h : H p = some (.lst xs)) : Ts H (upd H p (.lst ys)) := fun b zs e => by
  rw [upd_ne (ne_of e h (by intro z; cases z))]
  exact e
mutual
theorem Tk.ts {H H' : Hp} (s : Ts H H') : ∀ {v : V} {d : PyData}, Tk H v d → noL d = true → Tk H' v d
  | _, _, .bl b, _ => .bl b
  | _, _, .int i, _ => .int i
  | _, _, .str x, _ => .str x
  | _, _, .lst h t, n => by cases n
  | _, _, .tup h t, n => .tup (s _ _ h) (t.ts s n)
theorem TkAll.ts {H H' : Hp} (s : Ts H H') : ∀ {vs : List V} {ds : List PyData}, TkAll H vs ds → noLs ds = true → TkAll H' vs ds
  | _, _, .nil, _ => .nil
  | _, _, .cons (d := d) (ds := ds) h t, n => by
    have n' : noL d = true ∧ noLs ds = true := Bool.and_eq_true_iff.mp n
    exact .cons (h.ts s n'.1) (t.ts s n'.2)
end
theorem noLs_map {α : Type} {f : α → PyData} (h : ∀ x, noL (f x) = true) : ∀ l : List α, noLs (l.map f) = true
  | [] => rfl
  | x :: r => by
    show (noL (f x) && noLs (r.map f)) = true
    rw [h x, noLs_map h r]
    rfl
theorem noL_row (r : List Int) : noL (rowD r) = true := noLs_map (fun _ => rfl) r
theorem noL_gate (g : Gt) : noL (gD g) = true := by
  show (true && (noLs ((g.2.map Int.ofNat).map PyData.int) && true)) = true
  rw [noLs_map (fun _ => rfl)]
  rfl
theorem noL_gates (gs : List Gt) : noLs (gs.map gD) = true := noLs_map noL_gate gs
theorem noL_net (m : Int) (gs : List Gt) : noL (netD m gs) = true := by
  show (true && (noLs (gs.map gD) && true)) = true
  rw [noL_gates]
  rfl
theorem noL_ch (a b : List Int) : noL (chD a b) = true := by
  show (noL (rowD a) && (noL (rowD b) && true)) = true
  rw [noL_row, noL_row]
  rfl

theorem noL_words (ws : List Wd) : noL (.tuple (ws.map wD)) = true := noLs_map (fun _ => rfl) ws

section
variable {P : Program} {w : World} {K : PySem.W.Frag} {mg : Str → Option Value} {base : Heap}
/-! ### drawn tables, nets, changes -/
def TabsIn (k : Nat) (bss : List (List Bool)) : Prop := bss ≠ [] ∧ bss.length ≤ 8 ∧ ∀ bs ∈ bss, bs.length = 2 ^ k
def vT (bs : List Bool) : V := .str (tabOf bs)
theorem tab_pick {k : Nat} {bss : List (List Bool)} (h : TabsIn k bss) {v : Int} (v0 : 0 ≤ v) (v1 : v < bss.length) : ∃ bs, atI (bss.map vT) v = some (vT bs) ∧ bs.length = 2 ^ k := by
  obtain ⟨j, rfl⟩ := Int.eq_ofNat_of_zero_le v0
  have hj : j < bss.length := by omega
  refine ⟨bss[j], atI_nat ?_, h.2.2 _ (List.getElem_mem hj)⟩
  rw [List.getElem?_map, List.getElem?_eq_getElem hj]
  rfl
def tabs1 : List (List Bool) := [[true, false], [false, true], [true, false]]
def tabs2 : List (List Bool) := [[false, false, false, true], [false, true, true, true], [false, true, true, false], [true, true, true, false], [true, false, false, false], [true, false, false, true], [false, false, true, false], [true, true, false, true]]
def tabs3 : List (List Bool) := [[false, false, false, false, false, false, false, true], [false, true, true, true, true, true, true, true], [false, true, true, false, true, false, false, true], [false, false, false, true, false, true, true, true],
  [false, false, true, true, false, true, false, true], [true, true, true, false, true, false, false, false], [true, false, false, false, false, false, false, false], [false, true, false, false, false, false, true, false]]
theorem tabsIn1 : TabsIn 1 tabs1 := ⟨by decide, by decide, by decide⟩
theorem tabsIn2 : TabsIn 2 tabs2 := ⟨by decide, by decide, by decide⟩
theorem tabsIn3 : TabsIn 3 tabs3 := ⟨by decide, by decide, by decide⟩
def sg (b : Bool) : Str := SX.S [if b = true then 49 else 48]
theorem sg0 : Str.ofString (toString (0 : Int)) = sg false := by decide +kernel
theorem sg1 : Str.ofString (toString (1 : Int)) = sg true := by decide +kernel
theorem joinL_nil : ∀ l : List (List Nat), TL.joinL [] l = l.flatten
  | [] => rfl
  | [p] => by simp [TL.joinL]
  | p :: q :: r => by
    show p ++ ([] ++ TL.joinL [] (q :: r)) = _
    rw [joinL_nil (q :: r)]
    rfl
theorem join_sg (bs : List Bool) : Txt.join (Str.ofString "") (bs.map sg) = tabOf bs := by
  have e : bs.map sg = (bs.map fun b => [if b = true then 49 else 48]).map SX.S := by rw [List.map_map]; rfl
  have z : Str.ofString "" = SX.S [] := by decide +kernel
  rw [e, z, SX.join_S, joinL_nil]
  have : (bs.map fun b => [if b = true then 49 else 48]).flatten = bs.map fun b => if b = true then 49 else 48 := by
    clear e z
    induction bs with
    | nil => rfl
    | cons b r ih => rw [List.map_cons, List.flatten_cons, ih]; rfl
  rw [this]
  rfl
theorem Fr.inv {d l : Addr} {H H' : Hp} (f : Fr d l H H') {b : Addr} {o : HO} (h1 : b ≠ d) (h2 : b ≠ l) (e : H b = some o) : H' b = some o := f b o h1 h2 e
def sp_table (K : PySem.W.Frag) : Sp := fun vs H Q _ => ∃ (d l : Addr) (n : Int) (k : Nat), vs = [.ref d, .int k] ∧ DeckB H d l n ∧ n < 1000000 ∧ 1 ≤ k ∧ k ≤ 3 ∧ ∀ H' bs, DeckB H' d l (n + 10) → Fr d l H H' → bs.length = 2 ^ k → Q (.str (tabOf bs)) H'
theorem ok_table (T : Tx K mg) : FnOk P w K mg base CX0 2 T.f_table T.fd_table ["_law_deck_here", "_law_ins"] (sp_table K) := by
  refine T.F_table.ok sc_table (fun vs H Q E h => ?_) (fun cdv A outer s H vs Q E hr h => ?_)
  · obtain ⟨d, l, n, k, rfl, _⟩ := h
    rfl
  · obtain ⟨d, l, n, k, rfl, D, hn, k1, k3, q⟩ := h
    refine ⟨_, (pss_cons (ps_set (i := 2) sc_table.nd rfl (by first | exact .inl rfl | exact .inr rfl) (pe_call (ok_draw T) (hr.mono (by decide)) (by rfl) T.g_draw T.F_draw.kp T.b_draw .nil pass0 (pa_cons (pv 0) (pa_cons pe_int pa_nil)))) (pss_cons (ps_set (i := 3) sc_table.nd rfl (by first | exact .inl rfl | exact .inr rfl) (pe_lst (pa_cons (pe_lst (pa_cons pe_str (pa_cons pe_str (pa_cons pe_str pa_nil)))) (pa_cons (pe_lst (pa_cons pe_str (pa_cons pe_str (pa_cons pe_str (pa_cons pe_str (pa_cons pe_str (pa_cons pe_str (pa_cons pe_str (pa_cons pe_str pa_nil))))))))) pa_nil)))) (pss_cons (ps_expr (pe_bm PySem.F.plainAttrs_list PySem.F.slot_list_append PySem.F.type_list_append mt_append (pv 3) (pa_cons (pe_lst (pa_cons pe_str (pa_cons pe_str (pa_cons pe_str (pa_cons pe_str (pa_cons pe_str (pa_cons pe_str (pa_cons pe_str (pa_cons pe_str pa_nil))))))))) pa_nil))) (pss_cons (ps_if (pt_cmpR op_lt (pv 2) pe_int (nomark _)) (pss_one (ps_ret (pe_ix ix_list (pe_ix ix_list (pv 3) (pe_op op_sub (pv 1) pe_int) (fun _ _ => rfl)) (pe_call (ok_draw T) (hr.mono (by decide)) (by rfl) T.g_draw T.F_draw.kp T.b_draw .nil pass0 (pa_cons (pv 0) (pa_cons (pe_callB call_len_seq (by rfl) T.m_len PySem.boot_len (pa_cons (pe_ix ix_list (pv 3) (pe_op op_sub (pv 1) pe_int) (fun _ _ => rfl)) pa_nil)) pa_nil))) (fun _ _ => rfl)))) pss_nil) (pss_one (ps_ret (pe_join pe_str (pe_lc (own := [("_law_k", 4)]) (by rfl) sc_table.nd (pi_range1 (by rfl) T.m_range (pa_cons (pe_ix ix_list (pe_lst (pa_cons pe_int (pa_cons pe_int (pa_cons pe_int pa_nil)))) (pe_op op_sub (pv 1) pe_int) (fun _ _ => rfl)) pa_nil)) (blkOk_by (own := [("_law_k", 4)]) (N := ["_law_deck_here", "_law_ins", "_law_way", "_law_some", "_law_k"]) (sc := defScope s_table) (by decide +kernel)) (fun _ _ _ _ _ => (pg_name (i := 4) sc_table.nd rfl (by first | exact .inl rfl | exact .inr rfl))) (fun _ _ _ _ _ => pts_nil) (fun _ _ _ _ _ => (pe_callTy call_str_int (by rfl) T.m_str (by decide +kernel) (pa_cons (pe_call (ok_draw T) (hr.mono (by decide)) (by rfl) T.g_draw T.F_draw.kp T.b_draw .nil pass0 (pa_cons (pv 0) (pa_cons pe_int pa_nil))) pa_nil))))))))))), ?_⟩
    refine ⟨.ref d, rfl, d, l, 3, n, rfl, D, by omega, by decide, by decide, fun H1 way D1 fr1 w0 w1 => ?_⟩
    refine ⟨by decide, fun p1 n1 => ⟨by decide, fun p2 n2 => ⟨sl2, fun p3 n3 => ?_⟩⟩⟩
    have hA1 : ([V.str (Str.ofString "10"), V.str (Str.ofString "01"), V.str (Str.ofString "10")] : List V) = tabs1.map vT := by decide +kernel
    have hA2 : ([V.str (Str.ofString "0001"), V.str (Str.ofString "0111"), V.str (Str.ofString "0110"), V.str (Str.ofString "1110"), V.str (Str.ofString "1000"), V.str (Str.ofString "1001"), V.str (Str.ofString "0010"), V.str (Str.ofString "1101")] : List V) = tabs2.map vT := by decide +kernel
    have hA3 : ([V.str (Str.ofString "00000001"), V.str (Str.ofString "01111111"), V.str (Str.ofString "01101001"), V.str (Str.ofString "00010111"), V.str (Str.ofString "00110101"), V.str (Str.ofString "11101000"), V.str (Str.ofString "10000000"), V.str (Str.ofString "01000010")] : List V) = tabs3.map vT := by decide +kernel
    rw [hA1] at n2 n3
    rw [hA2] at n3
    rw [hA1, hA2]
    refine ⟨.ref p3, rfl, .inl ⟨rfl, _, SqL.of upd_same⟩, by decide, fun p4 n4 => ?_⟩
    rw [hA3]
    have e1 : (upd (upd (upd H1 p1 (.lst (tabs1.map vT))) p2 (.lst (tabs2.map vT))) p3 (.lst [.ref p1, .ref p2])) p3 = some (.lst [.ref p1, .ref p2]) := upd_same
    have sA : Same H1 (upd (upd (upd H1 p1 (.lst (tabs1.map vT))) p2 (.lst (tabs2.map vT))) p3 (.lst [.ref p1, .ref p2])) := ((same_upd n1).trans (same_upd n2)).trans (same_upd n3)
    have e2 : (upd (upd (upd H1 p1 (.lst (tabs1.map vT))) p2 (.lst (tabs2.map vT))) p3 (.lst [.ref p1, .ref p2])) p1 = some (.lst (tabs1.map vT)) := same_upd n3 _ _ (same_upd n2 _ _ upd_same)
    have e3 : (upd (upd (upd H1 p1 (.lst (tabs1.map vT))) p2 (.lst (tabs2.map vT))) p3 (.lst [.ref p1, .ref p2])) p2 = some (.lst (tabs2.map vT)) := same_upd n3 _ _ upd_same
    have n12 : p3 ≠ p1 ∧ p3 ≠ p2 := ⟨fun z => (by rw [z, upd_ne (fun y => by rw [← y, upd_same] at n2; cases n2), upd_same] at n3; cases n3), fun z => (by rw [z, upd_same] at n3; cases n3)⟩
    revert n4 e1 sA e2 e3
    generalize upd (upd (upd H1 p1 (.lst (tabs1.map vT))) p2 (.lst (tabs2.map vT))) p3 (.lst [.ref p1, .ref p2]) = H2
    intro n4 e1 sA e2 e3
    have f1 := same_upd (o := HO.lst (tabs3.map vT)) n4 _ _ e1
    have f2 := same_upd (o := HO.lst (tabs3.map vT)) n4 _ _ e2
    have f3 := same_upd (o := HO.lst (tabs3.map vT)) n4 _ _ e3
    have f4 : (upd H2 p4 (HO.lst (tabs3.map vT))) p4 = some (.lst (tabs3.map vT)) := upd_same
    have sB : Same H1 (upd H2 p4 (HO.lst (tabs3.map vT))) := sA.trans (same_upd n4)
    have n34 : p3 ≠ p4 := ne_of_none e1 n4
    refine ⟨p3, _, _, rfl, rfl, f1, (show 2 < sizeLine by decide), ?_⟩
    have g1 : (upd (upd H2 p4 (HO.lst (tabs3.map vT))) p3 (.lst ([.ref p1, .ref p2] ++ [.ref p4]))) p3 = some (.lst [.ref p1, .ref p2, .ref p4]) := upd_same
    have g2 : (upd (upd H2 p4 (HO.lst (tabs3.map vT))) p3 (.lst ([.ref p1, .ref p2] ++ [.ref p4]))) p1 = some (.lst (tabs1.map vT)) := by rw [upd_ne n12.1.symm]; exact f2
    have g3 : (upd (upd H2 p4 (HO.lst (tabs3.map vT))) p3 (.lst ([.ref p1, .ref p2] ++ [.ref p4]))) p2 = some (.lst (tabs2.map vT)) := by rw [upd_ne n12.2.symm]; exact f3
    have g4 : (upd (upd H2 p4 (HO.lst (tabs3.map vT))) p3 (.lst ([.ref p1, .ref p2] ++ [.ref p4]))) p4 = some (.lst (tabs3.map vT)) := by rw [upd_ne n34.symm]; exact f4
    have n3' : H1 p3 = none := by
      cases z : H1 p3 with
      | none => rfl
      | some o => rw [same_upd n2 _ _ (same_upd n1 _ _ z)] at n3; cases n3
    have sC : Same H1 (upd (upd H2 p4 (HO.lst (tabs3.map vT))) p3 (.lst ([.ref p1, .ref p2] ++ [.ref p4]))) := fun b o e => by
      rw [upd_ne (ne_of_none e n3')]
      exact sB _ _ e
    show tSeq _ _ _ _ (upd (upd H2 p4 (HO.lst (tabs3.map vT))) p3 (.lst ([.ref p1, .ref p2] ++ [.ref p4])))
    revert g1 g2 g3 g4 sC
    generalize upd (upd H2 p4 (HO.lst (tabs3.map vT))) p3 (.lst ([.ref p1, .ref p2] ++ [.ref p4])) = H3
    intro g1 g2 g3 g4 sC
    have D3 := D1.same sC
    have fr3 : Fr d l H H3 := fr1.trans (Fr.of sC)
    have sel : ∃ (pk : Addr) (bss : List (List Bool)), atI [V.ref p1, V.ref p2, V.ref p4] ((k : Int) - 1) = some (.ref pk) ∧ H3 pk = some (.lst (bss.map vT)) ∧ TabsIn k bss := by
      have : k = 1 ∨ k = 2 ∨ k = 3 := by omega
      rcases this with rfl | rfl | rfl
      · exact ⟨p1, tabs1, rfl, g2, tabsIn1⟩
      · exact ⟨p2, tabs2, rfl, g3, tabsIn2⟩
      · exact ⟨p4, tabs3, rfl, g4, tabsIn3⟩
    obtain ⟨pk, bss, a1, hk, tin⟩ := sel
    have bpos : 0 < bss.length := List.length_pos_iff.mpr tin.1
    have b8 := tin.2.1
    refine ⟨.int way, rfl, _, _, rfl, rfl, _, rfl, ite2 (fun _ => ?_) (fun _ => ?_)⟩
    · refine ⟨.ref p3, rfl, .int k, rfl, _, _, rfl, rfl, p3, _, (k : Int) - 1, .ref pk, rfl, rfl, SqL.of g1, a1, .ref d, rfl, .ref p3, rfl, .int k, rfl, _, _, rfl, rfl, p3, _, (k : Int) - 1, .ref pk, rfl, rfl, SqL.of g1, a1, pk, _, rfl, .inl (SqL.of hk), ?_⟩
      rw [List.length_map]
      refine ⟨d, l, _, n + 1, rfl, D3, by omega, by omega, by omega, fun H4 v D4 fr4 v0 v1 => ?_⟩
      obtain ⟨bs, hbs, lbs⟩ := tab_pick tin v0 v1
      obtain ⟨ne, cs, z, y, hd, hl, r⟩ := D3
      have hk4 : H4 pk = some (.lst (bss.map vT)) := fr4 _ _ (fun z => ?_) (fun z => ?_) hk
      · exact ⟨pk, _, v, _, rfl, rfl, SqL.of hk4, hbs, q H4 bs (D4.mono (by omega)) (fr3.trans fr4) lbs⟩
      · rw [z, hd] at hk
        cases bss with
        | nil => exact tin.1 rfl
        | cons b r => cases hk
      · rw [z, hl] at hk
        cases bss with
        | nil => exact tin.1 rfl
        | cons b r =>
          cases cs with
          | nil => cases hk
          | cons c r => cases hk
    · refine ⟨⟨_, rfl⟩, sl3, fun p5 n5 => ?_⟩
      obtain ⟨N, hN, a2, k8⟩ : ∃ N : Nat, 2 ^ k = N ∧ atI [V.int 2, V.int 4, V.int 8] ((k : Int) - 1) = some (.int (N : Int)) ∧ N ≤ 8 := by
        have : k = 1 ∨ k = 2 ∨ k = 3 := by omega
        rcases this with rfl | rfl | rfl
        · exact ⟨2, rfl, rfl, by decide⟩
        · exact ⟨4, rfl, rfl, by decide⟩
        · exact ⟨8, rfl, rfl, by decide⟩
      refine ⟨.int k, rfl, _, _, rfl, rfl, p5, _, (k : Int) - 1, _, rfl, rfl, SqL.of upd_same, a2, _, rfl, by omega, by omega, fun D nD => ?_⟩
      have D5 := D3.same (same_upd (o := HO.lst [V.int 2, V.int 4, V.int 8]) n5)
      have fr5 : Fr d l H (upd H3 p5 (.lst [.int 2, .int 4, .int 8])) := fr3.trans (Fr.new n5)
      revert nD D5 fr5
      generalize upd H3 p5 (.lst [.int 2, .int 4, .int 8]) = H5
      intro nD D5 fr5
      have nDd : D ≠ d ∧ D ≠ l := by
        obtain ⟨ne, cs, z, y, hd, hl, r⟩ := D5
        exact ⟨(ne_of_none hd nD).symm, (ne_of_none hl nD).symm⟩
      refine lc_range (lo := 0) (n := ((N : Nat) : Int).toNat) (fun i H' => DeckB H' d l (n + 1 + i) ∧ Fr d l H H' ∧ ∃ bs : List Bool, bs.length = i ∧ H' D = some (.lst (bs.map fun b => V.str (sg b)))) ⟨(D5.same (same_upd nD)).mono (by omega), fr5.trans (Fr.new nD), [], rfl, upd_same⟩ ?_ ?_
      · rintro i H' hi ⟨Di, fri, bs, lbs, hD⟩
        have hi' : i < N := by simpa using hi
        refine ⟨rfl, .ref d, rfl, d, l, 2, _, rfl, Di, by omega, by decide, by decide, fun H6 v D6 fr6 v0 v1 => ?_⟩
        have hD6 := fr6 _ _ nDd.1 nDd.2 hD
        refine ⟨v, rfl, ?_, _, hD6, ?_, ?_, ?_, bs ++ [decide (v = 1)], by rw [List.length_append, lbs]; rfl, ?_⟩
        · have : v = 0 ∨ v = 1 := by omega
          rcases this with rfl | rfl <;> decide
        · rw [List.length_map, lbs]
          exact Nat.lt_of_lt_of_le (show i < 64 by omega) (by decide)
        · obtain ⟨ne, cs, z, y, hd, hl, r⟩ := D6
          refine ⟨ne, cs, z, y, by rw [upd_ne nDd.1.symm]; exact hd, by rw [upd_ne nDd.2.symm]; exact hl, r.1, r.2.1, ?_⟩
          have := r.2.2
          push_cast
          omega
        · intro b o h1 h2 e
          have hb : b ≠ D := ne_of_none (fr5.inv h1 h2 e) nD
          rw [upd_ne hb]
          exact fr6 _ _ h1 h2 (fri _ _ h1 h2 e)
        · rw [upd_same, List.map_append]
          have : v = 0 ∨ v = 1 := by omega
          rcases this with rfl | rfl
          · rw [sg0]; rfl
          · rw [sg1]; rfl
      · rintro H' ⟨Di, fri, bs, lbs, hD⟩
        have lb : bs.length = 2 ^ k := by rw [lbs, hN]; simp
        refine ⟨Str.ofString "", D, bs.map sg, rfl, rfl, .inl (SqL.of (by rw [hD, List.map_map]; rfl)), ?_, ?_⟩
        · rw [List.map_map, List.length_map]
          have : (bs.map ((fun x => x.length) ∘ sg)).sum = bs.length := by
            clear hD lbs lb
            induction bs with
            | nil => rfl
            | cons b r ih =>
              rw [List.map_cons, List.sum_cons, ih, List.length_cons]
              cases b <;> (show 1 + _ = _; omega)
          rw [this]
          show bs.length + bs.length * 0 ≤ _
          omega
        · rw [join_sg]
          exact q H' bs (Di.mono (by
            have : (((N : Nat) : Int).toNat : Int) ≤ 8 := by omega
            omega)) fri lb
theorem Ts.fr {H H' : Hp} {d l : Addr} {n : Int} (D : DeckB H d l n) (f : Fr d l H H') : Ts H H' := fun b xs e => by
  obtain ⟨ne, cs, z, y, hd, hl, r⟩ := D
  exact f b _ (ne_of e hd (by intro z; cases z)) (ne_of e hl (by intro z; cases z)) e
theorem DeckB.upd {H : Hp} {d l p : Addr} {n : Int} {o : HO} (D : DeckB H d l n) (h1 : p ≠ d) (h2 : p ≠ l) : DeckB (upd H p o) d l n := by
  obtain ⟨ne, cs, z, y, hd, hl, r⟩ := D
  exact ⟨ne, cs, z, y, by rw [upd_ne h1.symm]; exact hd, by rw [upd_ne h2.symm]; exact hl, r⟩
theorem DeckB.off {H : Hp} {d l p : Addr} {n : Int} (D : DeckB H d l n) (h : H p = none) : p ≠ d ∧ p ≠ l := by
  obtain ⟨ne, cs, z, y, hd, hl, r⟩ := D
  exact ⟨(ne_of_none hd h).symm, (ne_of_none hl h).symm⟩
theorem Fr.upd {d l p : Addr} {H H' : Hp} {o : HO} (f : Fr d l H H') (h : H p = none) : Fr d l H (upd H' p o) := fun b u h1 h2 e => by
  rw [upd_ne (ne_of_none e h)]
  exact f b u h1 h2 e
theorem NetOk.snoc {n : Nat} {gs : List Gt} {g : Gt} (h : NetOk n gs) (hg : GtOk (n + gs.length) g) : NetOk n (gs ++ [g]) := fun k g' e => by
  by_cases hk : k < gs.length
  · rw [List.getElem?_append_left hk] at e
    exact h k g' e
  · rw [List.getElem?_append_right (by omega)] at e
    cases hz : k - gs.length with
    | zero =>
      rw [hz] at e
      cases Option.some.inj e
      rw [show k = gs.length by omega]
      exact hg
    | succ j => rw [hz] at e; cases e
def sp_shared (K : PySem.W.Frag) : Sp := fun vs H Q _ => ∃ (d l : Addr) (n : Int) (many count : Nat), vs = [.ref d, .int many, .int count] ∧ DeckB H d l n ∧ n < 100000 ∧ 1 ≤ many ∧ many ≤ 6 ∧ count ≤ 40 ∧
  ∀ r H' gs, DeckB H' d l (n + 20 * count) → Fr d l H H' → Tk H' (.ref r) (netD many gs) → gs.length = count → NetOk many gs → Q (.ref r) H'
theorem ok_shared (T : Tx K mg) : FnOk P w K mg base CX0 3 T.f_shared T.fd_shared ["_law_deck_here", "_law_many", "_law_count"] (sp_shared K) := by
  refine T.F_shared.ok sc_shared (fun vs H Q E h => ?_) (fun cdv A outer s H vs Q E hr h => ?_)
  · obtain ⟨d, l, n, many, count, rfl, _⟩ := h
    rfl
  · obtain ⟨d, l, n, many, count, rfl, D, hn, m1, m6, c40, q⟩ := h
    refine ⟨_, (pss_cons (ps_set (i := 3) sc_shared.nd rfl (by first | exact .inl rfl | exact .inr rfl) (pe_lst pa_nil)) (pss_cons (ps_for PassesOwn.never rfl (pi_range1 (by rfl) T.m_range (pa_cons (pv 2) pa_nil)) (pg_name (i := 4) sc_shared.nd rfl (by first | exact .inl rfl | exact .inr rfl)) (pss_cons (ps_set (i := 5) sc_shared.nd rfl (by first | exact .inl rfl | exact .inr rfl) (pe_lst pa_nil)) (pss_cons (ps_for PassesOwn.never rfl (pi_range1 (by rfl) T.m_range (pa_cons (pe_ix ix_list (pe_lst (pa_cons pe_int (pa_cons pe_int (pa_cons pe_int (pa_cons pe_int (pa_cons pe_int (pa_cons pe_int pa_nil))))))) (pe_call (ok_draw T) (hr.mono (by decide)) (by rfl) T.g_draw T.F_draw.kp T.b_draw .nil pass0 (pa_cons (pv 0) (pa_cons pe_int pa_nil))) (fun _ _ => rfl)) pa_nil)) (pg_name (i := 6) sc_shared.nd rfl (by first | exact .inl rfl | exact .inr rfl)) (pss_cons (ps_set (i := 7) sc_shared.nd rfl (by first | exact .inl rfl | exact .inr rfl) (pe_call (ok_draw T) (hr.mono (by decide)) (by rfl) T.g_draw T.F_draw.kp T.b_draw .nil pass0 (pa_cons (pv 0) (pa_cons pe_int pa_nil)))) (pss_one (ps_expr (pe_bm PySem.F.plainAttrs_list PySem.F.slot_list_append PySem.F.type_list_append mt_append (pv 5) (pa_cons (pe_ix ix_list (pe_lst (pa_cons (pe_call (ok_draw T) (hr.mono (by decide)) (by rfl) T.g_draw T.F_draw.kp T.b_draw .nil pass0 (pa_cons (pv 0) (pa_cons (pe_op op_add (pv 1) (pv 4)) pa_nil))) (pa_cons (pe_callB (call_max2 rfl) (by rfl) T.m_max (by decide +kernel) (pa_cons pe_int (pa_cons (pe_op op_sub (pe_op op_sub (pe_op op_add (pv 1) (pv 4)) pe_int) (pe_call (ok_draw T) (hr.mono (by decide)) (by rfl) T.g_draw T.F_draw.kp T.b_draw .nil pass0 (pa_cons (pv 0) (pa_cons pe_int pa_nil)))) pa_nil))) pa_nil))) (pe_callTy call_int1 (by rfl) T.m_int (by decide +kernel) (pa_cons (pe_cmpR op_gt (pv 7) pe_int (nomark _)) pa_nil)) (fun _ _ => rfl)) pa_nil)))))) (pss_one (ps_expr (pe_bm PySem.F.plainAttrs_list PySem.F.slot_list_append PySem.F.type_list_append mt_append (pv 3) (pa_cons (pe_tup (pa_cons (pe_call (ok_table T) (hr.mono (by decide)) (by rfl) T.g_table T.F_table.kp T.b_table .nil pass0 (pa_cons (pv 0) (pa_cons (pe_callB call_len_seq (by rfl) T.m_len PySem.boot_len (pa_cons (pv 5) pa_nil)) pa_nil))) (pa_cons (pe_callTy call_tuple_of (by rfl) T.m_tuple (by decide +kernel) (pa_cons (pv 5) pa_nil)) pa_nil))) pa_nil))))))) (pss_one (ps_ret (pe_tup (pa_cons (pv 1) (pa_cons (pe_callTy call_tuple_of (by rfl) T.m_tuple (by decide +kernel) (pa_cons (pv 3) pa_nil)) pa_nil))))))), ?_⟩
    refine ⟨Nat.zero_le _, fun G nG => ?_⟩
    have oG := D.off nG
    refine ⟨.int count, rfl, count, rfl, by omega, by omega, ?_⟩
    refine for_range (lo := 0) (n := (count : Int).toNat) (fun i σ H' => ∃ y4 y5 y6 y7, σ = [some (.ref d), some (.int many), some (.int count), some (.ref G), y4, y5, y6, y7] ∧ DeckB H' d l (n + 20 * i) ∧ Fr d l H H' ∧ ∃ acc gs, H' G = some (.lst acc) ∧ TkAll H' acc (gs.map gD) ∧ gs.length = i ∧ NetOk many gs)
      ⟨_, _, _, _, rfl, (D.same (same_upd nG)).mono (by omega), Fr.new nG, [], [], upd_same, .nil, rfl, fun k g e => by simp at e⟩ ?_ ?_
    · rintro i σ H1 hi ⟨y4, y5, y6, y7, rfl, D1, fr1, acc, gs, hG, tg, lg, ok⟩
      have hi' : i < count := by simpa using hi
      refine ⟨Nat.zero_le _, fun I nI => ?_⟩
      have oI := D1.off nI
      have D2 := D1.same (same_upd (o := HO.lst []) nI)
      have hG2 := same_upd (o := HO.lst []) nI _ _ hG
      have tg2 := tg.ts (Ts.new (o := HO.lst []) nI) (noL_gates gs)
      have fr2 : Fr d l H (upd H1 I (.lst [])) := fr1.trans (Fr.new nI)
      have hI2 : (upd H1 I (.lst [])) I = some (.lst []) := upd_same
      have nGI : G ≠ I := ne_of_none hG nI
      have nI0 : H I = none := by
        cases z : H I with
        | none => rfl
        | some o => rw [fr1 _ _ oI.1 oI.2 z] at nI; cases nI
      show tSeq _ _ _ _ (upd H1 I (.lst []))
      revert D2 hG2 tg2 fr2 hI2
      generalize upd H1 I (.lst []) = H2
      intro D2 hG2 tg2 fr2 hI2
      refine ⟨by decide, fun p6 n6 => ?_⟩
      have o6 := D2.off n6
      have D2' := D2.same (same_upd (o := HO.lst [V.int 2, V.int 2, V.int 1, V.int 3, V.int 2, V.int 3]) n6)
      refine ⟨.ref d, rfl, d, l, 6, _, rfl, D2', by omega, by decide, by decide, fun H3 v D3 fr3 v0 v1 => ?_⟩
      have h63 := fr3 _ _ o6.1 o6.2 upd_same
      have s26 := same_upd (o := HO.lst [V.int 2, V.int 2, V.int 1, V.int 3, V.int 2, V.int 3]) n6
      have hG3 := fr3 _ _ oG.1 oG.2 (s26 _ _ hG2)
      have hI3 := fr3 _ _ oI.1 oI.2 (s26 _ _ hI2)
      have tg3 := tg2.ts ((Ts.same s26).trans (Ts.fr D2' fr3)) (noL_gates gs)
      have frA : Fr d l H H3 := (fr2.trans (Fr.of s26)).trans fr3
      obtain ⟨c, hc, c1, c3⟩ : ∃ c : Nat, atI [V.int 2, V.int 2, V.int 1, V.int 3, V.int 2, V.int 3] v = some (.int (c : Int)) ∧ 1 ≤ c ∧ c ≤ 3 := by
        have : v = 0 ∨ v = 1 ∨ v = 2 ∨ v = 3 ∨ v = 4 ∨ v = 5 := by omega
        rcases this with rfl | rfl | rfl | rfl | rfl | rfl
        · exact ⟨2, rfl, by decide, by decide⟩
        · exact ⟨2, rfl, by decide, by decide⟩
        · exact ⟨1, rfl, by decide, by decide⟩
        · exact ⟨3, rfl, by decide, by decide⟩
        · exact ⟨2, rfl, by decide, by decide⟩
        · exact ⟨3, rfl, by decide, by decide⟩
      refine ⟨p6, _, v, _, rfl, rfl, SqL.of h63, hc, c, rfl, by omega, by omega, ?_⟩
      refine for_range (lo := 0) (n := (c : Int).toNat) (fun j σ H' => ∃ y6 y7, σ = [some (.ref d), some (.int many), some (.int count), some (.ref G), some (.int (0 + (i : Int))), some (.ref I), y6, y7] ∧ DeckB H' d l (n + 20 * i + 1 + 3 * j) ∧ Fr d l H H' ∧ H' G = some (.lst acc) ∧ TkAll H' acc (gs.map gD) ∧
          ∃ ws : List Nat, H' I = some (.lst ((ws.map Int.ofNat).map V.int)) ∧ ws.length = j ∧ ∀ w ∈ ws, w < many + i)
        ⟨_, _, rfl, D3.mono (by omega), frA, hG3, tg3, [], hI3, rfl, fun w hw => by cases hw⟩ ?_ ?_
      · rintro j σ H4 hj ⟨y6, y7, rfl, D4, fr4, hG4, tg4, ws, hI4, lw, okw⟩
        have hj' : j < c := by simpa using hj
        refine ⟨.ref d, rfl, d, l, 4, _, rfl, D4, by omega, by decide, by decide, fun H5 way D5 fr5 w0 w1 => ?_⟩
        have hI5 := fr5 _ _ oI.1 oI.2 hI4
        refine ⟨.ref I, rfl, .inl ⟨rfl, _, SqL.of hI5⟩, .ref d, rfl, .int many, rfl, .int (0 + (i : Int)), rfl, _, _, rfl, rfl, d, l, _, _, rfl, D5, by omega, by omega, by omega, fun H6 a D6 fr6 a0 a1 => ?_⟩
        refine ⟨.int many, rfl, .int (0 + (i : Int)), rfl, _, _, rfl, rfl, _, _, rfl, rfl, .ref d, rfl, d, l, 3, _, rfl, D6, by omega, by decide, by decide, fun H7 b D7 fr7 b0 b1 => ?_⟩
        refine ⟨_, _, rfl, rfl, 0, _, rfl, sl2, fun p7 n7 => ?_⟩
        have sel : ∃ w : Nat, atI [V.int a, V.int (if (many : Int) + (0 + (i : Int)) - 1 - b > 0 then (many : Int) + (0 + (i : Int)) - 1 - b else 0)] (if decide (1 < way) = true then 1 else 0) = some (.int (Int.ofNat w)) ∧ w < many + i := by
          by_cases hw : 1 < way
          · rw [decide_eq_true hw]
            by_cases hm : (many : Int) + (0 + (i : Int)) - 1 - b > 0
            · refine ⟨((many : Int) + (0 + (i : Int)) - 1 - b).toNat, ?_, by omega⟩
              rw [if_pos hm]
              show some (V.int ((many : Int) + (0 + (i : Int)) - 1 - b)) = _
              rw [show Int.ofNat ((many : Int) + (0 + (i : Int)) - 1 - b).toNat = (many : Int) + (0 + (i : Int)) - 1 - b from Int.toNat_of_nonneg (by omega)]
            · refine ⟨0, ?_, by omega⟩
              rw [if_neg hm]
              rfl
          · rw [decide_eq_false hw]
            refine ⟨a.toNat, ?_, by omega⟩
            show some (V.int a) = _
            rw [show Int.ofNat a.toNat = a from Int.toNat_of_nonneg a0]
        obtain ⟨x, hx, x1⟩ := sel
        have o7 := D7.off n7
        have s7 := same_upd (o := HO.lst [V.int a, V.int (if (many : Int) + (0 + (i : Int)) - 1 - b > 0 then (many : Int) + (0 + (i : Int)) - 1 - b else 0)]) n7
        have hI7 := s7 _ _ (fr7 _ _ oI.1 oI.2 (fr6 _ _ oI.1 oI.2 hI5))
        have hG7 := s7 _ _ (fr7 _ _ oG.1 oG.2 (fr6 _ _ oG.1 oG.2 (fr5 _ _ oG.1 oG.2 hG4)))
        refine ⟨.int way, rfl, _, _, rfl, rfl, .inr ⟨_, rfl, p7, _, _, _, rfl, rfl, SqL.of upd_same, hx, ?_⟩⟩
        refine ⟨I, _, _, rfl, rfl, hI7, ?_, ?_⟩
        · rw [List.length_map, List.length_map, lw]
          exact Nat.lt_of_lt_of_le (show j < 64 by omega) (by decide)
        · refine ⟨_, _, rfl, ((D7.same s7).upd oI.1 oI.2).mono (by push_cast; omega), ?_, ?_, ?_, ws ++ [x], ?_, by rw [List.length_append, lw]; rfl, ?_⟩
          · exact Fr.upd ((((fr4.trans fr5).trans fr6).trans fr7).trans (Fr.of s7)) nI0
          · rw [upd_ne nGI]; exact hG7
          · exact tg4.ts ((((Ts.fr D4 fr5).trans (Ts.fr D5 fr6)).trans (Ts.fr D6 fr7)).trans ((Ts.same s7).trans (Ts.set hI7))) (noL_gates gs)
          · rw [upd_same, List.map_append, List.map_append]
            rfl
          · intro w hw
            rcases List.mem_append.mp hw with z | z
            · exact okw w z
            · rw [List.mem_singleton.mp z]
              exact x1
      · rintro σ H4 ⟨y6, y7, rfl, D4, fr4, hG4, tg4, ws, hI4, lw, okw⟩
        have lw' : ws.length = c := by rw [lw]; simp
        refine ⟨.ref G, rfl, .inl ⟨rfl, _, SqL.of hG4⟩, .ref d, rfl, .ref I, rfl, I, _, rfl, .inl (SqL.of hI4), ?_⟩
        rw [List.length_map, List.length_map, lw']
        refine ⟨d, l, _, c, rfl, D4, by have : (((c : Int).toNat : Nat) : Int) = c := by simp
                                        omega, c1, c3, fun H5 bs D5 fr5 lb => ?_⟩
        have hI5 := fr5 _ _ oI.1 oI.2 hI4
        have hG5 := fr5 _ _ oG.1 oG.2 hG4
        have tg5 := tg4.ts (Ts.fr D4 fr5) (noL_gates gs)
        refine ⟨.ref I, rfl, I, _, rfl, .inl ⟨SqL.of hI5, fun ti nti => ⟨sl2, fun tt ntt => ?_⟩⟩⟩
        have s5 := (same_upd (o := HO.tup ((ws.map Int.ofNat).map V.int)) nti).trans (same_upd (o := HO.tup [V.str (tabOf bs), .ref ti]) ntt)
        have hG6 := s5 _ _ hG5
        refine ⟨G, _, _, rfl, rfl, hG6, ?_, ?_⟩
        · have := tg5.length
          rw [List.length_map, lg] at this
          exact Nat.lt_of_lt_of_le (show acc.length < 64 by omega) (by decide)
        · have hcc : (((c : Int).toNat : Nat) : Int) = c := by simp
          refine ⟨_, _, _, _, rfl, ((D5.same s5).upd oG.1 oG.2).mono (by push_cast; omega), Fr.upd ((fr4.trans fr5).trans (Fr.of s5)) nG, _, gs ++ [(bs, ws)], upd_same, ?_, by rw [List.length_append, lg]; rfl, ok.snoc ⟨?_, ?_, ?_, ?_⟩⟩
          · rw [List.map_append]
            have e1 : (upd (upd H5 ti (.tup ((ws.map Int.ofNat).map V.int))) tt (.tup [.str (tabOf bs), .ref ti])) ti = some (.tup ((ws.map Int.ofNat).map V.int)) := same_upd ntt _ _ upd_same
            have tgate : Tk (upd (upd H5 ti (.tup ((ws.map Int.ofNat).map V.int))) tt (.tup [.str (tabOf bs), .ref ti])) (.ref tt) (gD (bs, ws)) := .tup upd_same (.cons (.str _) (.cons (.tup e1 (TkAll.ints _)) .nil))
            refine (tg5.ts ((Ts.same s5).trans (Ts.set hG6)) (noL_gates gs)).append (.cons (tgate.ts (Ts.set hG6) (noL_gate _)) .nil)
          · show bs.length = 2 ^ ws.length
            rw [lb, lw']
          · show 1 ≤ ws.length
            omega
          · show ws.length ≤ 3
            omega
          · rw [lg]
            exact okw
    · rintro σ H1 ⟨y4, y5, y6, y7, rfl, D1, fr1, acc, gs, hG, tg, lg, ok⟩
      have lg' : gs.length = count := by rw [lg]; simp
      refine ⟨.int many, rfl, .ref G, rfl, G, _, rfl, .inl ⟨SqL.of hG, fun tq ntq => ⟨sl2, fun r nr => ?_⟩⟩⟩
      have s2 := (same_upd (o := HO.tup acc) ntq).trans (same_upd (o := HO.tup [V.int many, .ref tq]) nr)
      refine q r _ gs ((D1.same s2).mono (by
        have : (((count : Int).toNat : Nat) : Int) = count := by simp
        omega)) (fr1.trans (Fr.of s2)) ?_ lg' ok
      exact .tup upd_same (.cons (.int _) (.cons (.tup (same_upd nr _ _ upd_same) (tg.same s2)) .nil))

end
end Gk

set_option Elab.async false
set_option linter.all false
set_option maxRecDepth 100000
set_option maxHeartbeats 1000000
namespace Gk
open PySem PySem.Spec PyProof.Rows L2
section
variable {P : Program} {w : World} {K : PySem.W.Frag} {mg : Str → Option Value} {base : Heap}
theorem cutV_to {xs : List V} {j : Nat} (h : j ≤ xs.length) : cutV xs none (some (j : Int)) = xs.take j := by
  unfold cutV
  rw [HT.sIx_none, HT.sIx_nat, List.drop_zero, Nat.min_eq_left h]
  rfl
theorem cutV_from {xs : List V} {j : Nat} (h : j ≤ xs.length) : cutV xs (some (j : Int)) none = xs.drop j := by
  unfold cutV
  rw [HT.sIx_none, HT.sIx_nat, Nat.min_eq_left h]
  exact List.take_of_length_le (by rw [List.length_drop]; exact Nat.le_refl _)
def RowL (H : Hp) (p : Addr) (m : Nat) (r : List Int) : Prop := H p = some (.lst (r.map V.int)) ∧ r.length = m ∧ Row01 r
theorem Row01.snoc {r : List Int} {v : Int} (h : Row01 r) (hv : v = 0 ∨ v = 1) : Row01 (r ++ [v]) := fun x hx => by
  rcases List.mem_append.mp hx with z | z
  · exact h x z
  · rw [List.mem_singleton.mp z]; exact hv
def sp_change (K : PySem.W.Frag) : Sp := fun vs H Q _ => ∃ (d l : Addr) (n : Int) (many : Nat), vs = [.ref d, .int many] ∧ DeckB H d l n ∧ n < 100000 ∧ 1 ≤ many ∧ many ≤ 6 ∧
  ∀ r H' a b, DeckB H' d l (n + 20) → Fr d l H H' → Tk H' (.ref r) (chD a b) → a.length = many → b.length = many → Row01 a → Row01 b → Q (.ref r) H'
theorem ok_change (T : Tx K mg) : FnOk P w K mg base CX0 2 T.f_change T.fd_change ["_law_deck_here", "_law_many"] (sp_change K) := by
  refine T.F_change.ok sc_change (fun vs H Q E h => ?_) (fun cdv A outer s H vs Q E hr h => ?_)
  · obtain ⟨d, l, n, many, rfl, _⟩ := h
    rfl
  · obtain ⟨d, l, n, many, rfl, D, hn, m1, m6, q⟩ := h
    refine ⟨_, (pss_cons (ps_set (i := 2) sc_change.nd rfl (by first | exact .inl rfl | exact .inr rfl) (pe_call (ok_draw T) (hr.mono (by decide)) (by rfl) T.g_draw T.F_draw.kp T.b_draw .nil pass0 (pa_cons (pv 0) (pa_cons pe_int pa_nil)))) (pss_cons (ps_setLc (i := 3) (own := [("_law_k", 6)]) (by rfl) sc_change.nd rfl rfl (sw_true rfl rfl rfl (by decide +kernel)) (pi_range1 (by rfl) T.m_range (pa_cons (pv 1) pa_nil)) (blkOk_by (own := [("_law_k", 6)]) (N := ["_law_deck_here", "_law_many", "_law_way", "_law_one", "_law_other", "_law_at", "_law_k", "_law_worth"]) (sc := defScope s_change) (by decide +kernel)) (fun _ _ _ _ _ => (pg_name (i := 6) sc_change.nd rfl (by first | exact .inl rfl | exact .inr rfl))) (fun _ _ _ _ _ => pts_nil) (fun _ _ _ _ _ => (pe_call (ok_draw T) (hr.mono (by decide)) (by rfl) T.g_draw T.F_draw.kp T.b_draw .nil pass0 (pa_cons (pv 0) (pa_cons pe_int pa_nil))))) (pss_cons (ps_setLc (i := 4) (own := [("_law_worth", 7)]) (by rfl) sc_change.nd rfl rfl (sw_true rfl rfl rfl (by decide +kernel)) (pi_list (pv 3)) (blkOk_by (own := [("_law_worth", 7)]) (N := ["_law_deck_here", "_law_many", "_law_way", "_law_one", "_law_other", "_law_at", "_law_k", "_law_worth"]) (sc := defScope s_change) (by decide +kernel)) (fun _ _ _ _ _ => (pg_name (i := 7) sc_change.nd rfl (by first | exact .inl rfl | exact .inr rfl))) (fun _ _ _ _ _ => pts_nil) (fun _ _ _ _ _ => (pe_op op_sub pe_int (pv 7)))) (C8.pss_cut (ps_if (pt_cmpR op_eq (pv 2) pe_int (nomark _)) (pss_one (ps_set (i := 4) sc_change.nd rfl (by first | exact .inl rfl | exact .inr rfl) (pe_callTy call_list_of (by rfl) T.m_list (by decide +kernel) (pa_cons (pv 3) pa_nil)))) pss_nil) (C8.pss_cut (ps_if (pt_cut (pw_or (pt_cmpR op_eq (pv 2) pe_int (nomark _)) (pw_or1 (pt_cmpR op_eq (pv 2) pe_int (nomark _)))).pt) (pss_cons (ps_set (i := 5) sc_change.nd rfl (by first | exact .inl rfl | exact .inr rfl) (pe_call (ok_draw T) (hr.mono (by decide)) (by rfl) T.g_draw T.F_draw.kp T.b_draw .nil pass0 (pa_cons (pv 0) (pa_cons (pv 1) pa_nil)))) (pss_one (ps_set (i := 4) sc_change.nd rfl (by first | exact .inl rfl | exact .inr rfl) (pe_op op_cat (pe_op op_cat (pe_slice sl_list (pv 3) po_none (po_some (pv 5))) (pe_lst (pa_cons (pe_op op_sub pe_int (pe_ix ix_list (pv 3) (pv 5) (fun _ _ => rfl))) pa_nil))) (pe_slice sl_list (pv 3) (po_some (pe_op op_add (pv 5) pe_int)) po_none))))) pss_nil) (C8.pss_cut (ps_if (pt_cmpR op_gt (pv 2) pe_int (nomark _)) (pss_one (ps_setLc (i := 4) (own := [("_law_k", 6)]) (by rfl) sc_change.nd rfl rfl (sw_true rfl rfl rfl (by decide +kernel)) (pi_range1 (by rfl) T.m_range (pa_cons (pv 1) pa_nil)) (blkOk_by (own := [("_law_k", 6)]) (N := ["_law_deck_here", "_law_many", "_law_way", "_law_one", "_law_other", "_law_at", "_law_k", "_law_worth"]) (sc := defScope s_change) (by decide +kernel)) (fun _ _ _ _ _ => (pg_name (i := 6) sc_change.nd rfl (by first | exact .inl rfl | exact .inr rfl))) (fun _ _ _ _ _ => pts_nil) (fun _ _ _ _ _ => (pe_call (ok_draw T) (hr.mono (by decide)) (by rfl) T.g_draw T.F_draw.kp T.b_draw .nil pass0 (pa_cons (pv 0) (pa_cons pe_int pa_nil)))))) pss_nil) (pss_one (ps_ret (pe_tup (pa_cons (pe_callTy call_tuple_of (by rfl) T.m_tuple (by decide +kernel) (pa_cons (pv 3) pa_nil)) (pa_cons (pe_callTy call_tuple_of (by rfl) T.m_tuple (by decide +kernel) (pa_cons (pv 4) pa_nil)) pa_nil))))))))))), ?_⟩
    have hmm : (((many : Int).toNat : Nat) : Int) = many := by simp
    refine ⟨.ref d, rfl, d, l, 8, n, rfl, D, by omega, by decide, by decide, fun H1 way D1 fr1 w0 w1 => ?_⟩
    refine ⟨.int many, rfl, _, rfl, by omega, by omega, fun D2 n2 => ?_⟩
    have o2 := D1.off n2
    have n20 : H D2 = none := by
      cases z : H D2 with
      | none => rfl
      | some o => rw [fr1 _ _ o2.1 o2.2 z] at n2; cases n2
    refine lc_range (lo := 0) (n := (many : Int).toNat) (fun i H' => DeckB H' d l (n + 1 + i) ∧ Fr d l H H' ∧ ∃ r, RowL H' D2 i r) ⟨(D1.same (same_upd n2)).mono (by omega), fr1.trans (Fr.new n2), [], upd_same, rfl, fun x hx => by cases hx⟩ ?_ ?_
    · rintro i H' hi ⟨Di, fri, r, hD, lr, okr⟩
      refine ⟨rfl, .ref d, rfl, d, l, 2, _, rfl, Di, by omega, by decide, by decide, fun H6 v D6 fr6 v0 v1 => ?_⟩
      have hD6 := fr6 _ _ o2.1 o2.2 hD
      refine ⟨_, hD6, ?_, (D6.upd o2.1 o2.2).mono (by push_cast; omega), Fr.upd (fri.trans fr6) n20, r ++ [v], ?_, by rw [List.length_append, lr]; rfl, okr.snoc (by omega)⟩
      · rw [List.length_map, lr]
        exact Nat.lt_of_lt_of_le (show i < 64 by omega) (by decide)
      · rw [upd_same, List.map_append]
        rfl
    · rintro H2 ⟨D3, fr2, one, h1, l1, ok1⟩
      have l1' : one.length = many := by rw [l1]; simp
      refine ⟨.ref D2, rfl, D2, rfl, ⟨_, SqL.of h1⟩, fun O nO => ?_⟩
      have oO := D3.off nO
      have nO0 : H O = none := by
        cases z : H O with
        | none => rfl
        | some o => rw [fr2 _ _ oO.1 oO.2 z] at nO; cases nO
      have n2O : D2 ≠ O := ne_of_none h1 nO
      refine lc_list (K := K) (a := D2) (xs := one.map V.int) (fun i H' => DeckB H' d l (n + 1 + many) ∧ Fr d l H H' ∧ H' D2 = some (.lst (one.map V.int)) ∧ ∃ r, RowL H' O i r) ⟨(D3.same (same_upd nO)).mono (by omega), fr2.trans (Fr.new nO), same_upd nO _ _ h1, [], upd_same, rfl, fun x hx => by cases hx⟩ (fun i H' _ hP => SqL.of hP.2.2.1) ?_ ?_
      · rintro i x H' hx ⟨Di, fri, h1i, r, hO, lr, okr⟩
        rw [List.getElem?_map] at hx
        cases hj : one[i]? with
        | none => rw [hj] at hx; cases hx
        | some v =>
          rw [hj] at hx
          cases Option.some.inj hx
          have hv := ok1 v (List.mem_of_getElem? hj)
          have hi := (List.getElem?_eq_some_iff.mp hj).1
          refine ⟨rfl, .int v, rfl, _, _, rfl, rfl, _, hO, ?_, Di.upd oO.1 oO.2, Fr.upd fri nO0, by rw [upd_ne n2O]; exact h1i, r ++ [1 - v], ?_, by rw [List.length_append, lr]; rfl, okr.snoc (by omega)⟩
          · rw [List.length_map, lr]
            exact Nat.lt_of_lt_of_le (show i < 64 by omega) (by decide)
          · rw [upd_same, List.map_append]
            rfl
      · rintro H3 ⟨D4, fr3, h1', r, hO⟩
        rw [List.length_map, l1'] at hO
        -- if way == 0
        refine ⟨fun σ H' => ∃ O' r, σ = [some (.ref d), some (.int many), some (.int way), some (.ref D2), some (.ref O'), none, none, none] ∧ DeckB H' d l (n + 1 + many) ∧ Fr d l H H' ∧ H' D2 = some (.lst (one.map V.int)) ∧ RowL H' O' many r, ?_, ?_⟩
        · refine ⟨.int way, rfl, rfl, _, rfl, ite2 (fun _ => ?_) (fun _ => ?_)⟩
          · refine ⟨.ref D2, rfl, D2, _, rfl, .inl (SqL.of h1'), fun p np => ?_⟩
            exact ⟨p, one, rfl, D4.same (same_upd np), fr3.trans (Fr.new np), same_upd np _ _ h1', upd_same, l1', ok1⟩
          · exact ⟨O, r, rfl, D4, fr3, h1', hO⟩
        rintro σ H4 ⟨O', r', rfl, D5, fr4, h14, hO4⟩
        -- if way == 1 or way == 2
        refine ⟨fun σ H' => ∃ O' r y5, σ = [some (.ref d), some (.int many), some (.int way), some (.ref D2), some (.ref O'), y5, none, none] ∧ DeckB H' d l (n + 2 + many) ∧ Fr d l H H' ∧ H' D2 = some (.lst (one.map V.int)) ∧ RowL H' O' many r, ?_, ?_⟩
        · refine ⟨fun _ H' => H' = H4, ?_, ?_⟩
          · refine ⟨.int way, rfl, rfl, _, rfl, ite2 (fun _ => rfl) (fun _ => ⟨.int way, rfl, rfl, _, rfl, rfl⟩)⟩
          · rintro b _ rfl
            cases b with
            | false => exact ⟨O', r', _, rfl, D5.mono (by omega), fr4, h14, hO4⟩
            | true =>
              refine ⟨.ref d, rfl, .int many, rfl, d, l, _, _, rfl, D5, by omega, by omega, by omega, fun H5 at_ D6 fr5 a0 a1 => ?_⟩
              obtain ⟨j, rfl⟩ := Int.eq_ofNat_of_zero_le a0
              have hj : j < one.length := by omega
              have h15 := fr5 _ _ o2.1 o2.2 h14
              refine ⟨.ref D2, rfl, .int (j : Int), rfl, (j : Int), rfl, D2, _, rfl, SqL.of h15, fun p1 n1 => ?_⟩
              rw [cutV_to (by rw [List.length_map]; omega)]
              have s1 := same_upd (o := HO.lst ((one.map V.int).take j)) n1
              have hat : (one.map V.int)[j]? = some (.int one[j]) := by rw [List.getElem?_map, List.getElem?_eq_getElem hj]; rfl
              refine ⟨.ref D2, rfl, .int (j : Int), rfl, D2, _, (j : Int), _, rfl, rfl, SqL.of (s1 _ _ h15), atI_nat hat, _, _, rfl, rfl, sl1, fun p2 n2' => ?_⟩
              have s2 := same_upd (o := HO.lst [V.int (1 - one[j])]) n2'
              have e1 := s2 _ _ (show (upd H5 p1 (.lst ((one.map V.int).take j))) p1 = some (.lst ((one.map V.int).take j)) from upd_same)
              refine ⟨p1, p2, _, _, rfl, rfl, e1, upd_same, ?_, fun p3 n3 => ?_⟩
              · rw [List.length_take, List.length_map]
                exact Nat.le_trans (show min j one.length + 1 ≤ 64 by omega) (by decide)
              have s3 := same_upd (o := HO.lst ((one.map V.int).take j ++ [V.int (1 - one[j])])) n3
              refine ⟨.ref D2, rfl, .int (j : Int), rfl, _, _, rfl, rfl, _, rfl, D2, _, rfl, SqL.of (s3 _ _ (s2 _ _ (s1 _ _ h15))), fun p4 n4 => ?_⟩
              rw [show ((j : Int) + 1) = ((j + 1 : Nat) : Int) by push_cast; rfl, cutV_from (by rw [List.length_map]; omega)]
              have s4 := same_upd (o := HO.lst ((one.map V.int).drop (j + 1))) n4
              have e3 := s4 _ _ (show (upd (upd (upd H5 p1 (.lst ((one.map V.int).take j))) p2 (.lst [V.int (1 - one[j])])) p3 (.lst ((one.map V.int).take j ++ [V.int (1 - one[j])]))) p3 = some (.lst ((one.map V.int).take j ++ [V.int (1 - one[j])])) from upd_same)
              refine ⟨p3, p4, _, _, rfl, rfl, e3, upd_same, ?_, fun p5 n5 => ?_⟩
              · rw [List.length_append, List.length_take, List.length_drop, List.length_map]
                exact Nat.le_trans (show min j one.length + 1 + (one.length - (j + 1)) ≤ 64 by omega) (by decide)
              have s5 := same_upd (o := HO.lst ((one.map V.int).take j ++ [V.int (1 - one[j])] ++ (one.map V.int).drop (j + 1))) n5
              have sA := (((s1.trans s2).trans s3).trans s4).trans s5
              have h1j := ok1 _ (List.getElem_mem hj)
              refine ⟨p5, one.take j ++ [1 - one[j]] ++ one.drop (j + 1), _, rfl, (D6.same sA).mono (by omega), (fr4.trans fr5).trans (Fr.of sA), sA _ _ h15, ?_, ?_, ?_⟩
              · rw [upd_same, List.map_append, List.map_append, List.map_take, List.map_drop]
                rfl
              · rw [List.length_append, List.length_append, List.length_take, List.length_drop]
                show min j one.length + 1 + (one.length - (j + 1)) = many
                omega
              · intro x hx
                rcases List.mem_append.mp hx with z | z
                · rcases List.mem_append.mp z with z | z
                  · exact ok1 x (List.mem_of_mem_take z)
                  · rw [List.mem_singleton.mp z]; omega
                · exact ok1 x (List.mem_of_mem_drop z)
        rintro σ H5 ⟨O5, r5, y5, rfl, D6, fr5, h15, hO5⟩
        -- if way > 4
        refine ⟨fun σ H' => ∃ O' r y5, σ = [some (.ref d), some (.int many), some (.int way), some (.ref D2), some (.ref O'), y5, none, none] ∧ DeckB H' d l (n + 2 + many + many) ∧ Fr d l H H' ∧ H' D2 = some (.lst (one.map V.int)) ∧ RowL H' O' many r, ?_, ?_⟩
        · refine ⟨.int way, rfl, _, _, rfl, rfl, _, rfl, ite2 (fun _ => ?_) (fun _ => ⟨O5, r5, y5, rfl, D6.mono (by omega), fr5, h15, hO5⟩)⟩
          refine ⟨.int many, rfl, _, rfl, by omega, by omega, fun O6 n6 => ?_⟩
          have o6 := D6.off n6
          have n60 : H O6 = none := by
            cases z : H O6 with
            | none => rfl
            | some o => rw [fr5 _ _ o6.1 o6.2 z] at n6; cases n6
          have n26 : D2 ≠ O6 := ne_of_none h15 n6
          refine lc_range (lo := 0) (n := (many : Int).toNat) (fun i H' => DeckB H' d l (n + 2 + many + i) ∧ Fr d l H H' ∧ H' D2 = some (.lst (one.map V.int)) ∧ ∃ r, RowL H' O6 i r) ⟨(D6.same (same_upd n6)).mono (by omega), fr5.trans (Fr.new n6), same_upd n6 _ _ h15, [], upd_same, rfl, fun x hx => by cases hx⟩ ?_ ?_
          · rintro i H' hi ⟨Di, fri, h1i, r, hD, lr, okr⟩
            refine ⟨rfl, .ref d, rfl, d, l, 2, _, rfl, Di, by omega, by decide, by decide, fun H6 v D7 fr6 v0 v1 => ?_⟩
            have hD6 := fr6 _ _ o6.1 o6.2 hD
            refine ⟨_, hD6, ?_, (D7.upd o6.1 o6.2).mono (by push_cast; omega), Fr.upd (fri.trans fr6) n60, by rw [upd_ne n26]; exact fr6 _ _ o2.1 o2.2 h1i, r ++ [v], ?_, by rw [List.length_append, lr]; rfl, okr.snoc (by omega)⟩
            · rw [List.length_map, lr]
              exact Nat.lt_of_lt_of_le (show i < 64 by omega) (by decide)
            · rw [upd_same, List.map_append]
              rfl
          · rintro H6 ⟨D7, fr6, h16, r, hO6⟩
            exact ⟨O6, r, _, rfl, D7.mono (by omega), fr6, h16, by simpa using hO6⟩
        rintro σ H6 ⟨O6, r6, y6, rfl, D7, fr6, h16, hO6, lr6, ok6⟩
        refine ⟨.ref D2, rfl, D2, _, rfl, .inl ⟨SqL.of h16, fun t1 n1 => ?_⟩⟩
        refine ⟨.ref O6, rfl, O6, _, rfl, .inl ⟨SqL.of (same_upd n1 _ _ hO6), fun t2 n2' => ⟨sl2, fun r nr => ?_⟩⟩⟩
        have sA := ((same_upd (o := HO.tup (one.map V.int)) n1).trans (same_upd (o := HO.tup (r6.map V.int)) n2')).trans (same_upd (o := HO.tup [V.ref t1, .ref t2]) nr)
        refine q r _ one r6 ((D7.same sA).mono (by omega)) (fr6.trans (Fr.of sA)) ?_ l1' lr6 ok1 ok6
        exact .tup upd_same (.cons (.tup (same_upd nr _ _ (same_upd n2' _ _ upd_same)) (TkAll.ints _)) (.cons (.tup (same_upd nr _ _ upd_same) (TkAll.ints _)) .nil))
/-! ### what a row settles -/
def pickI (ws : List Int) (ins : List Nat) : List Int := ins.map fun i => ws.getD i 0

def stepS (ws : List Int) (g : Gt) : List Int := ws ++ [gateM g.1 (pickI ws g.2)]
def settledM (gs : List Gt) (r : List Int) : List Int := gs.foldl stepS r
theorem settledM_take {gs : List Gt} {k : Nat} {g : Gt} (h : gs[k]? = some g) (r : List Int) : settledM (gs.take (k + 1)) r = stepS (settledM (gs.take k) r) g := by
  rw [List.take_add_one, h]
  unfold settledM
  show ((gs.take k) ++ [g]).foldl stepS r = _
  rw [List.foldl_append]
  rfl
theorem settledM_len (gs : List Gt) (r : List Int) : (settledM gs r).length = r.length + gs.length := by
  induction gs generalizing r with
  | nil => rfl
  | cons g t ih =>
    show (settledM t (stepS r g)).length = _
    rw [ih]
    unfold stepS
    rw [List.length_append, List.length_cons, List.length_cons, List.length_nil]
    omega
theorem settledM_01 (gs : List Gt) (r : List Int) (h : Row01 r) : Row01 (settledM gs r) := by
  induction gs generalizing r with
  | nil => exact h
  | cons g t ih => exact ih (stepS r g) (h.snoc (gate01 _ _))
theorem getD_01 {r : List Int} (h : Row01 r) (i : Nat) : r.getD i 0 = 0 ∨ r.getD i 0 = 1 := by
  rw [List.getD_eq_getElem?_getD]
  cases e : r[i]? with
  | none => exact .inl rfl
  | some x => exact h x (List.mem_of_getElem? e)
def sp_settled (K : PySem.W.Frag) : Sp := fun vs H Q _ => ∃ (nv rv : V) (m : Int) (gs : List Gt) (a : List Int), vs = [nv, rv] ∧ Tk H nv (netD m gs) ∧ Tk H rv (rowD a) ∧ Row01 a ∧ a.length ≤ 16 ∧ gs.length ≤ 64 ∧ NetOk a.length gs ∧ ∀ r H', Same H H' → H' r = some (.lst ((settledM gs a).map V.int)) → Q (.ref r) H'
theorem ok_settled (T : Tx K mg) : FnOk P w K mg base CX0 1 T.f_settled T.fd_settled ["_law_net", "_law_row"] (sp_settled K) := by
  refine T.F_settled.ok sc_settled (fun vs H Q E h => ?_) (fun cdv A outer s H vs Q E hr h => ?_)
  · obtain ⟨nv, rv, m, gs, a, rfl, _⟩ := h
    rfl
  · obtain ⟨nv, rv, m, gs, a, rfl, tn, tr, ha, h16, h64, ok, q⟩ := h
    refine ⟨_, (pss_cons (ps_set (i := 2) sc_settled.nd rfl (by first | exact .inl rfl | exact .inr rfl) (pe_callTy call_list_of (by rfl) T.m_list (by decide +kernel) (pa_cons (pv 1) pa_nil))) (pss_cons (ps_for PassesOwn.never rfl (pi_tup (pe_ix ix_tup (pv 0) pe_int (fun _ _ => rfl))) (pg_tup rfl (pgs_cons (pg_name (i := 3) sc_settled.nd rfl (by first | exact .inl rfl | exact .inr rfl)) (pgs_cons (pg_name (i := 4) sc_settled.nd rfl (by first | exact .inl rfl | exact .inr rfl)) pgs_nil))) (pss_cons (ps_set (i := 5) sc_settled.nd rfl (by first | exact .inl rfl | exact .inr rfl) pe_int) (pss_cons (ps_for PassesOwn.never rfl (pi_tup (pv 4)) (pg_name (i := 6) sc_settled.nd rfl (by first | exact .inl rfl | exact .inr rfl)) (pss_one (ps_set (i := 5) sc_settled.nd rfl (by first | exact .inl rfl | exact .inr rfl) (pe_op op_add (pe_op op_mul pe_int (pv 5)) (pe_ix ix_list (pv 2) (pv 6) (fun _ _ => rfl)))))) (pss_one (ps_expr (pe_bm PySem.F.plainAttrs_list PySem.F.slot_list_append PySem.F.type_list_append mt_append (pv 2) (pa_cons (pe_callTy call_int_str (by rfl) T.m_int (by decide +kernel) (pa_cons (pe_item_str (pv 3) (pv 5) (fun _ _ => rfl)) pa_nil)) pa_nil))))))) (pss_one (ps_ret (pv 2))))), ?_⟩
    obtain ⟨ra, rfl, hra⟩ := tr.row_inv
    obtain ⟨n, g, xs, rfl, hn, hg, tg⟩ := tn.net_inv
    refine ⟨.ref ra, rfl, ra, _, rfl, .inr (SqT.of hra), fun W nW => ?_⟩
    have s0 := same_upd (o := HO.lst (a.map V.int)) nW
    refine ⟨.ref n, rfl, n, _, 1, .ref g, rfl, rfl, SqT.of (s0 _ _ hn), rfl, g, rfl, ⟨_, SqT.of (s0 _ _ hg)⟩, ?_⟩
    refine for_tup (K := K) (a := g) (xs := xs) (fun i σ H' => ∃ y3 y4 y5 y6, σ = [some (.ref n), some (.ref ra), some (.ref W), y3, y4, y5, y6] ∧ Same H (hd1 W H') ∧ H' W = some (.lst ((settledM (gs.take i) a).map V.int)))
      ⟨_, _, _, _, rfl, hd1_of s0 nW, upd_same⟩ (fun i σ H' _ ⟨_, _, _, _, _, hP, _⟩ => SqT.of (hd1_le _ _ (hP _ _ hg))) ?_ ?_
    · rintro i v σ H1 hv ⟨y3, y4, y5, y6, rfl, s1, hW⟩
      obtain ⟨gt, hgt, tgt⟩ := tg.at hv
      have s1' : Same H H1 := fun b o e => hd1_le _ _ (s1 _ _ e)
      obtain ⟨ga, ii, rfl, hga, hii⟩ := (tgt.same s1').gt_inv
      obtain ⟨ok1, ok2, ok3, ok4⟩ := ok i gt hgt
      have hi := (List.getElem?_eq_some_iff.mp hgt).1
      have wl : (settledM (gs.take i) a).length = a.length + i := by
        rw [settledM_len, List.length_take]
        omega
      have w01 := settledM_01 (gs.take i) a ha
      have p01 : ∀ x ∈ pickI (settledM (gs.take i) a) gt.2, x = 0 ∨ x = 1 := fun x hx => by
        obtain ⟨k, _, rfl⟩ := List.mem_map.mp hx
        exact getD_01 w01 k
      have pl : (pickI (settledM (gs.take i) a) gt.2).length = gt.2.length := by unfold pickI; rw [List.length_map]
      obtain ⟨b, p0, p1, p2, p3, p4⟩ := gate_read (bs := gt.1) p01 (by rw [pl]; exact ok1) (by rw [pl]; exact ok3)
      refine ⟨ga, _, rfl, SqT.of hga, rfl, _, _, rfl, _, _, rfl, rfl, ?_⟩
      refine ⟨.ref ii, rfl, ii, rfl, ⟨_, SqT.of hii⟩, for_tup (K := K) (a := ii) (xs := (gt.2.map Int.ofNat).map V.int) (fun j σ H' => ∃ y6, σ = [some (.ref n), some (.ref ra), some (.ref W), some (.str (tabOf gt.1)), some (.ref ii), some (.int (plc ((pickI (settledM (gs.take i) a) gt.2).take j))), y6] ∧ H' = H1) ⟨_, rfl, rfl⟩ (fun j σ H' _ ⟨_, _, e⟩ => by rw [e]; exact SqT.of hii) ?_ ?_⟩
      · rintro j x σ H' hx ⟨y6', rfl, rfl⟩
        rw [List.getElem?_map, List.getElem?_map] at hx
        cases hj : gt.2[j]? with
        | none => rw [hj] at hx; cases hx
        | some k =>
          rw [hj] at hx
          cases Option.some.inj hx
          have hk := ok4 k (List.mem_of_getElem? hj)
          have hwk : ((settledM (gs.take i) a).map V.int)[k]? = some (.int ((settledM (gs.take i) a).getD k 0)) := by
            rw [List.getElem?_map, List.getD_eq_getElem?_getD, List.getElem?_eq_getElem (by omega)]
            rfl
          have hpj : (pickI (settledM (gs.take i) a) gt.2)[j]? = some ((settledM (gs.take i) a).getD k 0) := by
            unfold pickI
            rw [List.getElem?_map, hj]
            rfl
          refine ⟨.int (plc ((pickI (settledM (gs.take i) a) gt.2).take j)), rfl, 2, _, rfl, rfl, .inl ⟨by decide, by decide⟩, .ref W, rfl, .int (Int.ofNat k), rfl, W, _, Int.ofNat k, _, rfl, rfl, SqL.of hW, atI_nat hwk, _, _, rfl, rfl, some (.int (Int.ofNat k)), ?_, rfl⟩
          rw [plc_take hpj]
          rfl
      · rintro σ H' ⟨y6', rfl, rfl⟩
        rw [List.length_map, List.length_map, ← pl, List.take_length]
        refine ⟨.ref W, rfl, .inl ⟨rfl, _, SqL.of hW⟩, .str (tabOf gt.1), rfl, .int (plc (pickI (settledM (gs.take i) a) gt.2)), rfl, _, _, _, rfl, rfl, p0, p1, p2, p3, _, _, rfl, int_sign b, (show 1 ≤ 640 by decide), ?_⟩
        rw [← p4]
        refine ⟨W, _, _, rfl, rfl, hW, ?_, ?_⟩
        · rw [List.length_map, wl]
          exact Nat.lt_of_lt_of_le (show a.length + i < 128 by omega) (by decide)
        · refine ⟨_, _, _, _, rfl, s1.trans hd1_upd, ?_⟩
          rw [upd_same, settledM_take hgt]
          unfold stepS
          rw [List.map_append]
          rfl
    · rintro σ H1 ⟨y3, y4, y5, y6, rfl, s1, hW⟩
      have xl : xs.length = gs.length := by rw [tg.length, List.length_map]
      rw [xl, List.take_length] at hW
      exact ⟨.ref W, rfl, q W _ (fun b o e => hd1_le _ _ (s1 _ _ e)) hW⟩
/-! ### a net with one more input -/
def shiftN (at_ i : Nat) : Nat := if at_ ≤ i then i + 1 else i
def moreG (at_ : Nat) (g : Gt) : Gt := (g.1, g.2.map (shiftN at_))
def sp_more (K : PySem.W.Frag) : Sp := fun vs H Q _ => ∃ (nv : V) (m : Int) (gs : List Gt) (at_ : Nat), vs = [nv, .int at_] ∧ Tk H nv (netD m gs) ∧ gs.length ≤ 64 ∧ (∀ g ∈ gs, g.2.length ≤ 3) ∧ ∀ r H', Same H H' → Tk H' (.ref r) (netD (m + 1) (gs.map (moreG at_))) → Q (.ref r) H'
theorem ok_more (T : Tx K mg) : FnOk P w K mg base CX0 1 T.f_more T.fd_more ["_law_net", "_law_at"] (sp_more K) := by
  refine T.F_more.ok sc_more (fun vs H Q E h => ?_) (fun cdv A outer s H vs Q E hr h => ?_)
  · obtain ⟨nv, m, gs, at_, rfl, _⟩ := h
    rfl
  · obtain ⟨nv, m, gs, at_, rfl, tn, h64, h3, q⟩ := h
    refine ⟨_, (pss_cons (ps_asg (pv 0) (pg_tup rfl (pgs_cons (pg_name (i := 2) sc_more.nd rfl (by first | exact .inl rfl | exact .inr rfl)) (pgs_cons (pg_name (i := 3) sc_more.nd rfl (by first | exact .inl rfl | exact .inr rfl)) pgs_nil)))) (pss_cons (ps_set (i := 4) sc_more.nd rfl (by first | exact .inl rfl | exact .inr rfl) (pe_lst pa_nil)) (pss_cons (ps_for PassesOwn.never rfl (pi_tup (pv 3)) (pg_tup rfl (pgs_cons (pg_name (i := 5) sc_more.nd rfl (by first | exact .inl rfl | exact .inr rfl)) (pgs_cons (pg_name (i := 6) sc_more.nd rfl (by first | exact .inl rfl | exact .inr rfl)) pgs_nil))) (pss_one (ps_expr (pe_bm PySem.F.plainAttrs_list PySem.F.slot_list_append PySem.F.type_list_append mt_append (pv 4) (pa_cons (pe_tup (pa_cons (pv 5) (pa_cons (pe_callTy call_tuple_of (by rfl) T.m_tuple (by decide +kernel) (pa_cons (pe_lc (own := [("_law_wire", 7)]) (by rfl) sc_more.nd (pi_tup (pv 6)) (blkOk_by (own := [("_law_wire", 7)]) (N := ["_law_net", "_law_at", "_law_many", "_law_gates", "_law_found", "_law_table_here", "_law_ins", "_law_wire"]) (sc := defScope s_more) (by decide +kernel)) (fun _ _ _ _ _ => (pg_name (i := 7) sc_more.nd rfl (by first | exact .inl rfl | exact .inr rfl))) (fun _ _ _ _ _ => pts_nil) (fun _ _ _ _ _ => (pe_op op_add (pv 7) (pe_callTy call_int1 (by rfl) T.m_int (by decide +kernel) (pa_cons (pe_cmpR op_ge (pv 7) (pv 1) (nomark _)) pa_nil))))) pa_nil)) pa_nil))) pa_nil))))) (pss_one (ps_ret (pe_tup (pa_cons (pe_op op_add (pv 2) pe_int) (pa_cons (pe_callTy call_tuple_of (by rfl) T.m_tuple (by decide +kernel) (pa_cons (pv 4) pa_nil)) pa_nil)))))))), ?_⟩
    obtain ⟨n, g, xs, rfl, hn, hg, tg⟩ := tn.net_inv
    refine ⟨.ref n, rfl, n, _, rfl, SqT.of hn, rfl, _, _, rfl, _, _, rfl, rfl, ?_⟩
    refine ⟨Nat.zero_le _, fun F nF => ?_⟩
    have s0 := same_upd (o := HO.lst []) nF
    refine ⟨.ref g, rfl, g, rfl, ⟨_, SqT.of (s0 _ _ hg)⟩, ?_⟩
    refine for_tup (K := K) (a := g) (xs := xs) (fun i σ H' => ∃ y5 y6, σ = [some (.ref n), some (.int at_), some (.int m), some (.ref g), some (.ref F), y5, y6, none] ∧ Same H (hd1 F H') ∧ ∃ acc, H' F = some (.lst acc) ∧ TkAll H' acc (((gs.take i).map (moreG at_)).map gD))
      ⟨_, _, rfl, hd1_of s0 nF, [], upd_same, .nil⟩ (fun i σ H' _ ⟨_, _, _, hP, _⟩ => SqT.of (hd1_le _ _ (hP _ _ hg))) ?_ ?_
    · rintro i v σ H1 hv ⟨y5, y6, rfl, s1, acc, hF, ta⟩
      obtain ⟨gt, hgt, tgt⟩ := tg.at hv
      have s1' : Same H H1 := fun b o e => hd1_le _ _ (s1 _ _ e)
      obtain ⟨ga, ii, rfl, hga, hii⟩ := (tgt.same s1').gt_inv
      have hi := (List.getElem?_eq_some_iff.mp hgt).1
      have g3 := h3 gt (List.mem_of_getElem? hgt)
      refine ⟨ga, _, rfl, SqT.of hga, rfl, _, _, rfl, _, _, rfl, rfl, ?_⟩
      refine ⟨.ref F, rfl, .inl ⟨rfl, _, SqL.of hF⟩, .str (tabOf gt.1), rfl, .ref ii, rfl, ii, rfl, ⟨_, SqT.of hii⟩, fun D nD => ?_⟩
      refine lc_tup (K := K) (a := ii) (xs := (gt.2.map Int.ofNat).map V.int) (fun j H' => Same H1 (hd1 D H') ∧ H' D = some (.lst ((((gt.2.take j).map (shiftN at_)).map Int.ofNat).map V.int))) ⟨hd1_of (same_upd nD) nD, upd_same⟩ (fun j H' _ hP => SqT.of (hd1_le _ _ (hP.1 _ _ hii))) ?_ ?_
      · rintro j x H2 hx ⟨s2, h2⟩
        rw [List.getElem?_map, List.getElem?_map] at hx
        cases hj : gt.2[j]? with
        | none => rw [hj] at hx; cases hx
        | some k =>
          rw [hj] at hx
          cases Option.some.inj hx
          have hjl := (List.getElem?_eq_some_iff.mp hj).1
          have e : Int.ofNat k + (if decide ((at_ : Int) ≤ Int.ofNat k) = true then 1 else 0) = Int.ofNat (shiftN at_ k) := by
            unfold shiftN
            by_cases h : at_ ≤ k
            · rw [if_pos h, decide_eq_true (by simpa using h)]
              rfl
            · rw [if_neg h, decide_eq_false (by simpa using h)]
              simp
          refine ⟨rfl, .int (Int.ofNat k), rfl, .int (Int.ofNat k), rfl, .int at_, rfl, _, _, rfl, rfl, .inr ⟨_, rfl, _, _, rfl, rfl, ?_⟩⟩
          dsimp only
          rw [e]
          refine ⟨_, h2, ?_, s2.trans hd1_upd, ?_⟩
          · rw [List.length_map, List.length_map, List.length_map, List.length_take]
            exact Nat.lt_of_lt_of_le (show min j gt.2.length < 64 by omega) (by decide)
          · rw [upd_same, List.take_add_one, hj, List.map_append, List.map_append, List.map_append]
            rfl
      · rintro H2 ⟨s2, h2⟩
        have s2' : Same H1 H2 := fun b o e => hd1_le _ _ (s2 _ _ e)
        rw [List.length_map, List.length_map, List.take_length] at h2
        refine ⟨D, _, rfl, .inl ⟨SqL.of h2, fun ti nti => ⟨sl2, fun tt ntt => ?_⟩⟩⟩
        have s5 := (same_upd (o := HO.tup (((gt.2.map (shiftN at_)).map Int.ofNat).map V.int)) nti).trans (same_upd (o := HO.tup [V.str (tabOf gt.1), .ref ti]) ntt)
        have hF6 := s5 _ _ (s2' _ _ hF)
        have sA := s2'.trans s5
        refine ⟨F, _, _, rfl, rfl, hF6, ?_, ?_⟩
        · have := ta.length
          rw [List.length_map, List.length_map, List.length_take] at this
          exact Nat.lt_of_lt_of_le (show acc.length < 128 by omega) (by decide)
        · refine ⟨_, _, rfl, (s1.trans (hd1_same sA)).trans hd1_upd, _, upd_same, ?_⟩
          rw [List.take_add_one, hgt]
          show TkAll _ _ (((gs.take i ++ [gt]).map (moreG at_)).map gD)
          rw [List.map_append, List.map_append]
          have tgate : Tk (upd (upd H2 ti (.tup (((gt.2.map (shiftN at_)).map Int.ofNat).map V.int))) tt (.tup [.str (tabOf gt.1), .ref ti])) (.ref tt) (gD (moreG at_ gt)) := .tup upd_same (.cons (.str _) (.cons (.tup (same_upd ntt _ _ upd_same) (TkAll.ints _)) .nil))
          exact (ta.ts ((Ts.same sA).trans (Ts.set hF6)) (noL_gates _)).append (.cons (tgate.ts (Ts.set hF6) (noL_gate _)) .nil)
    · rintro σ H1 ⟨y5, y6, rfl, s1, acc, hF, ta⟩
      have s1' : Same H H1 := fun b o e => hd1_le _ _ (s1 _ _ e)
      have xl : xs.length = gs.length := by rw [tg.length, List.length_map]
      rw [xl, List.take_length] at ta
      refine ⟨.int m, rfl, _, _, rfl, rfl, .ref F, rfl, F, _, rfl, .inl ⟨SqL.of hF, fun tq ntq => ⟨sl2, fun r nr => ?_⟩⟩⟩
      have s2 := (same_upd (o := HO.tup acc) ntq).trans (same_upd (o := HO.tup [V.int (m + 1), .ref tq]) nr)
      exact q r _ (s1'.trans s2) (.tup upd_same (.cons (.int _) (.cons (.tup (same_upd nr _ _ upd_same) (ta.same s2)) .nil)))


end
end Gk

set_option Elab.async false
set_option linter.all false
set_option maxRecDepth 100000
set_option maxHeartbeats 1000000
namespace Gk
open PySem PySem.Spec PyProof.Rows L2
/-! ### mathematics of the words of nets -/
theorem pick_fst (ws : List Wd) (ins : List Nat) : (pick ws ins).map (·.1) = pickI (ws.map (·.1)) ins := by
  unfold pick pickI
  rw [List.map_map]
  refine List.map_congr_left fun i _ => ?_
  show (ws.getD i (0, 0, false)).1 = _
  rw [List.getD_eq_getElem?_getD, List.getD_eq_getElem?_getD, List.getElem?_map]
  cases ws[i]? <;> rfl
theorem pick_snd (ws : List Wd) (ins : List Nat) : (pick ws ins).map (·.2.1) = pickI (ws.map (·.2.1)) ins := by
  unfold pick pickI
  rw [List.map_map]
  refine List.map_congr_left fun i _ => ?_
  show (ws.getD i (0, 0, false)).2.1 = _
  rw [List.getD_eq_getElem?_getD, List.getD_eq_getElem?_getD, List.getElem?_map]
  cases ws[i]? <;> rfl
theorem words_fst (gs : List Gt) (w0 : List Wd) : (wordsM gs w0).map (·.1) = settledM gs (w0.map (·.1)) := by
  induction gs generalizing w0 with
  | nil => rfl
  | cons g r ih =>
    show (wordsM r (stepW w0 g)).map (·.1) = settledM r (stepS (w0.map (·.1)) g)
    rw [ih]
    unfold stepW stepS gwM
    rw [List.map_append, List.map_singleton, pick_fst]
theorem words_snd (gs : List Gt) (w0 : List Wd) : (wordsM gs w0).map (·.2.1) = settledM gs (w0.map (·.2.1)) := by
  induction gs generalizing w0 with
  | nil => rfl
  | cons g r ih =>
    show (wordsM r (stepW w0 g)).map (·.2.1) = settledM r (stepS (w0.map (·.2.1)) g)
    rw [ih]
    unfold stepW stepS gwM
    rw [List.map_append, List.map_singleton, pick_snd]
theorem w0_fst {a b : List Int} (h : a.length = b.length) : (w0M a b).map (·.1) = a := by
  unfold w0M
  rw [List.map_map]
  exact List.map_fst_zip (Nat.le_of_eq h)
theorem w0_snd {a b : List Int} (h : a.length = b.length) : (w0M a b).map (·.2.1) = b := by
  unfold w0M
  rw [List.map_map]
  exact List.map_snd_zip (Nat.le_of_eq h.symm)
/-- each choice takes one option of each list -/
inductive Ch {α : Type} : List α → List (List α) → Prop
  | nil : Ch [] []
  | cons {x : α} {l : List α} {c : List α} {ls : List (List α)} : x ∈ l → Ch c ls → Ch (x :: c) (l :: ls)
theorem ch_snoc {α : Type} {x : α} {l : List α} : ∀ {c : List α} {ls : List (List α)}, Ch c ls → x ∈ l → Ch (c ++ [x]) (ls ++ [l])
  | _, _, .nil, h => .cons h .nil
  | _, _, .cons h t, h' => .cons h (ch_snoc t h')
theorem ch_unsnoc {α : Type} {l : List α} : ∀ {ls : List (List α)} {c : List α}, Ch c (ls ++ [l]) → ∃ c0 x, c = c0 ++ [x] ∧ Ch c0 ls ∧ x ∈ l
  | [], _, .cons h .nil => ⟨[], _, rfl, .nil, h⟩
  | _ :: _, _, .cons h t => by
    obtain ⟨c0, x, rfl, h1, h2⟩ := ch_unsnoc t
    exact ⟨_ :: c0, x, rfl, .cons h h1, h2⟩
theorem chs_iff {α : Type} : ∀ (n : Nat) (ls : List (List α)), ls.length = n → ∀ c, c ∈ chs ls ↔ Ch c ls := by
  intro n
  induction n with
  | zero =>
    intro ls h c
    cases List.eq_nil_of_length_eq_zero h
    refine ⟨fun z => ?_, fun z => ?_⟩
    · rw [List.mem_singleton.mp z]; exact .nil
    · cases z; exact List.mem_singleton.mpr rfl
  | succ n ih =>
    intro ls h c
    have hne : ls ≠ [] := fun z => by rw [z] at h; cases h
    obtain ⟨r, x, rfl⟩ : ∃ r x, ls = r ++ [x] := ⟨ls.dropLast, ls.getLast hne, (List.dropLast_concat_getLast hne).symm⟩
    have ih' := ih r (by rw [List.length_append] at h; simpa using h)
    rw [chs_snoc]
    unfold stepC
    rw [List.mem_flatMap]
    refine ⟨fun ⟨c0, h0, hc⟩ => ?_, fun z => ?_⟩
    · obtain ⟨o, ho, rfl⟩ := List.mem_map.mp hc
      exact ch_snoc ((ih' c0).mp h0) ho
    · obtain ⟨c0, o, rfl, h1, h2⟩ := ch_unsnoc z
      exact ⟨c0, (ih' c0).mpr h1, List.mem_map.mpr ⟨o, h2, rfl⟩⟩
/-- fro, by a choice -/
theorem fro_iff (bs : List Bool) (ws : List Wd) (F L : Int) : froM bs ws F L = true ↔ ∃ c, Ch c (ws.map pw) ∧ testC bs F L c = true := by
  unfold froM
  rw [List.any_eq_true]
  exact ⟨fun ⟨c, h1, h2⟩ => ⟨c, (chs_iff _ _ rfl c).mp h1, h2⟩, fun ⟨c, h1, h2⟩ => ⟨c, (chs_iff _ _ rfl c).mpr h1, h2⟩⟩
theorem ch_map {ws vs : List Wd} {f : Int × Int → Int × Int} {k : Wd → Wd} (h : ∀ x ∈ ws, ∀ p ∈ pw x, f p ∈ pw (k x)) : ∀ {c : List (Int × Int)}, Ch c (ws.map pw) → Ch (c.map f) ((ws.map k).map pw) := by
  induction ws with
  | nil => intro c z; cases z; exact .nil
  | cons w r ih =>
    intro c z
    cases z with
    | cons h1 t => exact .cons (h w (List.mem_cons_self ..) _ h1) (ih (fun x hx => h x (List.mem_cons_of_mem _ hx)) t)
def rev (x : Wd) : Wd := (x.2.1, x.1, x.2.2)
theorem wok_cases {x : Wd} (h : Wok x) : ∃ (f l c : Bool), x = ((if f then 1 else 0), (if l then 1 else 0), c) := by
  obtain ⟨a, b, c⟩ := x
  obtain ⟨h1, h2⟩ := h
  dsimp only at h1 h2
  rcases h1 with rfl | rfl <;> rcases h2 with rfl | rfl
  · exact ⟨false, false, c, rfl⟩
  · exact ⟨false, true, c, rfl⟩
  · exact ⟨true, false, c, rfl⟩
  · exact ⟨true, true, c, rfl⟩
theorem pw_swap {x : Wd} (h : Wok x) : ∀ p ∈ pw x, (p.2, p.1) ∈ pw (rev x) := by
  obtain ⟨f, l, c, rfl⟩ := wok_cases h
  clear h
  revert f l c
  decide
theorem pw_same {x : Wd} (h : Wok x) : ∀ p ∈ pw x, (p.1, p.1) ∈ pw (rev x) := by
  obtain ⟨f, l, c, rfl⟩ := wok_cases h
  clear h
  revert f l c
  decide
theorem test_iff {bs : List Bool} {F L : Int} {c : List (Int × Int)} : testC bs F L c = true ↔ (F = L ∧ gateM bs (c.map (·.1)) ≠ F) ∨ (F ≠ L ∧ gateM bs (c.map (·.1)) = L ∧ gateM bs (c.map (·.2)) = F) := by
  unfold testC
  by_cases h : F = L
  · simp [h]
  · simp [h]
theorem fro_rev1 {bs : List Bool} {ws : List Wd} (ok : ∀ x ∈ ws, Wok x) {F L : Int} (h : froM bs ws F L = true) : froM bs (ws.map rev) L F = true := by
  obtain ⟨c, hc, ht⟩ := (fro_iff _ _ _ _).mp h
  rcases test_iff.mp ht with ⟨e, t⟩ | ⟨e, t1, t2⟩
  · refine (fro_iff _ _ _ _).mpr ⟨c.map fun p => (p.1, p.1), ch_map (vs := []) (fun x hx p hp => pw_same (ok x hx) p hp) hc, test_iff.mpr (.inl ⟨e.symm, ?_⟩)⟩
    rw [List.map_map]
    show gateM bs (c.map (·.1)) ≠ L
    rw [← e]
    exact t
  · refine (fro_iff _ _ _ _).mpr ⟨c.map fun p => (p.2, p.1), ch_map (vs := []) (fun x hx p hp => pw_swap (ok x hx) p hp) hc, test_iff.mpr (.inr ⟨fun z => e z.symm, ?_, ?_⟩)⟩
    · rw [List.map_map]; exact t2
    · rw [List.map_map]; exact t1
theorem rev_rev (x : Wd) : rev (rev x) = x := rfl
theorem rev_ok {x : Wd} (h : Wok x) : Wok (rev x) := ⟨h.2, h.1⟩
theorem fro_rev {bs : List Bool} {ws : List Wd} (ok : ∀ x ∈ ws, Wok x) (F L : Int) : froM bs (ws.map rev) L F = froM bs ws F L := by
  rw [Bool.eq_iff_iff]
  refine ⟨fun h => ?_, fun h => fro_rev1 ok h⟩
  have := fro_rev1 (ws := ws.map rev) (fun x hx => by
    obtain ⟨y, hy, rfl⟩ := List.mem_map.mp hx
    exact rev_ok (ok y hy)) h
  rw [List.map_map] at this
  have e : ws.map (rev ∘ rev) = ws := by
    conv => rhs; rw [← List.map_id ws]
    rfl
  rw [e] at this
  exact this
theorem gw_rev {bs : List Bool} {ws : List Wd} (ok : ∀ x ∈ ws, Wok x) : gwM bs (ws.map rev) = rev (gwM bs ws) := by
  unfold gwM
  have e1 : (ws.map rev).map (·.1) = ws.map (·.2.1) := by rw [List.map_map]; rfl
  have e2 : (ws.map rev).map (·.2.1) = ws.map (·.1) := by rw [List.map_map]; rfl
  rw [e1, e2, fro_rev ok]
  rfl
theorem pick_rev (ws : List Wd) (ins : List Nat) : pick (ws.map rev) ins = (pick ws ins).map rev := by
  unfold pick
  rw [List.map_map]
  refine List.map_congr_left fun i _ => ?_
  show _ = rev (ws.getD i (0, 0, false))
  rw [List.getD_eq_getElem?_getD, List.getD_eq_getElem?_getD, List.getElem?_map]
  cases ws[i]? <;> rfl
theorem getD_ok {ws : List Wd} (h : ∀ x ∈ ws, Wok x) (i : Nat) : Wok (ws.getD i (0, 0, false)) := by
  rw [List.getD_eq_getElem?_getD]
  cases e : ws[i]? with
  | none => exact ⟨.inl rfl, .inl rfl⟩
  | some x => exact h x (List.mem_of_getElem? e)
theorem pick_ok {ws : List Wd} (h : ∀ x ∈ ws, Wok x) (ins : List Nat) : ∀ x ∈ pick ws ins, Wok x := fun x hx => by
  obtain ⟨i, _, rfl⟩ := List.mem_map.mp hx
  exact getD_ok h i
theorem stepW_ok {ws : List Wd} (h : ∀ x ∈ ws, Wok x) (g : Gt) : ∀ x ∈ stepW ws g, Wok x := fun x hx => by
  rcases List.mem_append.mp hx with z | z
  · exact h x z
  · rw [List.mem_singleton.mp z]; exact gw_ok _ _
theorem words_rev (gs : List Gt) (w0 : List Wd) (ok : ∀ x ∈ w0, Wok x) : wordsM gs (w0.map rev) = (wordsM gs w0).map rev := by
  induction gs generalizing w0 with
  | nil => rfl
  | cons g r ih =>
    show wordsM r (stepW (w0.map rev) g) = (wordsM r (stepW w0 g)).map rev
    rw [← ih _ (stepW_ok ok g)]
    congr 1
    unfold stepW
    rw [List.map_append, List.map_singleton, pick_rev, gw_rev (pick_ok ok _)]
theorem w0_rev (a b : List Int) : w0M b a = (w0M a b).map rev := by
  unfold w0M
  induction a generalizing b with
  | nil => cases b <;> rfl
  | cons x r ih =>
    cases b with
    | nil => rfl
    | cons y t =>
      rw [List.zip_cons_cons, List.zip_cons_cons, List.map_cons, List.map_cons, List.map_cons, ih]
      rfl
/-- nothing changes -/
def still (x : Int) : Wd := (x, x, false)
theorem pw_still (x : Int) : pw (still x) = [(x, x)] := by
  unfold pw still pairsM
  simp
theorem ch_still : ∀ {xs : List Int} {c : List (Int × Int)}, Ch c ((xs.map still).map pw) → c = xs.map fun x => (x, x)
  | [], _, .nil => rfl
  | x :: r, _, .cons h t => by
    rw [pw_still] at h
    rw [List.mem_singleton.mp h, ch_still t]
    rfl
theorem gw_still (bs : List Bool) (xs : List Int) : gwM bs (xs.map still) = still (gateM bs xs) := by
  unfold gwM
  have e1 : (xs.map still).map (·.1) = xs := by rw [List.map_map]; exact List.map_id _
  have e2 : (xs.map still).map (·.2.1) = xs := by rw [List.map_map]; exact List.map_id _
  rw [e1, e2]
  have : froM bs (xs.map still) (gateM bs xs) (gateM bs xs) = false := by
    rw [Bool.eq_false_iff]
    intro h
    obtain ⟨c, hc, ht⟩ := (fro_iff _ _ _ _).mp h
    rw [ch_still hc] at ht
    rcases test_iff.mp ht with ⟨_, t⟩ | ⟨e, _⟩
    · apply t
      rw [List.map_map]
      congr 1
      exact List.map_id _
    · exact e rfl
  rw [this]
  rfl
theorem pick_still (xs : List Int) (ins : List Nat) : pick (xs.map still) ins = (pickI xs ins).map still := by
  unfold pick pickI
  rw [List.map_map]
  refine List.map_congr_left fun i _ => ?_
  show _ = still (xs.getD i 0)
  rw [List.getD_eq_getElem?_getD, List.getD_eq_getElem?_getD, List.getElem?_map]
  cases xs[i]? <;> rfl
theorem words_still (gs : List Gt) (a : List Int) : wordsM gs (a.map still) = (settledM gs a).map still := by
  induction gs generalizing a with
  | nil => rfl
  | cons g r ih =>
    show wordsM r (stepW (a.map still) g) = (settledM r (stepS a g)).map still
    rw [← ih]
    congr 1
    unfold stepW stepS
    rw [List.map_append, List.map_singleton, pick_still, gw_still]
theorem w0_still (a : List Int) : w0M a a = a.map still := by
  unfold w0M
  induction a with
  | nil => rfl
  | cons x r ih => rw [List.zip_cons_cons, List.map_cons, ih]; rfl
/-- a net's words begin with those of its beginning -/
theorem words_pre (gs : List Gt) (w0 : List Wd) : ∃ t, wordsM gs w0 = w0 ++ t := by
  induction gs generalizing w0 with
  | nil => exact ⟨[], by rw [List.append_nil]; rfl⟩
  | cons g r ih =>
    obtain ⟨t, h⟩ := ih (stepW w0 g)
    refine ⟨[gwM g.1 (pick w0 g.2)] ++ t, ?_⟩
    show wordsM r (stepW w0 g) = _
    rw [h]
    unfold stepW
    rw [List.append_assoc]
theorem words_app (gs hs : List Gt) (w0 : List Wd) : wordsM (gs ++ hs) w0 = wordsM hs (wordsM gs w0) := by
  unfold wordsM
  rw [List.foldl_append]
theorem words_cut (gs : List Gt) (w0 : List Wd) {k : Nat} (h : k ≤ gs.length) : wordsM (gs.take k) w0 = (wordsM gs w0).take (w0.length + k) := by
  have e : wordsM gs w0 = wordsM (gs.drop k) (wordsM (gs.take k) w0) := by rw [← words_app, List.take_append_drop]
  obtain ⟨t, ht⟩ := words_pre (gs.drop k) (wordsM (gs.take k) w0)
  rw [e, ht, List.take_left' (by rw [wordsM_len, List.length_take]; omega)]
/-- the last table turned about -/
def turnW (x : Wd) : Wd := (1 - x.1, 1 - x.2.1, x.2.2)
theorem gate_not {bs : List Bool} {xs : List Int} (h : ∀ x ∈ xs, x = 0 ∨ x = 1) (hl : bs.length = 2 ^ xs.length) : gateM (bs.map not) xs = 1 - gateM bs xs := by
  obtain ⟨p0, p1⟩ := plc_bd _ xs rfl h
  have hlt : (plc xs).toNat < bs.length := by
    have : ((2 ^ xs.length : Nat) : Int) = (2 : Int) ^ xs.length := by simp
    omega
  unfold gateM
  rw [List.getD_eq_getElem?_getD, List.getD_eq_getElem?_getD, List.getElem?_map, List.getElem?_eq_getElem hlt]
  show (if (!bs[(plc xs).toNat]) = true then (1 : Int) else 0) = 1 - (if bs[(plc xs).toNat] = true then 1 else 0)
  cases bs[(plc xs).toNat] <;> rfl
theorem ch_01 {ws : List Wd} (ok : ∀ x ∈ ws, Wok x) {c : List (Int × Int)} (h : Ch c (ws.map pw)) : c.length = ws.length ∧ ∀ p ∈ c, (p.1 = 0 ∨ p.1 = 1) ∧ (p.2 = 0 ∨ p.2 = 1) := by
  induction ws generalizing c with
  | nil => cases h; exact ⟨rfl, fun p hp => by cases hp⟩
  | cons w r ih =>
    cases h with
    | cons h1 t =>
      obtain ⟨e, m⟩ := ih (fun x hx => ok x (List.mem_cons_of_mem _ hx)) t
      refine ⟨by rw [List.length_cons, List.length_cons, e], fun p hp => ?_⟩
      rcases List.mem_cons.mp hp with z | z
      · rw [z]; exact pairs01 (ok w (List.mem_cons_self ..)) _ h1
      · exact m p z
theorem fro_not {bs : List Bool} {ws : List Wd} (ok : ∀ x ∈ ws, Wok x) (hl : bs.length = 2 ^ ws.length) (F L : Int) : froM (bs.map not) ws (1 - F) (1 - L) = froM bs ws F L := by
  rw [Bool.eq_iff_iff, fro_iff, fro_iff]
  refine exists_congr fun c => and_congr_right fun hc => ?_
  obtain ⟨lc, m⟩ := ch_01 ok hc
  rw [test_iff, test_iff, gate_not (fun x hx => ?_) (by rw [List.length_map, lc]; exact hl), gate_not (fun x hx => ?_) (by rw [List.length_map, lc]; exact hl)]
  · constructor
    · rintro (⟨h1, h2⟩ | ⟨h1, h2, h3⟩)
      · exact .inl ⟨by omega, by omega⟩
      · exact .inr ⟨by omega, by omega, by omega⟩
    · rintro (⟨h1, h2⟩ | ⟨h1, h2, h3⟩)
      · exact .inl ⟨by omega, by omega⟩
      · exact .inr ⟨by omega, by omega, by omega⟩
  · obtain ⟨p, hp, rfl⟩ := List.mem_map.mp hx
    exact (m p hp).2
  · obtain ⟨p, hp, rfl⟩ := List.mem_map.mp hx
    exact (m p hp).1
theorem gw_not {bs : List Bool} {ws : List Wd} (ok : ∀ x ∈ ws, Wok x) (hl : bs.length = 2 ^ ws.length) : gwM (bs.map not) ws = turnW (gwM bs ws) := by
  unfold gwM turnW
  rw [gate_not (fun x hx => ?_) (by rw [List.length_map]; exact hl), gate_not (fun x hx => ?_) (by rw [List.length_map]; exact hl), fro_not ok hl]
  · obtain ⟨p, hp, rfl⟩ := List.mem_map.mp hx
    exact (ok p hp).2
  · obtain ⟨p, hp, rfl⟩ := List.mem_map.mp hx
    exact (ok p hp).1
/-- one more input -/
def ins1 {α : Type} (at_ : Nat) (x : α) (l : List α) : List α := l.take at_ ++ [x] ++ l.drop at_
theorem ins1_get {α : Type} {at_ : Nat} {x : α} {l : List α} (h : at_ ≤ l.length) (i : Nat) : (ins1 at_ x l)[shiftN at_ i]? = l[i]? := by
  unfold ins1 shiftN
  by_cases hi : at_ ≤ i
  · rw [if_pos hi, List.getElem?_append_right (by rw [List.length_append, List.length_take, List.length_singleton]; omega), List.getElem?_drop, List.length_append, List.length_take, List.length_singleton]
    congr 1
    omega
  · rw [if_neg hi, List.getElem?_append_left (by rw [List.length_append, List.length_take, List.length_singleton]; omega), List.getElem?_append_left (by rw [List.length_take]; omega), List.getElem?_take_of_lt (by omega)]
theorem pick_ins {at_ : Nat} {x : Wd} {ws : List Wd} (h : at_ ≤ ws.length) (ins : List Nat) : pick (ins1 at_ x ws) (ins.map (shiftN at_)) = pick ws ins := by
  unfold pick
  rw [List.map_map]
  refine List.map_congr_left fun i _ => ?_
  show (ins1 at_ x ws).getD (shiftN at_ i) _ = _
  rw [List.getD_eq_getElem?_getD, List.getD_eq_getElem?_getD, ins1_get h]
theorem ins1_app {α : Type} {at_ : Nat} {x y : α} {l : List α} (h : at_ ≤ l.length) : ins1 at_ x (l ++ [y]) = ins1 at_ x l ++ [y] := by
  unfold ins1
  rw [List.take_append_of_le_length h, List.drop_append_of_le_length h, List.append_assoc (l.take at_ ++ [x])]
theorem words_ins (gs : List Gt) {at_ : Nat} {x : Wd} {ws : List Wd} (h : at_ ≤ ws.length) : wordsM (gs.map (moreG at_)) (ins1 at_ x ws) = ins1 at_ x (wordsM gs ws) := by
  induction gs generalizing ws with
  | nil => rfl
  | cons g r ih =>
    show wordsM (r.map (moreG at_)) (stepW (ins1 at_ x ws) (moreG at_ g)) = ins1 at_ x (wordsM r (stepW ws g))
    have h2 : at_ ≤ (stepW ws g).length := by
      unfold stepW
      rw [List.length_append]
      omega
    rw [← ih h2]
    congr 1
    unfold stepW moreG
    rw [pick_ins h, ins1_app h]
theorem ins1_drop {α : Type} {at_ m : Nat} {x : α} {l : List α} (h : at_ ≤ m) (hm : m ≤ l.length) : (ins1 at_ x l).drop (m + 1) = l.drop m := by
  unfold ins1
  rw [List.drop_append, List.drop_of_length_le (by rw [List.length_append, List.length_take, List.length_singleton]; omega), List.nil_append, List.drop_drop]
  congr 1
  rw [List.length_append, List.length_take, List.length_singleton]
  omega
theorem NetOk.more {n : Nat} {gs : List Gt} {at_ : Nat} (h : NetOk n gs) : NetOk (n + 1) (gs.map (moreG at_)) := fun k g e => by
  rw [List.getElem?_map] at e
  cases hz : gs[k]? with
  | none => rw [hz] at e; cases e
  | some g0 =>
    rw [hz] at e
    cases Option.some.inj e
    obtain ⟨h1, h2, h3, h4⟩ := h k g0 hz
    unfold moreG
    refine ⟨by rw [List.length_map]; exact h1, by rw [List.length_map]; exact h2, by rw [List.length_map]; exact h3, fun i hi => ?_⟩
    obtain ⟨j, hj, rfl⟩ := List.mem_map.mp hi
    have := h4 j hj
    unfold shiftN
    split <;> omega
theorem NetOk.take {n : Nat} {gs : List Gt} (h : NetOk n gs) (k : Nat) : NetOk n (gs.take k) := fun j g e => by
  rw [List.getElem?_take] at e
  split at e
  · exact h j g e
  · cases e
theorem ins1_cons {α : Type} (j : Nat) (x h : α) (t : List α) : ins1 (j + 1) x (h :: t) = h :: ins1 j x t := rfl
theorem w0_ins : ∀ (j : Nat) (x y : Int) (a b : List Int), a.length = b.length → w0M (ins1 j x a) (ins1 j y b) = ins1 j (x, y, false) (w0M a b)
  | 0, x, y, a, b, _ => rfl
  | j + 1, x, y, [], [], _ => rfl
  | j + 1, x, y, p :: a, q :: b, h => by
    rw [ins1_cons, ins1_cons]
    show (p, q, false) :: w0M (ins1 j x a) (ins1 j y b) = ins1 (j + 1) (x, y, false) ((p, q, false) :: w0M a b)
    rw [ins1_cons, w0_ins j x y a b (by simpa using h)]

/-! ### comparing, cutting and joining data of tuples -/
mutual
theorem Tk.dp {K : PySem.W.Frag} {H : Hp} : ∀ {v : V} {d : PyData}, Tk H v d → Dp K H v d
  | _, _, .bl b => .bl b
  | _, _, .int i => .int i
  | _, _, .str x => .str x
  | _, _, .lst h t => .lst (SqL.of h) t.dp
  | _, _, .tup h t => .tup (SqT.of h) t.dp
theorem TkAll.dp {K : PySem.W.Frag} {H : Hp} : ∀ {vs : List V} {ds : List PyData}, TkAll H vs ds → DpAll K H vs ds
  | _, _, .nil => .nil
  | _, _, .cons h t => .cons h.dp t.dp
end
theorem ne_same {K : PySem.W.Frag} {H : Hp} {x y : V} {d : PyData} {Q : VK} (hx : Dp K H x d) (hy : Dp K H y d) (sh : SeqAt.shaped d = true) (q : Q (.bl false) H) : rNeD K x y H Q := by
  refine ⟨d, d, hx, hy, sh, sh, ?_⟩
  rw [SeqAt.eqv_refl d (SeqAt.canLay_of_shaped sh)]
  exact q
theorem eq_same {K : PySem.W.Frag} {H : Hp} {x y : V} {d : PyData} {Q : VK} (hx : Dp K H x d) (hy : Dp K H y d) (sh : SeqAt.shaped d = true) (q : Q (.bl true) H) : rEqD K x y H Q := by
  refine ⟨d, d, hx, hy, sh, sh, ?_⟩
  rw [SeqAt.eqv_refl d (SeqAt.canLay_of_shaped sh)]
  exact q
theorem lay_words (ws : List Wd) : PyData.canLayAll0 (ws.map wD) = true := by
  induction ws with
  | nil => rfl
  | cons w r ih =>
    show (PyData.canLay0 (wD w) && PyData.canLayAll0 (r.map wD)) = true
    rw [ih]
    rfl
theorem depth_words (ws : List Wd) : PyData.depthAll (ws.map wD) ≤ 2 := by
  induction ws with
  | nil => exact Nat.zero_le _
  | cons w r ih =>
    show max (PyData.depth (wD w)) (PyData.depthAll (r.map wD)) ≤ 2
    exact Nat.max_le.mpr ⟨Nat.le_of_lt (show 1 < 2 by decide), ih⟩
theorem sh_words (ws : List Wd) : SeqAt.shaped (.tuple (ws.map wD)) = true := by
  unfold SeqAt.shaped
  rw [Bool.and_eq_true]
  refine ⟨lay_words ws, decide_eq_true ?_⟩
  have := depth_words ws
  show PyData.depthAll (ws.map wD) + 1 ≤ 64
  omega
/-- a[:j] -/
theorem sl_to {K : PySem.W.Frag} {H : Hp} {a : Addr} {xs : List V} {ds : List PyData} {Q : VK} {j : Nat} (h : H a = some (.tup xs)) (t : TkAll H xs ds) (hj : j ≤ ds.length) (q : ∀ v H', Same H H' → Tk H' v (.tuple (ds.take j)) → Q v H') : rSlA K (.ref a) none (some (j : Int)) H Q := by
  have ln := t.length
  refine ⟨a, xs, rfl, SqT.of h, fun z => ?_, fun _ p np => ?_⟩
  · have e : min j xs.length = xs.length := by
      have := z.2
      rw [HT.sIx_nat] at this
      exact this
    refine q _ _ (Same.refl _) ?_
    rw [List.take_of_length_le (by omega)]
    exact .tup h t
  · rw [cutV_to (by omega)]
    exact q _ _ (same_upd np) (.tup upd_same ((tk_take t j).same (same_upd np)))
where
  tk_take {H : Hp} : ∀ {xs : List V} {ds : List PyData}, TkAll H xs ds → ∀ j, TkAll H (xs.take j) (ds.take j)
    | _, _, _, 0 => by rw [List.take_zero, List.take_zero]; exact .nil
    | _, _, .nil, j + 1 => .nil
    | _, _, .cons a r, j + 1 => .cons a (tk_take r j)
theorem tk_drop {H : Hp} : ∀ {xs : List V} {ds : List PyData}, TkAll H xs ds → ∀ j, TkAll H (xs.drop j) (ds.drop j)
  | _, _, t, 0 => t
  | _, _, .nil, j + 1 => .nil
  | _, _, .cons a r, j + 1 => tk_drop r j
/-- a[j:] -/
theorem sl_from {K : PySem.W.Frag} {H : Hp} {a : Addr} {xs : List V} {ds : List PyData} {Q : VK} {j : Nat} (h : H a = some (.tup xs)) (t : TkAll H xs ds) (hj : j ≤ ds.length) (q : ∀ v H', Same H H' → Tk H' v (.tuple (ds.drop j)) → Q v H') : rSlA K (.ref a) (some (j : Int)) none H Q := by
  have ln := t.length
  refine ⟨a, xs, rfl, SqT.of h, fun z => ?_, fun _ p np => ?_⟩
  · have e : min j xs.length = 0 := by
      have := z.1
      rw [HT.sIx_nat] at this
      exact this
    refine q _ _ (Same.refl _) ?_
    by_cases h0 : j = 0
    · rw [h0, List.drop_zero]
      exact .tup h t
    · rw [List.drop_of_length_le (by omega)]
      have hx : xs.length = 0 := by omega
      cases List.eq_nil_of_length_eq_zero hx
      exact .tup h .nil
  · rw [cutV_from (by omega)]
    exact q _ _ (same_upd np) (.tup upd_same ((tk_drop t j).same (same_upd np)))
/-- a[:-1] -/
theorem sl_but {K : PySem.W.Frag} {H : Hp} {a : Addr} {xs : List V} {ds : List PyData} {Q : VK} (h : H a = some (.tup xs)) (t : TkAll H xs ds) (hj : 1 ≤ ds.length) (q : ∀ v H', Same H H' → Tk H' v (.tuple (ds.take (ds.length - 1))) → Q v H') : rSlA K (.ref a) none (some (-1)) H Q := by
  have ln := t.length
  have e1 : HT.sIx xs.length xs.length (some (-1)) = xs.length - 1 := by
    show (if (-1 : Int) < 0 then ((-1 : Int) + (xs.length : Int)).toNat else min (-1 : Int).toNat xs.length) = _
    rw [if_pos (by decide)]
    omega
  refine ⟨a, xs, rfl, SqT.of h, fun z => ?_, fun _ p np => ?_⟩
  · have := z.2
    rw [e1] at this
    omega
  · have e : cutV xs none (some (-1)) = xs.take (xs.length - 1) := by
      unfold cutV
      rw [HT.sIx_none, e1, List.drop_zero]
      rfl
    rw [e, ln]
    exact q _ _ (same_upd np) (.tup upd_same ((sl_to.tk_take t _).same (same_upd np)))
/-- a + b -/
theorem cat_tk {K : PySem.W.Frag} {H : Hp} {x y : V} {ds es : List PyData} {Q : VK} (hx : Tk H x (.tuple ds)) (hy : Tk H y (.tuple es)) (sm : ds.length + es.length ≤ 1000) (q : ∀ v H', Same H H' → Tk H' v (.tuple (ds ++ es)) → Q v H') : rCatA K x y H Q := by
  obtain ⟨a, xs, rfl, ha, ta⟩ := hx.tup_inv
  obtain ⟨b, ys, rfl, hb, tb⟩ := hy.tup_inv
  have l1 := ta.length
  have l2 := tb.length
  refine ⟨a, b, xs, ys, rfl, rfl, SqT.of ha, SqT.of hb, Nat.le_trans (show xs.length + ys.length ≤ 1000 by omega) (by decide), fun e => ?_, fun _ e => ?_, fun _ _ p np => ?_⟩
  · subst e
    have : ds = [] := List.eq_nil_of_length_eq_zero l1.symm
    rw [this] at q
    exact q _ _ (Same.refl _) hy
  · subst e
    have : es = [] := List.eq_nil_of_length_eq_zero l2.symm
    rw [this, List.append_nil] at q
    exact q _ _ (Same.refl _) hx
  · exact q _ _ (same_upd np) (.tup upd_same ((ta.append tb).same (same_upd np)))
theorem Tk.tup_of {H : Hp} {v : V} {ds : List PyData} (h : Tk H v (.tuple ds)) : ∃ a xs, v = .ref a ∧ H a = some (.tup xs) ∧ TkAll H xs ds := h.tup_inv
theorem tk_last {H : Hp} {α : Type} {f : α → PyData} {l : List α} {x : α} {xs : List V} (t : TkAll H xs ((l ++ [x]).map f)) : ∃ v, atI xs (-1) = some v ∧ Tk H v (f x) := by
  have ln := t.length
  rw [List.length_map, List.length_append, List.length_singleton] at ln
  obtain ⟨v, hv, tv⟩ := t.at' (j := l.length) (x := x) (by simp)
  have hne : xs ≠ [] := fun z => by rw [z] at ln; simp at ln
  refine ⟨v, ?_, tv⟩
  rw [← List.dropLast_concat_getLast hne, atI_last]
  have : xs.getLast hne = v := by
    rw [List.getLast_eq_getElem]
    have h2 := List.getElem?_eq_some_iff.mp hv
    obtain ⟨h3, h4⟩ := h2
    rw [← h4]
    congr 1
    omega
  rw [this]
def rp1 (x : Str) : Str := Txt.replace x (Str.ofString "0") (Str.ofString "2")
def rp2 (x : Str) : Str := Txt.replace x (Str.ofString "1") (Str.ofString "0")
def rp3 (x : Str) : Str := Txt.replace x (Str.ofString "2") (Str.ofString "1")
def rpOk (bs : List Bool) : Bool := decide ((tabOf bs).length ≤ 8) && (decide ((rp1 (tabOf bs)).length ≤ 8) && (decide ((rp2 (rp1 (tabOf bs))).length ≤ 8) && decide (rp3 (rp2 (rp1 (tabOf bs))) = tabOf (bs.map not))))
theorem rp_2 : ∀ a b : Bool, rpOk [a, b] = true := by decide +kernel
theorem rp_4 : ∀ a b c d : Bool, rpOk [a, b, c, d] = true := by decide +kernel
theorem rp_8 : ∀ a b c d e f g h : Bool, rpOk [a, b, c, d, e, f, g, h] = true := by decide +kernel
theorem rp_ok {bs : List Bool} {k : Nat} (h : bs.length = 2 ^ k) (k1 : 1 ≤ k) (k3 : k ≤ 3) : (tabOf bs).length ≤ 8 ∧ (rp1 (tabOf bs)).length ≤ 8 ∧ (rp2 (rp1 (tabOf bs))).length ≤ 8 ∧ rp3 (rp2 (rp1 (tabOf bs))) = tabOf (bs.map not) := by
  have z : rpOk bs = true := by
    have : k = 1 ∨ k = 2 ∨ k = 3 := by omega
    rcases this with rfl | rfl | rfl
    · match bs, h with
      | [a, b], _ => exact rp_2 a b
    · match bs, h with
      | [a, b, c, d], _ => exact rp_4 a b c d
    · match bs, h with
      | [a, b, c, d, e, f, g, h], _ => exact rp_8 a b c d e f g h
  unfold rpOk at z
  rw [Bool.and_eq_true, Bool.and_eq_true, Bool.and_eq_true, decide_eq_true_eq, decide_eq_true_eq, decide_eq_true_eq, decide_eq_true_eq] at z
  exact z
theorem no_part {σ : L2.St} {H : Hp} {Q : Option Int → Hp → Prop} (h : Q none H) : tNoPart σ H Q := h

end Gk

set_option Elab.async false
set_option linter.all false
set_option maxRecDepth 100000
set_option maxHeartbeats 1000000
namespace Gk
open PySem PySem.Spec PyProof.Rows L2
section
variable {P : Program} {w : World} {K : PySem.W.Frag} {mg : Str → Option Value} {base : Heap}
def sp_right (K : PySem.W.Frag) (Pt : Addr) : Sp := fun vs H Q _ => ∃ (d l : Addr) (n : Int) (nv cv : V) (m : Nat) (gs : List Gt) (a b : List Int), vs = [.ref d, nv, cv] ∧ DeckB H d l n ∧ n < 100000 ∧ Tk H nv (netD m gs) ∧ Tk H cv (chD a b) ∧ a.length = m ∧ b.length = m ∧ Row01 a ∧ Row01 b ∧ 1 ≤ m ∧ m ≤ 6 ∧ 1 ≤ gs.length ∧ gs.length ≤ 40 ∧ NetOk m gs ∧ GxR.TabG H Pt ∧
  ∀ H', DeckB H' d l (n + 10) → GxR.TabG H' Pt → Q (.bl true) H'
theorem ok_right (T : Tx K mg) (B : Tb base T) : FnOk P w K mg base CX0 6 T.f_right T.fd_right ["_law_deck_here", "_law_net", "_law_change_here"] (sp_right K T.P_words_of) := by
  refine T.F_right.ok sc_right (fun vs H Q E h => ?_) (fun cdv A outer s H vs Q E hr h => ?_)
  · obtain ⟨d, l, n, nv, cv, m, gs, a, b, rfl, _⟩ := h
    rfl
  · obtain ⟨d, l, n, nv, cv, m, gs, a, b, rfl, D, hn, tn, tc, la, lb, ha, hb, m1, m6, g1, g40, ok, tab, q⟩ := h
    refine ⟨_, (pss_cons (ps_asg (pv 1) (pg_tup rfl (pgs_cons (pg_name (i := 3) sc_right.nd rfl (by first | exact .inl rfl | exact .inr rfl)) (pgs_cons (pg_name (i := 4) sc_right.nd rfl (by first | exact .inl rfl | exact .inr rfl)) pgs_nil)))) (pss_cons (ps_asg (pv 2) (pg_tup rfl (pgs_cons (pg_name (i := 5) sc_right.nd rfl (by first | exact .inl rfl | exact .inr rfl)) (pgs_cons (pg_name (i := 6) sc_right.nd rfl (by first | exact .inl rfl | exact .inr rfl)) pgs_nil)))) (pss_cons (ps_set (i := 7) sc_right.nd rfl (by first | exact .inl rfl | exact .inr rfl) (pe_call (ok_words_of T B) (hr.mono (by decide)) (by rfl) T.g_words_of T.F_words_of.kp T.b_words_of .nil pass0 (pa_cons (pv 1) (pa_cons (pv 2) pa_nil)))) (pss_cons (ps_if (pt_cut (pw_or (pt_cmpR (op_neD hr.units) (pe_lc (own := [("_law_word", 16)]) (by rfl) sc_right.nd (pi_tup (pv 7)) (blkOk_by (own := [("_law_word", 16)]) (N := ["_law_deck_here", "_law_net", "_law_change_here", "_law_many", "_law_gates", "_law_one", "_law_other", "_law_words", "_law_cut", "_law_about", "_law_first", "_law_last", "_law_fro", "_law_due", "_law_at", "_law_more_here", "_law_word", "_law_worth"]) (sc := defScope s_right) (by decide +kernel)) (fun _ _ _ _ _ => (pg_name (i := 16) sc_right.nd rfl (by first | exact .inl rfl | exact .inr rfl))) (fun _ _ _ _ _ => pts_nil) (fun _ _ _ _ _ => (pe_ix (show IxR _ (rIxT K) from ix_tup) (pv 16) pe_int (fun _ _ => rfl)))) (pe_call (ok_settled T) (hr.mono (by decide)) (by rfl) T.g_settled T.F_settled.kp T.b_settled .nil pass0 (pa_cons (pv 1) (pa_cons (pv 5) pa_nil))) (nomark _)) (pw_or1 (pt_cmpR (op_neD hr.units) (pe_lc (own := [("_law_word", 16)]) (by rfl) sc_right.nd (pi_tup (pv 7)) (blkOk_by (own := [("_law_word", 16)]) (N := ["_law_deck_here", "_law_net", "_law_change_here", "_law_many", "_law_gates", "_law_one", "_law_other", "_law_words", "_law_cut", "_law_about", "_law_first", "_law_last", "_law_fro", "_law_due", "_law_at", "_law_more_here", "_law_word", "_law_worth"]) (sc := defScope s_right) (by decide +kernel)) (fun _ _ _ _ _ => (pg_name (i := 16) sc_right.nd rfl (by first | exact .inl rfl | exact .inr rfl))) (fun _ _ _ _ _ => pts_nil) (fun _ _ _ _ _ => (pe_ix (show IxR _ (rIxT K) from ix_tup) (pv 16) pe_int (fun _ _ => rfl)))) (pe_call (ok_settled T) (hr.mono (by decide)) (by rfl) T.g_settled T.F_settled.kp T.b_settled .nil pass0 (pa_cons (pv 1) (pa_cons (pv 6) pa_nil))) (nomark _)))).pt) (pss_one (ps_ret pe_bl)) pss_nil) (pss_cons (ps_if (pt_cut (pt_cmpR (op_neD hr.units) (pe_call (ok_words_of T B) (hr.mono (by decide)) (by rfl) T.g_words_of T.F_words_of.kp T.b_words_of .nil pass0 (pa_cons (pv 1) (pa_cons (pe_tup (pa_cons (pv 6) (pa_cons (pv 5) pa_nil))) pa_nil))) (pe_callTy call_tuple_of (by rfl) T.m_tuple (by decide +kernel) (pa_cons (pe_lc (own := [("_law_first", 10), ("_law_last", 11), ("_law_fro", 12)]) (by rfl) sc_right.nd (pi_tup (pv 7)) (blkOk_by (own := [("_law_first", 10), ("_law_last", 11), ("_law_fro", 12)]) (N := ["_law_deck_here", "_law_net", "_law_change_here", "_law_many", "_law_gates", "_law_one", "_law_other", "_law_words", "_law_cut", "_law_about", "_law_first", "_law_last", "_law_fro", "_law_due", "_law_at", "_law_more_here", "_law_word", "_law_worth"]) (sc := defScope s_right) (by decide +kernel)) (fun _ _ _ _ _ => (show PG _ _ (gTup K 3 _) from pg_tup rfl (pgs_cons (pg_name (i := 10) sc_right.nd rfl (by first | exact .inl rfl | exact .inr rfl)) (pgs_cons (pg_name (i := 11) sc_right.nd rfl (by first | exact .inl rfl | exact .inr rfl)) (pgs_cons (pg_name (i := 12) sc_right.nd rfl (by first | exact .inl rfl | exact .inr rfl)) pgs_nil))))) (fun _ _ _ _ _ => pts_nil) (fun _ _ _ _ _ => (pe_tup (pa_cons (pv 11) (pa_cons (pv 10) (pa_cons (pv 12) pa_nil)))))) pa_nil)) (nomark _))) (pss_one (ps_ret pe_bl)) pss_nil) (pss_cons (ps_if (pt_cut (pt_cmpR (op_neD hr.units) (pe_call (ok_words_of T B) (hr.mono (by decide)) (by rfl) T.g_words_of T.F_words_of.kp T.b_words_of .nil pass0 (pa_cons (pv 1) (pa_cons (pe_tup (pa_cons (pv 5) (pa_cons (pv 5) pa_nil))) pa_nil))) (pe_callTy call_tuple_of (by rfl) T.m_tuple (by decide +kernel) (pa_cons (pe_lc (own := [("_law_worth", 17)]) (by rfl) sc_right.nd (pi_list (pe_call (ok_settled T) (hr.mono (by decide)) (by rfl) T.g_settled T.F_settled.kp T.b_settled .nil pass0 (pa_cons (pv 1) (pa_cons (pv 5) pa_nil)))) (blkOk_by (own := [("_law_worth", 17)]) (N := ["_law_deck_here", "_law_net", "_law_change_here", "_law_many", "_law_gates", "_law_one", "_law_other", "_law_words", "_law_cut", "_law_about", "_law_first", "_law_last", "_law_fro", "_law_due", "_law_at", "_law_more_here", "_law_word", "_law_worth"]) (sc := defScope s_right) (by decide +kernel)) (fun _ _ _ _ _ => (pg_name (i := 17) sc_right.nd rfl (by first | exact .inl rfl | exact .inr rfl))) (fun _ _ _ _ _ => pts_nil) (fun _ _ _ _ _ => (pe_tup (pa_cons (pv 17) (pa_cons (pv 17) (pa_cons pe_bl pa_nil)))))) pa_nil)) (nomark _))) (pss_one (ps_ret pe_bl)) pss_nil) (pss_cons (ps_set (i := 8) sc_right.nd rfl (by first | exact .inl rfl | exact .inr rfl) (pe_op op_add pe_int (pe_call (ok_draw T) (hr.mono (by decide)) (by rfl) T.g_draw T.F_draw.kp T.b_draw .nil pass0 (pa_cons (pv 0) (pa_cons (pe_callB call_len_seq (by rfl) T.m_len PySem.boot_len (pa_cons (pv 4) pa_nil)) pa_nil))))) (pss_cons (ps_if (pt_cut (pt_cmpR (op_neD hr.units) (pe_call (ok_words_of T B) (hr.mono (by decide)) (by rfl) T.g_words_of T.F_words_of.kp T.b_words_of .nil pass0 (pa_cons (pe_tup (pa_cons (pv 3) (pa_cons (pe_slice sl_tupA (pv 4) po_none (po_some (pv 8))) pa_nil))) (pa_cons (pv 2) pa_nil))) (pe_slice sl_tupA (pv 7) po_none (po_some (pe_op op_add (pv 3) (pv 8)))) (nomark _))) (pss_one (ps_ret pe_bl)) pss_nil) (pss_cons (ps_set (i := 9) sc_right.nd rfl (by first | exact .inl rfl | exact .inr rfl) (CwR.pe_replP (CwR.pep_repl (CwR.pep_repl (CwR.pep_repl (CwR.pep_ix ix_tup (pe_ix ix_tup (pv 4) (pe_un un_neg pe_int) (fun _ _ => rfl)) (fun _ _ => rfl))))))) (pss_cons (ps_asg (pe_ix ix_tup (pv 7) (pe_un un_neg pe_int) (fun _ _ => rfl)) (pg_tup rfl (pgs_cons (pg_name (i := 10) sc_right.nd rfl (by first | exact .inl rfl | exact .inr rfl)) (pgs_cons (pg_name (i := 11) sc_right.nd rfl (by first | exact .inl rfl | exact .inr rfl)) (pgs_cons (pg_name (i := 12) sc_right.nd rfl (by first | exact .inl rfl | exact .inr rfl)) pgs_nil))))) (pss_cons (ps_set (i := 13) sc_right.nd rfl (by first | exact .inl rfl | exact .inr rfl) (pe_op op_catA (pe_slice sl_tupA (pv 7) po_none (po_some (pe_un un_neg pe_int))) (pe_tup (pa_cons (pe_tup (pa_cons (pe_op op_sub pe_int (pv 10)) (pa_cons (pe_op op_sub pe_int (pv 11)) (pa_cons (pv 12) pa_nil)))) pa_nil)))) (pss_cons (ps_if (pt_cut (pt_cmpR (op_neD hr.units) (pe_call (ok_words_of T B) (hr.mono (by decide)) (by rfl) T.g_words_of T.F_words_of.kp T.b_words_of .nil pass0 (pa_cons (pe_tup (pa_cons (pv 3) (pa_cons (pe_op op_catA (pe_slice sl_tupA (pv 4) po_none (po_some (pe_un un_neg pe_int))) (pe_tup (pa_cons (pe_tup (pa_cons (pv 9) (pa_cons (pe_ix ix_tup (pe_ix ix_tup (pv 4) (pe_un un_neg pe_int) (fun _ _ => rfl)) pe_int (fun _ _ => rfl)) pa_nil))) pa_nil))) pa_nil))) (pa_cons (pv 2) pa_nil))) (pv 13) (nomark _))) (pss_one (ps_ret pe_bl)) pss_nil) (pss_cons (ps_set (i := 14) sc_right.nd rfl (by first | exact .inl rfl | exact .inr rfl) (pe_call (ok_draw T) (hr.mono (by decide)) (by rfl) T.g_draw T.F_draw.kp T.b_draw .nil pass0 (pa_cons (pv 0) (pa_cons (pe_op op_add (pv 3) pe_int) pa_nil)))) (pss_cons (ps_set (i := 15) sc_right.nd rfl (by first | exact .inl rfl | exact .inr rfl) (pe_tup (pa_cons (pe_op op_catA (pe_op op_catA (pe_slice sl_tupA (pv 5) po_none (po_some (pv 14))) (pe_tup (pa_cons pe_int pa_nil))) (pe_slice sl_tupA (pv 5) (po_some (pv 14)) po_none)) (pa_cons (pe_op op_catA (pe_op op_catA (pe_slice sl_tupA (pv 6) po_none (po_some (pv 14))) (pe_tup (pa_cons (pe_call (ok_draw T) (hr.mono (by decide)) (by rfl) T.g_draw T.F_draw.kp T.b_draw .nil pass0 (pa_cons (pv 0) (pa_cons pe_int pa_nil))) pa_nil))) (pe_slice sl_tupA (pv 6) (po_some (pv 14)) po_none)) pa_nil)))) (pss_one (ps_ret (pe_or (pe_cmpR op_gt (pv 3) pe_int (nomark _)) (pe_one (pe_cmpR (op_eqD hr.units) (pe_slice sl_tupA (pe_call (ok_words_of T B) (hr.mono (by decide)) (by rfl) T.g_words_of T.F_words_of.kp T.b_words_of .nil pass0 (pa_cons (pe_call (ok_more T) (hr.mono (by decide)) (by rfl) T.g_more T.F_more.kp T.b_more .nil pass0 (pa_cons (pv 1) (pa_cons (pv 14) pa_nil))) (pa_cons (pv 15) pa_nil))) (po_some (pe_op op_add (pv 3) pe_int)) po_none) (pe_slice sl_tupA (pv 7) (po_some (pv 3)) po_none) (nomark _)))))))))))))))))))), ?_⟩
    obtain ⟨c, ra, rb, rfl, hc, hra, hrb⟩ := tc.ch_inv
    obtain ⟨nn, g, xs, rfl, hnn, hg, tg⟩ := tn.net_inv
    refine ⟨.ref nn, rfl, nn, _, rfl, SqT.of hnn, rfl, _, _, rfl, _, _, rfl, rfl, ?_⟩
    refine ⟨.ref c, rfl, c, _, rfl, SqT.of hc, rfl, _, _, rfl, _, _, rfl, rfl, ?_⟩
    refine ⟨.ref nn, rfl, .ref c, rfl, .ref nn, .ref c, m, gs, a, b, rfl, tn, tc, by omega, ha, hb, by omega, by omega, (by rw [la]; exact ok), tab, fun W H1 gr1 tw1 => ?_⟩
    have tn1 := tn.gr gr1
    have tc1 := tc.gr gr1
    have D1 := D.gr gr1
    have tab1 := gr1.2 _ tab
    have hra1 := gr1.tup hra
    have hrb1 := gr1.tup hrb
    have hg1 := gr1.tup hg
    have tg1 := tg.gr gr1
    obtain ⟨W', wx, e, hW1, twx⟩ := tw1.tup_inv
    cases e
    generalize hws : wordsM gs (w0M a b) = ws at tw1 twx
    have wok : ∀ x ∈ ws, Wok x := by rw [← hws]; exact wordsM_ok gs _ (w0_ok ha hb)
    have wlen : ws.length = m + gs.length := by rw [← hws, wordsM_len, w0_len (by omega), la]
    have wxl : wx.length = ws.length := by rw [twx.length, List.length_map]
    have tra : ∀ {H'}, Ts H1 H' → Tk H' (.ref ra) (rowD a) := fun t => .tup (t _ _ hra1) (TkAll.ints _)
    have trb : ∀ {H'}, Ts H1 H' → Tk H' (.ref rb) (rowD b) := fun t => .tup (t _ _ hrb1) (TkAll.ints _)
    show tSeq _ _ _ [some (.ref d), some (.ref nn), some (.ref c), some (.int m), some (.ref g), some (.ref ra), some (.ref rb), some (.ref W), none, none, none, none, none, none, none, none, none, none] H1
    -- the firsts, the lasts
    refine ⟨fun z H' => z = false ∧ DeckB H' d l n ∧ GxR.TabG H' T.P_words_of ∧ Ts H1 H', ?_, ?_⟩
    · refine ⟨.ref W, rfl, W, rfl, ⟨_, SqT.of hW1⟩, fun D0 n0 => ?_⟩
      refine lc_tup (K := K) (a := W) (xs := wx) (fun j H' => Same H1 (hd1 D0 H') ∧ H' D0 = some (.lst (((ws.map (·.1)).take j).map V.int))) ⟨hd1_of (same_upd n0) n0, upd_same⟩ (fun j H' _ hP => SqT.of (hd1_le _ _ (hP.1 _ _ hW1))) ?_ ?_
      · rintro j v H2 hv ⟨s2, h2⟩
        obtain ⟨x, p, hx, rfl, hp⟩ := words_at twx hv
        refine ⟨rfl, .ref p, rfl, p, _, 0, .int x.1, rfl, rfl, SqT.of (hd1_le _ _ (s2 _ _ hp)), rfl, _, h2, ?_, s2.trans hd1_upd, ?_⟩
        · rw [List.length_map, List.length_take, List.length_map]
          exact Nat.lt_of_lt_of_le (show min j ws.length < 64 by omega) (by decide)
        · rw [upd_same, List.take_add_one, List.getElem?_map, hx, List.map_append]
          rfl
      rintro H2 ⟨s2, h2⟩
      have s12 : Same H1 H2 := fun b o e => hd1_le _ _ (s2 _ _ e)
      rw [wxl, List.take_of_length_le (by rw [List.length_map]; exact Nat.le_refl _)] at h2
      refine ⟨.ref nn, rfl, .ref ra, rfl, .ref nn, .ref ra, m, gs, a, rfl, tn1.same s12, tra (Ts.same s12), ha, by omega, by omega, (by rw [la]; exact ok), fun r H3 s3 hr3 => ?_⟩
      have e1 : ws.map (·.1) = settledM gs a := by rw [← hws, words_fst, w0_fst (by omega)]
      refine ne_same (d := .list ((settledM gs a).map .int)) (.lst (SqL.of (by rw [← e1]; exact s3 _ _ h2)) (dpInts _)) (.lst (SqL.of hr3) (dpInts _)) (shInts _) ⟨_, rfl, iteF ?_⟩
      have s13 := s12.trans s3
      refine ⟨.ref W, rfl, W, rfl, ⟨_, SqT.of (s13 _ _ hW1)⟩, fun D4 n4 => ?_⟩
      refine lc_tup (K := K) (a := W) (xs := wx) (fun j H' => Same H3 (hd1 D4 H') ∧ H' D4 = some (.lst (((ws.map (·.2.1)).take j).map V.int))) ⟨hd1_of (same_upd n4) n4, upd_same⟩ (fun j H' _ hP => SqT.of (hd1_le _ _ (hP.1 _ _ (s13 _ _ hW1)))) ?_ ?_
      · rintro j v H4 hv ⟨s4, h4⟩
        obtain ⟨x, p, hx, rfl, hp⟩ := words_at twx hv
        refine ⟨rfl, .ref p, rfl, p, _, 1, .int x.2.1, rfl, rfl, SqT.of (hd1_le _ _ (s4 _ _ (s13 _ _ hp))), rfl, _, h4, ?_, s4.trans hd1_upd, ?_⟩
        · rw [List.length_map, List.length_take, List.length_map]
          exact Nat.lt_of_lt_of_le (show min j ws.length < 64 by omega) (by decide)
        · rw [upd_same, List.take_add_one, List.getElem?_map, hx, List.map_append]
          rfl
      rintro H4 ⟨s4, h4⟩
      have s34 : Same H3 H4 := fun b o e => hd1_le _ _ (s4 _ _ e)
      have s14 := s13.trans s34
      rw [wxl, List.take_of_length_le (by rw [List.length_map]; exact Nat.le_refl _)] at h4
      refine ⟨.ref nn, rfl, .ref rb, rfl, .ref nn, .ref rb, m, gs, b, rfl, tn1.same s14, trb (Ts.same s14), hb, by omega, by omega, (by rw [lb]; exact ok), fun r5 H5 s5 hr5 => ?_⟩
      have e2 : ws.map (·.2.1) = settledM gs b := by rw [← hws, words_snd, w0_snd (by omega)]
      refine ne_same (d := .list ((settledM gs b).map .int)) (.lst (SqL.of (by rw [← e2]; exact s5 _ _ h4)) (dpInts _)) (.lst (SqL.of hr5) (dpInts _)) (shInts _) ⟨_, rfl, rfl, D1.same (s14.trans s5), (Gr.of (s14.trans s5)).2 _ tab1, Ts.same (s14.trans s5)⟩
    rintro z H2 ⟨rfl, D2, tab2, t2⟩
    refine iteF ?_
    show tSeq _ _ _ [some (.ref d), some (.ref nn), some (.ref c), some (.int m), some (.ref g), some (.ref ra), some (.ref rb), some (.ref W), none, none, none, none, none, none, none, none, none, none] H2
    -- there and back
    refine ⟨fun z H' => z = false ∧ DeckB H' d l n ∧ GxR.TabG H' T.P_words_of ∧ Ts H1 H', ?_, ?_⟩
    · refine ⟨.ref nn, rfl, .ref rb, rfl, .ref ra, rfl, sl2, fun p np => ?_⟩
      have tp : Tk (upd H2 p (.tup [.ref rb, .ref ra])) (.ref p) (chD b a) := .tup upd_same (.cons (trb (t2.trans (Ts.new np))) (.cons (tra (t2.trans (Ts.new np))) .nil))
      refine ⟨.ref nn, .ref p, m, gs, b, a, rfl, tn1.ts (t2.trans (Ts.new np)) (noL_net _ _), tp, by omega, hb, ha, by omega, by omega, (by rw [lb]; exact ok), (Gr.none np).2 _ tab2, fun r H3 gr3 tr3 => ?_⟩
      have g23 : Gr H2 H3 := (Gr.none np).trans gr3
      have t3 : Ts H1 H3 := t2.trans (Ts.gr g23)
      have hW3 := t3 _ _ hW1
      refine ⟨.ref W, rfl, W, rfl, ⟨_, SqT.of hW3⟩, fun D4 n4 => ?_⟩
      refine lc_tup (K := K) (a := W) (xs := wx) (fun j H' => Same H3 (hd1 D4 H') ∧ ∃ acc, H' D4 = some (.lst acc) ∧ TkAll H' acc (((ws.take j).map rev).map wD)) ⟨hd1_of (same_upd n4) n4, [], upd_same, .nil⟩ (fun j H' _ hP => SqT.of (hd1_le _ _ (hP.1 _ _ hW3))) ?_ ?_
      · rintro j v H4 hv ⟨s4, acc, h4, ta⟩
        obtain ⟨x, p5, hx, rfl, hp5⟩ := words_at twx hv
        have hp4 : H4 p5 = some (.tup [.int x.1, .int x.2.1, .bl x.2.2]) := hd1_le _ _ (s4 _ _ (t3 _ _ hp5))
        have hj := (List.getElem?_eq_some_iff.mp hx).1
        refine ⟨p5, _, rfl, SqT.of hp4, rfl, _, _, rfl, _, _, rfl, _, _, rfl, rfl, rfl, ?_⟩
        refine ⟨.int x.2.1, rfl, .int x.1, rfl, .bl x.2.2, rfl, sl3, fun p6 n6 => ?_⟩
        have s6 := same_upd (o := HO.tup [V.int x.2.1, .int x.1, .bl x.2.2]) n6
        have h6 := s6 _ _ h4
        refine ⟨acc, h6, ?_, (s4.trans (hd1_same s6)).trans hd1_upd, acc ++ [.ref p6], upd_same, ?_⟩
        · have := ta.length
          rw [List.length_map, List.length_map, List.length_take] at this
          exact Nat.lt_of_lt_of_le (show acc.length < 64 by omega) (by decide)
        · rw [List.take_add_one, hx]
          show TkAll _ _ (((ws.take j ++ [x]).map rev).map wD)
          rw [List.map_append, List.map_append]
          have tx : Tk (upd H4 p6 (.tup [.int x.2.1, .int x.1, .bl x.2.2])) (.ref p6) (wD (rev x)) := .tup upd_same (.cons (.int _) (.cons (.int _) (.cons (.bl _) .nil)))
          exact (ta.ts ((Ts.same s6).trans (Ts.set h6)) (noL_words _)).append (.cons (tx.ts (Ts.set h6) rfl) .nil)
      rintro H4 ⟨s4, acc, h4, ta⟩
      have s34 : Same H3 H4 := fun b o e => hd1_le _ _ (s4 _ _ e)
      rw [wxl, List.take_length] at ta
      refine ⟨D4, acc, rfl, .inl ⟨SqL.of h4, fun l5 n5 => ?_⟩⟩
      have s5 := same_upd (o := HO.tup acc) n5
      have e1 : wordsM gs (w0M b a) = ws.map rev := by rw [w0_rev, words_rev _ _ (w0_ok ha hb), hws]
      rw [e1] at tr3
      have s35 := s34.trans s5
      refine ne_same (d := .tuple ((ws.map rev).map wD)) (tr3.same s35).dp (Tk.tup upd_same (ta.same s5)).dp (sh_words _) ⟨_, rfl, rfl, D2.gr (g23.trans (Gr.of s35)), (g23.trans (Gr.of s35)).2 _ tab2, t3.trans (Ts.same s35)⟩
    rintro z H3 ⟨rfl, D3, tab3, t3⟩
    refine iteF ?_
    show tSeq _ _ _ [some (.ref d), some (.ref nn), some (.ref c), some (.int m), some (.ref g), some (.ref ra), some (.ref rb), some (.ref W), none, none, none, none, none, none, none, none, none, none] H3
    clear D2 tab2 t2
    -- nothing changes
    refine ⟨fun z H' => z = false ∧ DeckB H' d l n ∧ GxR.TabG H' T.P_words_of ∧ Ts H1 H', ?_, ?_⟩
    · refine ⟨.ref nn, rfl, .ref ra, rfl, .ref ra, rfl, sl2, fun p np => ?_⟩
      have tp : Tk (upd H3 p (.tup [.ref ra, .ref ra])) (.ref p) (chD a a) := .tup upd_same (.cons (tra (t3.trans (Ts.new np))) (.cons (tra (t3.trans (Ts.new np))) .nil))
      refine ⟨.ref nn, .ref p, m, gs, a, a, rfl, tn1.ts (t3.trans (Ts.new np)) (noL_net _ _), tp, rfl, ha, ha, by omega, by omega, (by rw [la]; exact ok), (Gr.none np).2 _ tab3, fun r H4 gr4 tr4 => ?_⟩
      have g34 : Gr H3 H4 := (Gr.none np).trans gr4
      have t4 : Ts H1 H4 := t3.trans (Ts.gr g34)
      refine ⟨.ref nn, rfl, .ref ra, rfl, .ref nn, .ref ra, m, gs, a, rfl, tn1.ts t4 (noL_net _ _), tra t4, ha, by omega, by omega, (by rw [la]; exact ok), fun r5 H5 s5 hr5 => ?_⟩
      refine ⟨r5, rfl, ⟨_, SqL.of hr5⟩, fun D6 n6 => ?_⟩
      have sl := settledM_len gs a
      refine lc_list (K := K) (a := r5) (xs := (settledM gs a).map V.int) (fun j H' => Same H5 (hd1 D6 H') ∧ ∃ acc, H' D6 = some (.lst acc) ∧ TkAll H' acc ((((settledM gs a).take j).map still).map wD)) ⟨hd1_of (same_upd n6) n6, [], upd_same, .nil⟩ (fun j H' _ hP => SqL.of (hd1_le _ _ (hP.1 _ _ hr5))) ?_ ?_
      · rintro j v H6 hv ⟨s6, acc, h6, ta⟩
        rw [List.getElem?_map] at hv
        cases hx : (settledM gs a)[j]? with
        | none => rw [hx] at hv; cases hv
        | some x =>
          rw [hx] at hv
          cases Option.some.inj hv
          have hj := (List.getElem?_eq_some_iff.mp hx).1
          refine ⟨rfl, .int x, rfl, .int x, rfl, sl3, fun p7 n7 => ?_⟩
          have s7 := same_upd (o := HO.tup [V.int x, .int x, .bl false]) n7
          have h7 := s7 _ _ h6
          refine ⟨acc, h7, ?_, (s6.trans (hd1_same s7)).trans hd1_upd, acc ++ [.ref p7], upd_same, ?_⟩
          · have := ta.length
            rw [List.length_map, List.length_map, List.length_take] at this
            exact Nat.lt_of_lt_of_le (show acc.length < 64 by omega) (by decide)
          · rw [List.take_add_one, hx]
            show TkAll _ _ ((((settledM gs a).take j ++ [x]).map still).map wD)
            rw [List.map_append, List.map_append]
            have tx : Tk (upd H6 p7 (.tup [.int x, .int x, .bl false])) (.ref p7) (wD (still x)) := .tup upd_same (.cons (.int _) (.cons (.int _) (.cons (.bl _) .nil)))
            exact (ta.ts ((Ts.same s7).trans (Ts.set h7)) (noL_words _)).append (.cons (tx.ts (Ts.set h7) rfl) .nil)
      rintro H6 ⟨s6, acc, h6, ta⟩
      have s56 : Same H5 H6 := fun b o e => hd1_le _ _ (s6 _ _ e)
      rw [List.length_map, List.take_length] at ta
      refine ⟨D6, acc, rfl, .inl ⟨SqL.of h6, fun l7 n7 => ?_⟩⟩
      have s7 := same_upd (o := HO.tup acc) n7
      have e1 : wordsM gs (w0M a a) = (settledM gs a).map still := by rw [w0_still, words_still]
      rw [e1] at tr4
      have s47 := (s5.trans s56).trans s7
      refine ne_same (d := .tuple (((settledM gs a).map still).map wD)) (tr4.same s47).dp (Tk.tup upd_same (ta.same s7)).dp (sh_words _) ⟨_, rfl, rfl, D3.gr (g34.trans (Gr.of s47)), (g34.trans (Gr.of s47)).2 _ tab3, t4.trans (Ts.same s47)⟩
    rintro z H4 ⟨rfl, D4, tab4, t4⟩
    refine iteF ?_
    show tSeq _ _ _ [some (.ref d), some (.ref nn), some (.ref c), some (.int m), some (.ref g), some (.ref ra), some (.ref rb), some (.ref W), none, none, none, none, none, none, none, none, none, none] H4
    clear D3 tab3 t3
    have xl : xs.length = gs.length := by rw [tg.length, List.length_map]
    -- a part of the gates
    refine ⟨.ref d, rfl, .ref g, rfl, g, xs, rfl, .inr (SqT.of (t4 _ _ hg1)), d, l, xs.length, n, rfl, D4, by omega, by omega, by omega, fun H5 v D5 fr5 v0 v1 => ⟨_, _, rfl, rfl, ?_⟩⟩
    have t5 : Ts H1 H5 := t4.trans (Ts.fr D4 fr5)
    have tab5 : GxR.TabG H5 T.P_words_of := by
      obtain ⟨ps, e, tr⟩ := tab4
      obtain ⟨ne, cs, z, y, hd, hl, r⟩ := D4
      exact ⟨ps, fr5 _ _ (ne_of e hd (by intro z; cases z)) (ne_of e hl (by intro z; cases z)) e, tr⟩
    obtain ⟨k, hk, k1, k2⟩ : ∃ k : Nat, 1 + v = (k : Int) ∧ 1 ≤ k ∧ k ≤ gs.length := ⟨(1 + v).toNat, by omega, by omega, by omega⟩
    show tSeq _ _ _ [some (.ref d), some (.ref nn), some (.ref c), some (.int m), some (.ref g), some (.ref ra), some (.ref rb), some (.ref W), some (.int (1 + v)), none, none, none, none, none, none, none, none, none] H5
    rw [hk]
    refine ⟨fun z H' => z = false ∧ DeckB H' d l (n + 1) ∧ GxR.TabG H' T.P_words_of ∧ Ts H1 H', ?_, ?_⟩
    · refine ⟨.int m, rfl, .ref g, rfl, .int k, rfl, k, rfl, sl_to (K := K) (t5 _ _ hg1) (tg1.ts t5 (noL_gates gs)) (by rw [List.length_map]; exact k2) fun u H6 s6 tu => ?_⟩
      rw [← List.map_take] at tu
      refine ⟨sl2, fun p np => ?_⟩
      have t6 := t5.trans (Ts.same s6)
      have tp : Tk (upd H6 p (.tup [.int m, u])) (.ref p) (netD m (gs.take k)) := .tup upd_same (.cons (.int _) (.cons (tu.same (same_upd np)) .nil))
      refine ⟨.ref c, rfl, .ref p, .ref c, m, gs.take k, a, b, rfl, tp, tc1.ts (t6.trans (Ts.new np)) (noL_ch _ _), by omega, ha, hb, by omega, by rw [List.length_take]; omega, (by rw [la]; exact ok.take k), (Gr.of (s6.trans (same_upd np))).2 _ tab5, fun r H7 gr7 tr7 => ?_⟩
      have g57 : Gr H5 H7 := (Gr.of (s6.trans (same_upd np))).trans gr7
      have t7 := t5.trans (Ts.gr g57)
      refine ⟨.ref W, rfl, .int m, rfl, .int k, rfl, _, _, rfl, rfl, _, rfl, (show rSlA K (.ref W) none (some ((m + k : Nat) : Int)) H7 _ from sl_to (t7 _ _ hW1) (twx.ts t7 (noLs_map (fun _ => rfl) ws)) (by rw [List.length_map]; omega) fun u2 H8 s8 tu2 => ?_)⟩
      rw [← List.map_take] at tu2
      have e1 : wordsM (gs.take k) (w0M a b) = ws.take (m + k) := by rw [words_cut gs _ k2, hws, w0_len (by omega), la]
      rw [e1] at tr7
      exact ne_same (d := .tuple ((ws.take (m + k)).map wD)) (tr7.same s8).dp tu2.dp (sh_words _) ⟨_, rfl, rfl, D5.gr (g57.trans (Gr.of s8)), (g57.trans (Gr.of s8)).2 _ tab5, t7.trans (Ts.same s8)⟩
    rintro z H6 ⟨rfl, D6, tab6, t6⟩
    refine iteF ?_
    show tSeq _ _ _ [some (.ref d), some (.ref nn), some (.ref c), some (.int m), some (.ref g), some (.ref ra), some (.ref rb), some (.ref W), some (.int k), none, none, none, none, none, none, none, none, none] H6
    clear D4 tab4 t4 D5 tab5 t5
    -- the last gate turned about
    have gne : gs ≠ [] := fun z => by rw [z] at g1; simp at g1
    obtain ⟨gs0, gl, egs⟩ : ∃ gs0 gl, gs = gs0 ++ [gl] := ⟨gs.dropLast, gs.getLast gne, (List.dropLast_concat_getLast gne).symm⟩
    have gl0 : gs.length = gs0.length + 1 := by rw [egs, List.length_append]; rfl
    obtain ⟨o1, o2, o3, o4⟩ := ok gs0.length gl (by rw [egs]; simp)
    have tgl : TkAll H1 xs ((gs0 ++ [gl]).map gD) := by rw [← egs]; exact tg1
    obtain ⟨gv, hgv, tgv⟩ := tk_last tgl
    obtain ⟨gp, gi, rfl, hgp, hgi⟩ := tgv.gt_inv
    obtain ⟨r1, r2, r3, r4⟩ := rp_ok o1 o2 o3
    have big : ∀ {x z : Str}, x.length ≤ 8 → z.length = 1 → x.length + (x.length + 1) * z.length ≤ 16777216 := fun {x z} h1 h2 => by rw [h2]; omega
    refine ⟨.ref g, rfl, 1, rfl, g, xs, -1, .ref gp, rfl, rfl, SqT.of (t6 _ _ hg1), hgv, gp, _, 0, _, rfl, rfl, SqT.of (t6 _ _ hgp), rfl, _, rfl, big r1 rfl, _, rfl, big r2 rfl, _, rfl, big r3 rfl, ?_⟩
    show tSeq _ _ _ [some (.ref d), some (.ref nn), some (.ref c), some (.int m), some (.ref g), some (.ref ra), some (.ref rb), some (.ref W), some (.int k), some (.str (rp3 (rp2 (rp1 (tabOf gl.1))))), none, none, none, none, none, none, none, none] H6
    rw [r4]
    generalize hw0 : wordsM gs0 (w0M a b) = ws0
    have ews : ws = ws0 ++ [gwM gl.1 (pick ws0 gl.2)] := by rw [← hws, egs, wordsM_snoc, hw0]; rfl
    have w0ok : ∀ x ∈ ws0, Wok x := by rw [← hw0]; exact wordsM_ok gs0 _ (w0_ok ha hb)
    generalize hxw : gwM gl.1 (pick ws0 gl.2) = xw at ews
    have twl : TkAll H1 wx ((ws0 ++ [xw]).map wD) := by rw [← ews]; exact twx
    obtain ⟨wv, hwv, twv⟩ := tk_last twl
    obtain ⟨wp, rfl, hwp⟩ := wd_inv twv
    refine ⟨.ref W, rfl, 1, rfl, W, wx, -1, .ref wp, rfl, rfl, SqT.of (t6 _ _ hW1), hwv, wp, _, rfl, SqT.of (t6 _ _ hwp), rfl, _, _, rfl, _, _, rfl, _, _, rfl, rfl, ?_⟩
    show tSeq _ _ _ [some (.ref d), some (.ref nn), some (.ref c), some (.int m), some (.ref g), some (.ref ra), some (.ref rb), some (.ref W), some (.int k), some (.str (tabOf (gl.1.map not))), some (.int xw.1), some (.int xw.2.1), some (.bl xw.2.2), none, none, none, none, none] H6
    refine ⟨.ref W, rfl, 1, rfl, -1, rfl, sl_but (K := K) (t6 _ _ hW1) (twl.ts t6 (noLs_map (fun _ => rfl) _)) (by rw [List.length_map, List.length_append, List.length_singleton]; omega) fun u H7 s7 tu => ?_⟩
    have etk : ((ws0 ++ [xw]).map wD).take (((ws0 ++ [xw]).map wD).length - 1) = ws0.map wD := by
      rw [List.map_append, List.length_append]
      exact List.take_left' (by simp)
    rw [etk] at tu
    refine ⟨.int xw.1, rfl, _, _, rfl, rfl, .int xw.2.1, rfl, _, _, rfl, rfl, .bl xw.2.2, rfl, sl3, fun p1 n1 => ⟨sl1, fun p2 n2 => ?_⟩⟩
    have s72 := (same_upd (o := HO.tup [V.int (1 - xw.1), .int (1 - xw.2.1), .bl xw.2.2]) n1).trans (same_upd (o := HO.tup [V.ref p1]) n2)
    have tq : Tk (upd (upd H7 p1 (.tup [.int (1 - xw.1), .int (1 - xw.2.1), .bl xw.2.2])) p2 (.tup [.ref p1])) (.ref p2) (.tuple ([turnW xw].map wD)) := .tup upd_same (.cons (.tup (same_upd n2 _ _ upd_same) (.cons (.int _) (.cons (.int _) (.cons (.bl _) .nil)))) .nil)
    have w0l : ws0.length + 1 = m + gs.length := by rw [← wlen, ews, List.length_append]; rfl
    refine cat_tk (K := K) (tu.same s72) tq (by rw [List.length_map, List.length_map, List.length_singleton]; omega) fun du H8 s8 tdu => ?_
    rw [← List.map_append] at tdu
    have s68 := (s7.trans s72).trans s8
    have t8 := t6.trans (Ts.same s68)
    have D8 := D6.same s68
    have tab8 := (Gr.of s68).2 _ tab6
    have tduN : noL (.tuple ((ws0 ++ [turnW xw]).map wD)) = true := noL_words _
    show tSeq _ _ _ [some (.ref d), some (.ref nn), some (.ref c), some (.int m), some (.ref g), some (.ref ra), some (.ref rb), some (.ref W), some (.int k), some (.str (tabOf (gl.1.map not))), some (.int xw.1), some (.int xw.2.1), some (.bl xw.2.2), some du, none, none, none, none] H8
    refine ⟨fun z H' => z = false ∧ DeckB H' d l (n + 1) ∧ GxR.TabG H' T.P_words_of ∧ Ts H1 H', ?_, ?_⟩
    · refine ⟨.int m, rfl, .ref g, rfl, 1, rfl, -1, rfl, sl_but (K := K) (t8 _ _ hg1) (tgl.ts t8 (noL_gates _)) (by rw [List.length_map, List.length_append, List.length_singleton]; omega) fun u9 H9 s9 tu9 => ?_⟩
      have etg : ((gs0 ++ [gl]).map gD).take (((gs0 ++ [gl]).map gD).length - 1) = gs0.map gD := by
        rw [List.map_append, List.length_append]
        exact List.take_left' (by simp)
      rw [etg] at tu9
      have t9 := t8.trans (Ts.same s9)
      refine ⟨.str (tabOf (gl.1.map not)), rfl, .ref g, rfl, 1, rfl, g, xs, -1, .ref gp, rfl, rfl, SqT.of (t9 _ _ hg1), hgv, gp, _, 1, _, rfl, rfl, SqT.of (t9 _ _ hgp), rfl, sl2, fun q1 m1' => ⟨sl1, fun q2 m2 => ?_⟩⟩
      have s92 := (same_upd (o := HO.tup [V.str (tabOf (gl.1.map not)), .ref gi]) m1').trans (same_upd (o := HO.tup [V.ref q1]) m2)
      have tq2 : Tk (upd (upd H9 q1 (.tup [.str (tabOf (gl.1.map not)), .ref gi])) q2 (.tup [.ref q1])) (.ref q2) (.tuple ([((gl.1.map not, gl.2) : Gt)].map gD)) :=
        .tup upd_same (.cons (.tup (same_upd m2 _ _ upd_same) (.cons (.str _) (.cons (.tup (s92 _ _ (t9 _ _ hgi)) (TkAll.ints _)) .nil))) .nil)
      refine cat_tk (K := K) (tu9.same s92) tq2 (by rw [List.length_map, List.length_map, List.length_singleton]; omega) fun u10 H10 s10 tu10 => ?_
      rw [← List.map_append] at tu10
      refine ⟨sl2, fun p np => ?_⟩
      have s810 := ((s9.trans s92).trans s10).trans (same_upd (o := HO.tup [V.int m, u10]) np)
      have t10 := t8.trans (Ts.same s810)
      have tp : Tk (upd H10 p (.tup [.int m, u10])) (.ref p) (netD m (gs0 ++ [(gl.1.map not, gl.2)])) := .tup upd_same (.cons (.int _) (.cons (tu10.same (same_upd np)) .nil))
      have okN : NetOk m (gs0 ++ [((gl.1.map not, gl.2) : Gt)]) := by
        refine NetOk.snoc (fun j gg e => ok j gg ?_) ⟨by rw [List.length_map]; exact o1, o2, o3, o4⟩
        rw [egs, List.getElem?_append_left (List.getElem?_eq_some_iff.mp e).1]
        exact e
      refine ⟨.ref c, rfl, .ref p, .ref c, m, _, a, b, rfl, tp, tc1.ts t10 (noL_ch _ _), by omega, ha, hb, by omega, by rw [List.length_append, List.length_singleton]; omega, (by rw [la]; exact okN), (Gr.of s810).2 _ tab8, fun r H11 gr11 tr11 => ?_⟩
      have g811 : Gr H8 H11 := (Gr.of s810).trans gr11
      have e1 : wordsM (gs0 ++ [((gl.1.map not, gl.2) : Gt)]) (w0M a b) = ws0 ++ [turnW xw] := by
        rw [wordsM_snoc, hw0]
        unfold stepW
        rw [gw_not (pick_ok w0ok _) (by unfold pick; rw [List.length_map]; exact o1), hxw]
      rw [e1] at tr11
      refine ⟨du, rfl, ne_same (d := .tuple ((ws0 ++ [turnW xw]).map wD)) tr11.dp (tdu.gr g811).dp (sh_words _) ⟨_, rfl, rfl, D8.gr g811, g811.2 _ tab8, t8.trans (Ts.gr g811)⟩⟩
    rintro z H9 ⟨rfl, D9, tab9, t9⟩
    refine iteF ?_
    show tSeq _ _ _ [some (.ref d), some (.ref nn), some (.ref c), some (.int m), some (.ref g), some (.ref ra), some (.ref rb), some (.ref W), some (.int k), some (.str (tabOf (gl.1.map not))), some (.int xw.1), some (.int xw.2.1), some (.bl xw.2.2), some du, none, none, none, none] H9
    clear D6 tab6 t6 D8 tab8 t8
    -- one more input
    refine ⟨.ref d, rfl, .int m, rfl, _, _, rfl, rfl, d, l, _, n + 1, rfl, D9, by omega, by omega, by omega, fun H10 at_ D10 fr10 a0 a1 => ?_⟩
    obtain ⟨j, rfl⟩ := Int.eq_ofNat_of_zero_le a0
    have hj : j ≤ m := by omega
    have t10 : Ts H1 H10 := t9.trans (Ts.fr D9 fr10)
    have tab10 : GxR.TabG H10 T.P_words_of := by
      obtain ⟨ps, e, tr⟩ := tab9
      obtain ⟨ne, cs, z, y, hd, hl, r⟩ := D9
      exact ⟨ps, fr10 _ _ (ne_of e hd (by intro z; cases z)) (ne_of e hl (by intro z; cases z)) e, tr⟩
    have ja : j ≤ (a.map PyData.int).length := by rw [List.length_map]; omega
    have jb : j ≤ (b.map PyData.int).length := by rw [List.length_map]; omega
    refine ⟨.ref ra, rfl, .int (j : Int), rfl, (j : Int), rfl, sl_to (K := K) (t10 _ _ hra1) (TkAll.ints a) ja fun u1 H11 s11 tu1 => ?_⟩
    refine ⟨sl1, fun q1 nq1 => ?_⟩
    have tz1 : Tk (upd H11 q1 (.tup [.int 0])) (.ref q1) (.tuple ([(0 : Int)].map PyData.int)) := .tup upd_same (.cons (.int _) .nil)
    refine cat_tk (K := K) (tu1.same (same_upd nq1)) tz1 (by rw [List.length_take, List.length_map, List.length_map, List.length_singleton]; omega) fun u2 H12 s12 tu2 => ?_
    have t12 := t10.trans (Ts.same ((s11.trans (same_upd nq1)).trans s12))
    refine ⟨.ref ra, rfl, .int (j : Int), rfl, (j : Int), rfl, no_part (sl_from (K := K) (t12 _ _ hra1) (TkAll.ints a) ja fun u3 H13 s13 tu3 => ?_)⟩
    refine cat_tk (K := K) (tu2.same s13) tu3 (by rw [List.length_append, List.length_take, List.length_drop, List.length_map, List.length_map, List.length_singleton]; omega) fun u4 H14 s14 tu4 => ?_
    have ea : ((a.map PyData.int).take j ++ [(0 : Int)].map PyData.int) ++ (a.map PyData.int).drop j = (ins1 j 0 a).map PyData.int := by
      unfold ins1
      rw [List.map_append, List.map_append, List.map_take, List.map_drop]
    rw [ea] at tu4
    have s1014 := (((s11.trans (same_upd nq1)).trans s12).trans s13).trans s14
    have t14 := t10.trans (Ts.same s1014)
    have D14 := D10.same s1014
    have tab14 := (Gr.of s1014).2 _ tab10
    refine ⟨.ref rb, rfl, .int (j : Int), rfl, (j : Int), rfl, sl_to (K := K) (t14 _ _ hrb1) (TkAll.ints b) jb fun u5 H15 s15 tu5 => ?_⟩
    refine ⟨.ref d, rfl, d, l, 2, _, rfl, D14.same s15, by omega, by decide, by decide, fun H16 dr D16 fr16 d0 d1 => ⟨sl1, fun q2 nq2 => ?_⟩⟩
    have t1516 : Ts H15 H16 := Ts.fr (D14.same s15) fr16
    have tab16 : GxR.TabG H16 T.P_words_of := by
      obtain ⟨ps, e, tr⟩ := (Gr.of s15).2 _ tab14
      obtain ⟨ne, cs, z, y, hd, hl, r⟩ := D14.same s15
      exact ⟨ps, fr16 _ _ (ne_of e hd (by intro z; cases z)) (ne_of e hl (by intro z; cases z)) e, tr⟩
    have eb0 : (b.map PyData.int).take j = (b.take j).map PyData.int := by rw [List.map_take]
    rw [eb0] at tu5
    have tu5' := tu5.ts t1516 (noL_row _)
    have tz2 : Tk (upd H16 q2 (.tup [.int dr])) (.ref q2) (.tuple ([dr].map PyData.int)) := .tup upd_same (.cons (.int _) .nil)
    refine cat_tk (K := K) (tu5'.same (same_upd nq2)) tz2 (by rw [List.length_map, List.length_take, List.length_map, List.length_singleton]; omega) fun u6 H17 s17 tu6 => ?_
    have s1617 := (same_upd (o := HO.tup [V.int dr]) nq2).trans s17
    have t17 := ((t14.trans (Ts.same s15)).trans t1516).trans (Ts.same s1617)
    refine ⟨.ref rb, rfl, .int (j : Int), rfl, (j : Int), rfl, no_part (sl_from (K := K) (t17 _ _ hrb1) (TkAll.ints b) jb fun u7 H18 s18 tu7 => ?_)⟩
    refine cat_tk (K := K) (tu6.same s18) tu7 (by rw [List.length_append, List.length_map, List.length_take, List.length_drop, List.length_map, List.length_map, List.length_singleton]; omega) fun u8 H19 s19 tu8 => ?_
    have eb : ((b.take j).map PyData.int ++ [dr].map PyData.int) ++ (b.map PyData.int).drop j = (ins1 j dr b).map PyData.int := by
      unfold ins1
      rw [List.map_append, List.map_append, List.map_drop]
    rw [eb] at tu8
    refine ⟨sl2, fun mh nmh => ?_⟩
    have s1620 := ((s1617.trans s18).trans s19).trans (same_upd (o := HO.tup [u4, u8]) nmh)
    have t1420 : Ts H14 (upd H19 mh (.tup [u4, u8])) := ((Ts.same s15).trans t1516).trans (Ts.same s1620)
    have tmh : Tk (upd H19 mh (.tup [u4, u8])) (.ref mh) (chD (ins1 j 0 a) (ins1 j dr b)) := .tup upd_same (.cons ((show Tk H14 u4 (rowD (ins1 j 0 a)) from tu4).ts t1420 (noL_row _)) (.cons (tu8.same (same_upd nmh)) .nil))
    have t20 := t14.trans t1420
    have D20 := D16.same s1620
    have tab20 := (Gr.of s1620).2 _ tab16
    revert tmh t20 D20 tab20
    show _ → _ → _ → _ → tSeq _ _ _ [some (.ref d), some (.ref nn), some (.ref c), some (.int m), some (.ref g), some (.ref ra), some (.ref rb), some (.ref W), some (.int k), some (.str (tabOf (gl.1.map not))), some (.int xw.1), some (.int xw.2.1), some (.bl xw.2.2), some du, some (.int j), some (.ref mh), none, none] (upd H19 mh (.tup [u4, u8]))
    generalize upd H19 mh (.tup [u4, u8]) = H20
    intro tmh t20 D20 tab20
    refine ⟨.int m, rfl, _, _, rfl, rfl, _, rfl, ite2 (fun z => ?_) (fun z => ?_)⟩
    · exact q H20 (D20.mono (by omega)) tab20
    have hm5 : m ≤ 5 := by
      have z2 : ¬ ((5 : Int) < (m : Int)) := fun y => z (decide_eq_true y)
      omega
    refine ⟨.ref nn, rfl, .int (j : Int), rfl, .ref nn, m, gs, j, rfl, tn1.ts t20 (noL_net _ _), by omega, fun gg hgg => ?_, fun mn H21 s21 tmn => ?_⟩
    · obtain ⟨i, hi⟩ := List.getElem?_of_mem hgg
      exact (ok i gg hi).2.2.1
    have lia : (ins1 j 0 a).length = m + 1 := by
      unfold ins1
      rw [List.length_append, List.length_append, List.length_take, List.length_drop, List.length_singleton]
      omega
    have lib : (ins1 j dr b).length = m + 1 := by
      unfold ins1
      rw [List.length_append, List.length_append, List.length_take, List.length_drop, List.length_singleton]
      omega
    have ra01 : Row01 (ins1 j 0 a) := fun x hx => by
      rcases List.mem_append.mp hx with z | z
      · rcases List.mem_append.mp z with z | z
        · exact ha x (List.mem_of_mem_take z)
        · rw [List.mem_singleton.mp z]; exact .inl rfl
      · exact ha x (List.mem_of_mem_drop z)
    have rb01 : Row01 (ins1 j dr b) := fun x hx => by
      rcases List.mem_append.mp hx with z | z
      · rcases List.mem_append.mp z with z | z
        · exact hb x (List.mem_of_mem_take z)
        · rw [List.mem_singleton.mp z]; omega
      · exact hb x (List.mem_of_mem_drop z)
    refine ⟨.ref mh, rfl, .ref mn, .ref mh, _, _, ins1 j 0 a, ins1 j dr b, rfl, tmn, tmh.same s21, by omega, ra01, rb01, by omega, by rw [List.length_map]; omega, (by rw [lia]; exact ok.more), (Gr.of s21).2 _ tab20, fun r H22 gr22 tr22 => ?_⟩
    have g2022 : Gr H20 H22 := (Gr.of s21).trans gr22
    have ew : wordsM (gs.map (moreG j)) (w0M (ins1 j 0 a) (ins1 j dr b)) = ins1 j (0, dr, false) ws := by
      have e0 : w0M (ins1 j 0 a) (ins1 j dr b) = ins1 j (0, dr, false) (w0M a b) := w0_ins j 0 dr a b (by omega)
      rw [e0, words_ins gs (by rw [w0_len (by omega)]; omega), hws]
    rw [ew] at tr22
    obtain ⟨r', rx, e, hr22, trx⟩ := tr22.tup_inv
    cases e
    have lin : (ins1 j (0, dr, false) ws).length = ws.length + 1 := by
      unfold ins1
      rw [List.length_append, List.length_append, List.length_take, List.length_drop, List.length_singleton]
      omega
    refine ⟨.int m, rfl, _, _, rfl, rfl, _, rfl, no_part (show rSlA K (.ref r) (some ((m + 1 : Nat) : Int)) none H22 _ from sl_from hr22 trx (by rw [List.length_map]; omega) fun v1 H23 s23 tv1 => ?_)⟩
    have t22 := t20.trans (Ts.gr g2022)
    have t23 := t22.trans (Ts.same s23)
    refine ⟨.ref W, rfl, .int m, rfl, (m : Int), rfl, no_part (sl_from (K := K) (t23 _ _ hW1) (twx.ts t23 (noLs_map (fun _ => rfl) ws)) (by rw [List.length_map]; omega) fun v2 H24 s24 tv2 => ?_)⟩
    rw [← List.map_drop] at tv1 tv2
    rw [ins1_drop hj (by omega)] at tv1
    exact eq_same (tv1.same s24).dp tv2.dp (sh_words _) (q H24 ((D20.gr (g2022.trans (Gr.of (s23.trans s24)))).mono (by omega)) ((g2022.trans (Gr.of (s23.trans s24))).2 _ tab20))

end
end Gk

set_option Elab.async false
set_option linter.all false
set_option maxRecDepth 100000
set_option maxHeartbeats 0
namespace Gk
open PySem PySem.Spec PyProof.Rows L2
section
variable {P : Program} {w : World} {K : PySem.W.Frag} {mg : Str → Option Value} {base : Heap}
theorem tab_fr {H H' : Hp} {d l P : Addr} {n : Int} (D : DeckB H d l n) (f : Fr d l H H') (t : GxR.TabG H P) : GxR.TabG H' P := by
  obtain ⟨ps, e, tr⟩ := t
  obtain ⟨ne, cs, z, y, hd, hl, r⟩ := D
  exact ⟨ps, f _ _ (ne_of e hd (by intro z; cases z)) (ne_of e hl (by intro z; cases z)) e, tr⟩
def sp_law (K : PySem.W.Frag) (Ps : List Addr) : Sp := fun vs H Q _ => ∃ (a : Addr) (ns : List Int), vs = [.ref a] ∧ SqL K H a (ns.map V.int) ∧ ns.length ≤ 63 ∧ Tabs H Ps ∧ ∀ H', Q (.bl true) H'
theorem ok_law (T : Tx K mg) (B : Tb base T) : FnOk P w K mg base CX0 7 T.f_law T.fd_law ["_law_script"] (sp_law K T.tabs) := by
  refine T.F_law.ok sc_law (fun vs H Q E h => ?_) (fun cdv A outer s H vs Q E hr h => ?_)
  · obtain ⟨a, ns, rfl, _⟩ := h
    rfl
  · obtain ⟨a, ns, rfl, hS, hlen, tabs, q⟩ := h
    refine ⟨_, (pss_cons (ps_set (i := 1) sc_law.nd rfl (by first | exact .inl rfl | exact .inr rfl) (pe_call (ok_deck T) (hr.mono (by decide)) (by rfl) T.g_deck T.F_deck.kp T.b_deck .nil pass0 (pa_cons (pv 0) pa_nil))) (pss_cons (ps_for PassesOwn.never rfl (pi_range1 (by rfl) T.m_range (pa_cons pe_int pa_nil)) (pg_name (i := 2) sc_law.nd rfl (by first | exact .inl rfl | exact .inr rfl)) (pss_cons (ps_set (i := 3) sc_law.nd rfl (by first | exact .inl rfl | exact .inr rfl) (pe_ix ix_list (pe_lst (pa_cons (pe_op op_add pe_int (pe_call (ok_draw T) (hr.mono (by decide)) (by rfl) T.g_draw T.F_draw.kp T.b_draw .nil pass0 (pa_cons (pv 1) (pa_cons pe_int pa_nil)))) (pa_cons pe_int pa_nil))) (pe_callTy call_int1 (by rfl) T.m_int (by decide +kernel) (pa_cons (pe_cmpR op_eq (pe_call (ok_draw T) (hr.mono (by decide)) (by rfl) T.g_draw T.F_draw.kp T.b_draw .nil pass0 (pa_cons (pv 1) (pa_cons pe_int pa_nil))) pe_int (nomark _)) pa_nil)) (fun _ _ => rfl))) (pss_cons (ps_set (i := 4) sc_law.nd rfl (by first | exact .inl rfl | exact .inr rfl) (pe_op op_add pe_int (pe_call (ok_draw T) (hr.mono (by decide)) (by rfl) T.g_draw T.F_draw.kp T.b_draw .nil pass0 (pa_cons (pv 1) (pa_cons pe_int pa_nil))))) (pss_one (ps_if (pt_not (pt_val (pe_call (ok_right T B) (hr.mono (by decide)) (by rfl) T.g_right T.F_right.kp T.b_right .nil pass0 (pa_cons (pv 1) (pa_cons (pe_call (ok_shared T) (hr.mono (by decide)) (by rfl) T.g_shared T.F_shared.kp T.b_shared .nil pass0 (pa_cons (pv 1) (pa_cons (pv 4) (pa_cons (pv 3) pa_nil)))) (pa_cons (pe_call (ok_change T) (hr.mono (by decide)) (by rfl) T.g_change T.F_change.kp T.b_change .nil pass0 (pa_cons (pv 1) (pa_cons (pv 4) pa_nil))) pa_nil)))))) (pss_one (ps_ret pe_bl)) pss_nil))))) (pss_one (ps_ret pe_bl)))), ?_⟩
    have tab : GxR.TabG H T.P_words_of := tabs _ (List.mem_singleton.mpr rfl)
    refine ⟨.ref a, rfl, a, ns, rfl, hS, hlen, fun H1 d l s1 D1 => ?_⟩
    refine ⟨2, rfl, by decide, by decide, ?_⟩
    refine for_range (lo := 0) (n := (2 : Int).toNat) (fun i σ H' => ∃ y2 y3 y4, σ = [some (.ref a), some (.ref d), y2, y3, y4] ∧ DeckB H' d l (1000 * i) ∧ GxR.TabG H' T.P_words_of) ⟨_, _, _, rfl, D1.mono (by omega), (Gr.of s1).2 _ tab⟩ ?_ ?_
    · rintro i σ H2 hi ⟨y2, y3, y4, rfl, D2, t2⟩
      have hi' : i < 2 := hi
      refine ⟨.ref d, rfl, d, l, 8, _, rfl, D2, by omega, by decide, by decide, fun H3 v D3 fr3 v0 v1 => ⟨_, _, rfl, rfl, sl2, fun p np => ?_⟩⟩
      have D3' := D3.same (same_upd (o := HO.lst [V.int (1 + v), .int 40]) np)
      have op := D3.off np
      refine ⟨.ref d, rfl, d, l, 8, _, rfl, D3', by omega, by decide, by decide, fun H4 u D4 fr4 u0 u1 => ?_⟩
      have hp4 := fr4 _ _ op.1 op.2 (show (upd H3 p (.lst [.int (1 + v), .int 40])) p = some (.lst [.int (1 + v), .int 40]) from upd_same)
      have t4 := tab_fr D3' fr4 ((Gr.none (o := HO.lst [V.int (1 + v), .int 40]) np).2 _ (tab_fr D2 fr3 t2))
      obtain ⟨cn, hcn, c1, c40⟩ : ∃ cn : Nat, atI [V.int (1 + v), V.int 40] (if decide (V.int u = V.int 5) = true then 1 else 0) = some (.int (cn : Int)) ∧ 1 ≤ cn ∧ cn ≤ 40 := by
        cases decide (V.int u = V.int 5) with
        | true => exact ⟨40, rfl, by decide, by decide⟩
        | false =>
          refine ⟨(1 + v).toNat, ?_, by omega, by omega⟩
          show some (V.int (1 + v)) = _
          rw [Int.toNat_of_nonneg (by omega)]
      refine ⟨rfl, .inr ⟨_, rfl, p, _, _, _, rfl, rfl, SqL.of hp4, hcn, ?_⟩⟩
      refine ⟨.ref d, rfl, d, l, 6, _, rfl, D4, by omega, by decide, by decide, fun H5 x D5 fr5 x0 x1 => ⟨_, _, rfl, rfl, ?_⟩⟩
      have t5 := tab_fr D4 fr5 t4
      obtain ⟨m, hm, m1, m6⟩ : ∃ m : Nat, 1 + x = (m : Int) ∧ 1 ≤ m ∧ m ≤ 6 := ⟨(1 + x).toNat, by omega, by omega, by omega⟩
      have em : (fun i j : Int => V.int (i + j)) 1 x = V.int m := by
        show V.int (1 + x) = _
        rw [hm]
      rw [em]
      refine ⟨.ref d, rfl, .ref d, rfl, .int m, rfl, .int cn, rfl, d, l, _, m, cn, rfl, D5, by omega, m1, m6, c40, fun nr H6 gs D6 fr6 tn lg ok => ?_⟩
      have t6 := tab_fr D5 fr6 t5
      refine ⟨.ref d, rfl, .int m, rfl, d, l, _, m, rfl, D6, by omega, m1, m6, fun cr H7 ra rb D7 fr7 tc la lb ha hb => ?_⟩
      have t7 := tab_fr D6 fr7 t6
      refine ⟨d, l, _, .ref nr, .ref cr, m, gs, ra, rb, rfl, D7, by omega, tn.ts (Ts.fr D6 fr7) (noL_net _ _), tc, la, lb, ha, hb, m1, m6, by omega, by omega, ok, t7, fun H8 D8 t8 => ?_⟩
      refine ⟨_, rfl, iteF ?_⟩
      exact ⟨_, _, _, rfl, D8.mono (by push_cast; omega), t8⟩
    · rintro σ H2 ⟨y2, y3, y4, rfl, _, _⟩
      exact q H2
end
def d_choices_of : He.DefD := ⟨("choices_of", none), "choices_of", "choices_of", defArgs s_choices_of, defBody s_choices_of, defScope s_choices_of, [], []⟩
def d_table_worth : He.DefD := ⟨("table_worth", none), "table_worth", "table_worth", defArgs s_table_worth, defBody s_table_worth, defScope s_table_worth, [], []⟩
def d_pairs_of : He.DefD := ⟨("pairs_of", none), "pairs_of", "pairs_of", defArgs s_pairs_of, defBody s_pairs_of, defScope s_pairs_of, [], []⟩
def d_gate_word : He.DefD := ⟨("gate_word", none), "gate_word", "gate_word", defArgs s_gate_word, defBody s_gate_word, defScope s_gate_word, [], []⟩
def d_goes_fro : He.DefD := ⟨("goes_fro", none), "goes_fro", "goes_fro", defArgs s_goes_fro, defBody s_goes_fro, defScope s_goes_fro, [], []⟩
def d_pair_by : He.DefD := ⟨("pair_by", none), "pair_by", "pair_by", defArgs s_pair_by, defBody s_pair_by, defScope s_pair_by, [], []⟩
def d_words_of : He.DefD := ⟨("words_of", none), "words_of", "words_of", defArgs s_words_of, defBody s_words_of, defScope s_words_of, [], []⟩
def d_deck : He.DefD := ⟨("_law_deck", none), "_law_deck", "_law_deck", defArgs s_deck, defBody s_deck, defScope s_deck, [], []⟩
def d_draw : He.DefD := ⟨("_law_draw", none), "_law_draw", "_law_draw", defArgs s_draw, defBody s_draw, defScope s_draw, [], []⟩
def d_table : He.DefD := ⟨("_law_table", none), "_law_table", "_law_table", defArgs s_table, defBody s_table, defScope s_table, [], []⟩
def d_shared : He.DefD := ⟨("_law_shared", none), "_law_shared", "_law_shared", defArgs s_shared, defBody s_shared, defScope s_shared, [], []⟩
def d_change : He.DefD := ⟨("_law_change", none), "_law_change", "_law_change", defArgs s_change, defBody s_change, defScope s_change, [], []⟩
def d_settled : He.DefD := ⟨("_law_settled", none), "_law_settled", "_law_settled", defArgs s_settled, defBody s_settled, defScope s_settled, [], []⟩
def d_more : He.DefD := ⟨("_law_more", none), "_law_more", "_law_more", defArgs s_more, defBody s_more, defScope s_more, [], []⟩
def d_right : He.DefD := ⟨("_law_right", none), "_law_right", "_law_right", defArgs s_right, defBody s_right, defScope s_right, [], []⟩
def d_law : He.DefD := ⟨("law", none), "law", "law", defArgs s_law, defBody s_law, defScope s_law, [], []⟩
def fn : List He.DefD := [d_choices_of, d_table_worth, d_pairs_of, d_gate_word, d_goes_fro, d_pair_by, d_words_of, d_deck, d_draw, d_table, d_shared, d_change, d_settled, d_more, d_right, d_law]
def fa : List He.Fa := [.glo "choices_of", .glo "table_worth", .glo "pairs_of", .glo "gate_word", .glo "goes_fro", .glo "pair_by", .glo "words_of", .glo "_law_deck", .glo "_law_draw", .glo "_law_table", .glo "_law_shared", .glo "_law_change", .glo "_law_settled", .glo "_law_more", .glo "_law_right", .glo "law", .free "enumerate", .free "int", .free "len", .free "list", .free "max", .free "range", .free "set", .free "sorted", .free "str", .free "sum", .free "tuple", .free "zip"]
def tf : List He.Defn := [("words_of", none)]
abbrev RR : PySem.W.OpenRow := PySem.W.OpenLaw.row PySem.Challenge.rw_glitchnet_k21_words_there_and_back
def yes : PySem.W.Frag → Bool := fun _ => true
abbrev hk : PySem.W.Hook := He.hookX 4 fa fn [] tf yes
def ob (s : PySem.W.SharedT) : He.AlX := He.obsX 4 fa fn [] tf yes (HandSHeadRun.getT s)
theorem ob_eq (s : PySem.W.SharedT) : ob s = hk.obs s.abs := He.obsX_eq (HandSHeadRun.getT_eq s)
theorem run (w : World) : HandSHeadRun.RunEq RR (PySem.W.view RR.prog [19]) hk ob 3000 [("choices_of" : PySem.Str), ("table_worth" : PySem.Str), ("pairs_of" : PySem.Str), ("gate_word" : PySem.Str), ("goes_fro" : PySem.Str), ("pair_by" : PySem.Str), ("words_of" : PySem.Str), ("_law_deck" : PySem.Str), ("_law_draw" : PySem.Str), ("_law_table" : PySem.Str), ("_law_shared" : PySem.Str), ("_law_change" : PySem.Str), ("_law_settled" : PySem.Str), ("_law_more" : PySem.Str), ("_law_right" : PySem.Str)] w := by
  intro os
  kernel_rfl
theorem facts {w : World} {K : PySem.W.Frag} {h : Heap} {mg : Str → Option Value} {f : Addr} (X : K.In h) (G : h.Ns mainGlobals mg) (hfa : mg ("law" : Str) = some (.ref f)) (c : He.SaysX fa fn [] tf yes w h K) : LamX.LawAtS PySem.Challenge.rw_glitchnet_k21_words_there_and_back w K CX0 7 63 "_law_script" mg f h := by
  obtain ⟨fd0, D0⟩ := c.t.d.def_ 0 (d := d_choices_of) rfl
  have F0 : Fun K "choices_of" "choices_of" s_choices_of (He.fAd K ("choices_of", none)) fd0 := fun_of D0
  have b0 := F0.binds (ps := ["lists"]) fun _ _ _ _ _ _ us hl => match us, hl with | [_], _ => rfl
  obtain ⟨fd1, D1⟩ := c.t.d.def_ 1 (d := d_table_worth) rfl
  have F1 : Fun K "table_worth" "table_worth" s_table_worth (He.fAd K ("table_worth", none)) fd1 := fun_of D1
  have b1 := F1.binds (ps := ["table", "worths"]) fun _ _ _ _ _ _ us hl => match us, hl with | [_, _], _ => rfl
  obtain ⟨fd2, D2⟩ := c.t.d.def_ 2 (d := d_pairs_of) rfl
  have F2 : Fun K "pairs_of" "pairs_of" s_pairs_of (He.fAd K ("pairs_of", none)) fd2 := fun_of D2
  have b2 := F2.binds (ps := ["word"]) fun _ _ _ _ _ _ us hl => match us, hl with | [_], _ => rfl
  obtain ⟨fd3, D3⟩ := c.t.d.def_ 3 (d := d_gate_word) rfl
  have F3 : Fun K "gate_word" "gate_word" s_gate_word (He.fAd K ("gate_word", none)) fd3 := fun_of D3
  have b3 := F3.binds (ps := ["table", "words"]) fun _ _ _ _ _ _ us hl => match us, hl with | [_, _], _ => rfl
  obtain ⟨fd4, D4⟩ := c.t.d.def_ 4 (d := d_goes_fro) rfl
  have F4 : Fun K "goes_fro" "goes_fro" s_goes_fro (He.fAd K ("goes_fro", none)) fd4 := fun_of D4
  have b4 := F4.binds (ps := ["table", "words", "first", "last"]) fun _ _ _ _ _ _ us hl => match us, hl with | [_, _, _, _], _ => rfl
  obtain ⟨fd5, D5⟩ := c.t.d.def_ 5 (d := d_pair_by) rfl
  have F5 : Fun K "pair_by" "pair_by" s_pair_by (He.fAd K ("pair_by", none)) fd5 := fun_of D5
  have b5 := F5.binds (ps := ["table", "pairs"]) fun _ _ _ _ _ _ us hl => match us, hl with | [_, _], _ => rfl
  obtain ⟨fd6, D6⟩ := c.t.d.def_ 6 (d := d_words_of) rfl
  have F6 : Fun K "words_of" "words_of" s_words_of (He.fAd K ("words_of", none)) fd6 := fun_of D6
  have b6 := F6.binds (ps := ["net", "change"]) fun _ _ _ _ _ _ us hl => match us, hl with | [_, _], _ => rfl
  obtain ⟨fd7, D7⟩ := c.t.d.def_ 7 (d := d_deck) rfl
  have F7 : Fun K "_law_deck" "_law_deck" s_deck (He.fAd K ("_law_deck", none)) fd7 := fun_of D7
  have b7 := F7.binds (ps := ["_law_script"]) fun _ _ _ _ _ _ us hl => match us, hl with | [_], _ => rfl
  obtain ⟨fd8, D8⟩ := c.t.d.def_ 8 (d := d_draw) rfl
  have F8 : Fun K "_law_draw" "_law_draw" s_draw (He.fAd K ("_law_draw", none)) fd8 := fun_of D8
  have b8 := F8.binds (ps := ["_law_deck_here", "_law_most"]) fun _ _ _ _ _ _ us hl => match us, hl with | [_, _], _ => rfl
  obtain ⟨fd9, D9⟩ := c.t.d.def_ 9 (d := d_table) rfl
  have F9 : Fun K "_law_table" "_law_table" s_table (He.fAd K ("_law_table", none)) fd9 := fun_of D9
  have b9 := F9.binds (ps := ["_law_deck_here", "_law_ins"]) fun _ _ _ _ _ _ us hl => match us, hl with | [_, _], _ => rfl
  obtain ⟨fd10, D10⟩ := c.t.d.def_ 10 (d := d_shared) rfl
  have F10 : Fun K "_law_shared" "_law_shared" s_shared (He.fAd K ("_law_shared", none)) fd10 := fun_of D10
  have b10 := F10.binds (ps := ["_law_deck_here", "_law_many", "_law_count"]) fun _ _ _ _ _ _ us hl => match us, hl with | [_, _, _], _ => rfl
  obtain ⟨fd11, D11⟩ := c.t.d.def_ 11 (d := d_change) rfl
  have F11 : Fun K "_law_change" "_law_change" s_change (He.fAd K ("_law_change", none)) fd11 := fun_of D11
  have b11 := F11.binds (ps := ["_law_deck_here", "_law_many"]) fun _ _ _ _ _ _ us hl => match us, hl with | [_, _], _ => rfl
  obtain ⟨fd12, D12⟩ := c.t.d.def_ 12 (d := d_settled) rfl
  have F12 : Fun K "_law_settled" "_law_settled" s_settled (He.fAd K ("_law_settled", none)) fd12 := fun_of D12
  have b12 := F12.binds (ps := ["_law_net", "_law_row"]) fun _ _ _ _ _ _ us hl => match us, hl with | [_, _], _ => rfl
  obtain ⟨fd13, D13⟩ := c.t.d.def_ 13 (d := d_more) rfl
  have F13 : Fun K "_law_more" "_law_more" s_more (He.fAd K ("_law_more", none)) fd13 := fun_of D13
  have b13 := F13.binds (ps := ["_law_net", "_law_at"]) fun _ _ _ _ _ _ us hl => match us, hl with | [_, _], _ => rfl
  obtain ⟨fd14, D14⟩ := c.t.d.def_ 14 (d := d_right) rfl
  have F14 : Fun K "_law_right" "_law_right" s_right (He.fAd K ("_law_right", none)) fd14 := fun_of D14
  have b14 := F14.binds (ps := ["_law_deck_here", "_law_net", "_law_change_here"]) fun _ _ _ _ _ _ us hl => match us, hl with | [_, _, _], _ => rfl
  obtain ⟨fd15, D15⟩ := c.t.d.def_ 15 (d := d_law) rfl
  have F15 : Fun K "law" "law" s_law (He.fAd K ("law", none)) fd15 := fun_of D15
  have b15 := F15.binds (ps := ["_law_script"]) fun _ _ _ _ _ _ us hl => match us, hl with | [_], _ => rfl
  have e := hfa.symm.trans (He.glo_ok X G (c.t.d.fact 15 (f := .glo "law") rfl))
  cases e
  let T : Tx K mg := { f_choices_of := _, fd_choices_of := _, F_choices_of := F0, g_choices_of := He.glo_ok X G (c.t.d.fact 0 (f := .glo "choices_of") rfl), b_choices_of := b0, f_table_worth := _, fd_table_worth := _, F_table_worth := F1, g_table_worth := He.glo_ok X G (c.t.d.fact 1 (f := .glo "table_worth") rfl), b_table_worth := b1, f_pairs_of := _, fd_pairs_of := _, F_pairs_of := F2, g_pairs_of := He.glo_ok X G (c.t.d.fact 2 (f := .glo "pairs_of") rfl), b_pairs_of := b2, f_gate_word := _, fd_gate_word := _, F_gate_word := F3, g_gate_word := He.glo_ok X G (c.t.d.fact 3 (f := .glo "gate_word") rfl), b_gate_word := b3, f_goes_fro := _, fd_goes_fro := _, F_goes_fro := F4, g_goes_fro := He.glo_ok X G (c.t.d.fact 4 (f := .glo "goes_fro") rfl), b_goes_fro := b4, f_pair_by := _, fd_pair_by := _, F_pair_by := F5, g_pair_by := He.glo_ok X G (c.t.d.fact 5 (f := .glo "pair_by") rfl), b_pair_by := b5, f_words_of := _, fd_words_of := _, F_words_of := F6, g_words_of := He.glo_ok X G (c.t.d.fact 6 (f := .glo "words_of") rfl), b_words_of := b6, c_words_of := (He.cT K ("words_of", none)).1, P_words_of := (He.cT K ("words_of", none)).2, cd_words_of := code_of F6, f_deck := _, fd_deck := _, F_deck := F7, g_deck := He.glo_ok X G (c.t.d.fact 7 (f := .glo "_law_deck") rfl), b_deck := b7, f_draw := _, fd_draw := _, F_draw := F8, g_draw := He.glo_ok X G (c.t.d.fact 8 (f := .glo "_law_draw") rfl), b_draw := b8, f_table := _, fd_table := _, F_table := F9, g_table := He.glo_ok X G (c.t.d.fact 9 (f := .glo "_law_table") rfl), b_table := b9, f_shared := _, fd_shared := _, F_shared := F10, g_shared := He.glo_ok X G (c.t.d.fact 10 (f := .glo "_law_shared") rfl), b_shared := b10, f_change := _, fd_change := _, F_change := F11, g_change := He.glo_ok X G (c.t.d.fact 11 (f := .glo "_law_change") rfl), b_change := b11, f_settled := _, fd_settled := _, F_settled := F12, g_settled := He.glo_ok X G (c.t.d.fact 12 (f := .glo "_law_settled") rfl), b_settled := b12, f_more := _, fd_more := _, F_more := F13, g_more := He.glo_ok X G (c.t.d.fact 13 (f := .glo "_law_more") rfl), b_more := b13, f_right := _, fd_right := _, F_right := F14, g_right := He.glo_ok X G (c.t.d.fact 14 (f := .glo "_law_right") rfl), b_right := b14, f_law := _, fd_law := _, F_law := F15, g_law := He.glo_ok X G (c.t.d.fact 15 (f := .glo "law") rfl), b_law := b15, m_enumerate := He.free_ok X G (c.t.d.fact 16 (f := .free "enumerate") rfl), m_int := He.free_ok X G (c.t.d.fact 17 (f := .free "int") rfl), m_len := He.free_ok X G (c.t.d.fact 18 (f := .free "len") rfl), m_list := He.free_ok X G (c.t.d.fact 19 (f := .free "list") rfl), m_max := He.free_ok X G (c.t.d.fact 20 (f := .free "max") rfl), m_range := He.free_ok X G (c.t.d.fact 21 (f := .free "range") rfl), m_set := He.free_ok X G (c.t.d.fact 22 (f := .free "set") rfl), m_sorted := He.free_ok X G (c.t.d.fact 23 (f := .free "sorted") rfl), m_str := He.free_ok X G (c.t.d.fact 24 (f := .free "str") rfl), m_sum := He.free_ok X G (c.t.d.fact 25 (f := .free "sum") rfl), m_tuple := He.free_ok X G (c.t.d.fact 26 (f := .free "tuple") rfl), m_zip := He.free_ok X G (c.t.d.fact 27 (f := .free "zip") rfl) }
  refine ⟨fd15, tf.map (He.cT K), sp_law K T.tabs, ?_, ?_, ?_, ?_, ?_, ?_⟩
  · rintro p hp
    obtain ⟨d, hd, rfl⟩ := List.mem_map.mp hp
    exact c.empty d hd
  · rintro p hp
    obtain ⟨d, hd, rfl⟩ := List.mem_map.mp hp
    exact c.out d hd
  · rintro p hp
    obtain ⟨d, hd, rfl⟩ := List.mem_map.mp hp
    exact PySem.W.codeHd_of_K X (c.hd d hd)
  · obtain ⟨oc, od, kV, doc, pm, an, cdv, ct, osl, rfl, lk, hcd⟩ := F15.ex
    exact fun s v => .of_eq rfl
  · intro H a ns hl hbits hT hS
    refine ⟨a, ns, rfl, hS, hl, fun P hP => ?_, fun _ => rfl⟩
    have hP : P ∈ (tf.map (He.cT K)).map (·.2) := hP
    obtain ⟨p, hp, rfl⟩ := List.mem_map.mp hP
    exact ⟨#[], hT p hp, by trivial⟩
  · intro base KB GB hTB
    have B : Tb base T := ⟨tab_of (hTB (He.cT K ("words_of", none)) (List.mem_map.mpr ⟨_, (show (("words_of", none) : He.Defn) ∈ tf by decide), rfl⟩))⟩
    exact ok_law T B
end Gk
open PySem PySem.W PyProof.Rows
set_option maxRecDepth 100000 in
set_option maxHeartbeats 0 in
theorem PySem.Challenge.cw_glitchnet_k21_words_there_and_back_holds : PySem.Challenge.rw_glitchnet_k21_words_there_and_back.Holds := by
  w_on; o_law
  refine HandSHeadRun.head_any (r := OpenLaw.row PySem.Challenge.rw_glitchnet_k21_words_there_and_back) (q := view (OpenLaw.row PySem.Challenge.rw_glitchnet_k21_words_there_and_back).prog [19]) (H := Gk.hk) (ob := Gk.ob) (M := 3000) (loose := [("choices_of" : PySem.Str), ("table_worth" : PySem.Str), ("pairs_of" : PySem.Str), ("gate_word" : PySem.Str), ("goes_fro" : PySem.Str), ("pair_by" : PySem.Str), ("words_of" : PySem.Str), ("_law_deck" : PySem.Str), ("_law_draw" : PySem.Str), ("_law_table" : PySem.Str), ("_law_shared" : PySem.Str), ("_law_change" : PySem.Str), ("_law_settled" : PySem.Str), ("_law_more" : PySem.Str), ("_law_right" : PySem.Str)]) (d := HandSHeadRun.topDef (OpenLaw.row PySem.Challenge.rw_glitchnet_k21_words_there_and_back).prog 19) (kwd := []) Gk.ob_eq
    (by kernel_rfl) (fun s => by kernel_rfl) Gk.run (by kernel_rfl) (by kernel_rfl) (by kernel_rfl) (by rfl) (by first | assumption | decide +kernel) (by decide +kernel) ⟨rfl, rfl, rfl, rfl, rfl, by decide +kernel⟩ ?hw ?hc
  case hw => w_witness2
  case hc =>
    refine LamX.walk_ofTsE (l := PySem.Challenge.rw_glitchnet_k21_words_there_and_back) (n := 63) (k := 7) (x := "_law_script") (CX := fun _ => L2.CX0) rfl (by decide) (by kernel_rfl) ⟨rfl, by decide, by decide⟩ ?F (fun _ _ _ _ _ z => z)
    intro w mg fa h Y G hmg0
    obtain ⟨K, KX, c⟩ := Y
    have hmg : mg ("law" : PySem.Str) = some (.ref fa) := by
      have e : (HandSHeadRun.topDef (OpenLaw.row PySem.Challenge.rw_glitchnet_k21_words_there_and_back).prog 19).name = ("law" : PySem.Str) := by kernel_rfl
      rw [← e]
      exact hmg0
    exact ⟨K, KX, Gk.facts KX G hmg c⟩
