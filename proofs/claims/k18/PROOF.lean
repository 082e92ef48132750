import PyProof.Rows.All
import Wide.All
import OpenK.AllK
import Wide.FinOn
import HandS.ForMost
import HandS.IsInst
import HandS.TupLe
import HandS.TupAny
import HandS.More
import HandS.Codes
import HandS.Conv
import HandS.Deep
import HandS.TupSets
import HandS.Style
import PyProof.ReprRoads
import PyProof.ReprLen
import PySem.Challenge.RW_glitchnet_k18_gate_words_by_all_waves
set_option Elab.async false
set_option linter.all false
set_option maxRecDepth 100000
namespace Gk
open PySem PySem.Spec PyProof.Rows L2
/-! ### the text -/
def topS (i : Nat) : Stmt := PySem.Challenge.pw_glitchnet_k18_gate_words_by_all_waves.main.body.getD i (.Pass ⟨0, 0, 0, 0⟩)
abbrev s_choices_of : Stmt := topS 1
abbrev s_table_worth : Stmt := topS 2
abbrev s_pairs_of : Stmt := topS 4
abbrev s_gate_word : Stmt := topS 5
abbrev s_goes_fro : Stmt := topS 6
abbrev s_pair_by : Stmt := topS 7
abbrev s_deck : Stmt := topS 9
abbrev s_draw : Stmt := topS 10
abbrev s_word : Stmt := topS 11
abbrev s_table : Stmt := topS 12
abbrev s_gate : Stmt := topS 13
abbrev s_waves : Stmt := topS 14
abbrev s_l_goes_fro : Stmt := topS 15
abbrev s_right : Stmt := topS 16
abbrev s_law : Stmt := topS 17
theorem sc_choices_of : FnScope ["lists", "choices", "options", "choice", "option"] ["lists"] (defScope s_choices_of) := ⟨rfl, rfl, rfl, by decide +kernel, rfl, by decide +kernel, by decide +kernel⟩
theorem sc_table_worth : FnScope ["table", "worths", "place", "worth"] ["table", "worths"] (defScope s_table_worth) := ⟨rfl, rfl, rfl, by decide +kernel, rfl, by decide +kernel, by decide +kernel⟩
theorem sc_pairs_of : FnScope ["word", "first", "last", "fro"] ["word"] (defScope s_pairs_of) := ⟨rfl, rfl, rfl, by decide +kernel, rfl, by decide +kernel, by decide +kernel⟩
theorem sc_gate_word : FnScope ["table", "words", "first", "last", "word"] ["table", "words"] (defScope s_gate_word) := ⟨rfl, rfl, rfl, by decide +kernel, rfl, by decide +kernel, by decide +kernel⟩
theorem sc_goes_fro : FnScope ["table", "words", "first", "last", "pairs", "early", "late", "word"] ["table", "words", "first", "last"] (defScope s_goes_fro) := ⟨rfl, rfl, rfl, by decide +kernel, rfl, by decide +kernel, by decide +kernel⟩
theorem sc_pair_by : FnScope ["table", "pairs", "p", "q"] ["table", "pairs"] (defScope s_pair_by) := ⟨rfl, rfl, rfl, by decide +kernel, rfl, by decide +kernel, by decide +kernel⟩
theorem sc_deck : FnScope ["_law_script", "_law_last"] ["_law_script"] (defScope s_deck) := ⟨rfl, rfl, rfl, by decide +kernel, rfl, by decide +kernel, by decide +kernel⟩
theorem sc_draw : FnScope ["_law_deck_here", "_law_most", "_law_cell", "_law_number"] ["_law_deck_here", "_law_most"] (defScope s_draw) := ⟨rfl, rfl, rfl, by decide +kernel, rfl, by decide +kernel, by decide +kernel⟩
theorem sc_word : FnScope ["_law_deck_here", "_law_fro", "_law_first"] ["_law_deck_here"] (defScope s_word) := ⟨rfl, rfl, rfl, by decide +kernel, rfl, by decide +kernel, by decide +kernel⟩
theorem sc_table : FnScope ["_law_deck_here", "_law_size", "_law_way", "_law_number", "_law_signs", "_law_known", "_law_k"] ["_law_deck_here", "_law_size"] (defScope s_table) := ⟨rfl, rfl, rfl, by decide +kernel, rfl, by decide +kernel, by decide +kernel⟩
theorem sc_gate : FnScope ["_law_table_here", "_law_worths", "_law_at", "_law_worth"] ["_law_table_here", "_law_worths"] (defScope s_gate) := ⟨rfl, rfl, rfl, by decide +kernel, rfl, by decide +kernel, by decide +kernel⟩
theorem sc_waves : FnScope ["_law_word_here", "_law_first", "_law_last", "_law_fro", "_law_found", "_law_number", "_law_worths", "_law_k", "_law_many"] ["_law_word_here"] (defScope s_waves) := ⟨rfl, rfl, rfl, by decide +kernel, rfl, by decide +kernel, by decide +kernel⟩
theorem sc_l_goes_fro : FnScope ["_law_table_here", "_law_words", "_law_rows", "_law_word_here", "_law_waves_here", "_law_longer", "_law_row", "_law_worths", "_law_many", "_law_k", "_law_wave"] ["_law_table_here", "_law_words"] (defScope s_l_goes_fro) := ⟨rfl, rfl, rfl, by decide +kernel, rfl, by decide +kernel, by decide +kernel⟩
theorem sc_right : FnScope ["_law_table_here", "_law_words", "_law_first", "_law_last", "_law_due", "_law_turn", "_law_found", "_law_word_here"] ["_law_table_here", "_law_words"] (defScope s_right) := ⟨rfl, rfl, rfl, by decide +kernel, rfl, by decide +kernel, by decide +kernel⟩
theorem sc_law : FnScope ["_law_script", "_law_deck_here", "_law_turn", "_law_size", "_law_table_here", "_law_words", "_law_k"] ["_law_script"] (defScope s_law) := ⟨rfl, rfl, rfl, by decide +kernel, rfl, by decide +kernel, by decide +kernel⟩
structure Tx (K : PySem.W.Frag) (mg : Str → Option Value) where
  f_choices_of : Addr
  fd_choices_of : FuncData
  F_choices_of : Fun K "choices_of" "choices_of" s_choices_of f_choices_of fd_choices_of
  g_choices_of : mg "choices_of" = some (.ref f_choices_of)
  b_choices_of : Binds K fd_choices_of ["lists"] []
  f_table_worth : Addr
  fd_table_worth : FuncData
  F_table_worth : Fun K "table_worth" "table_worth" s_table_worth f_table_worth fd_table_worth
  g_table_worth : mg "table_worth" = some (.ref f_table_worth)
  b_table_worth : Binds K fd_table_worth ["table", "worths"] []
  f_pairs_of : Addr
  fd_pairs_of : FuncData
  F_pairs_of : Fun K "pairs_of" "pairs_of" s_pairs_of f_pairs_of fd_pairs_of
  g_pairs_of : mg "pairs_of" = some (.ref f_pairs_of)
  b_pairs_of : Binds K fd_pairs_of ["word"] []
  f_gate_word : Addr
  fd_gate_word : FuncData
  F_gate_word : Fun K "gate_word" "gate_word" s_gate_word f_gate_word fd_gate_word
  g_gate_word : mg "gate_word" = some (.ref f_gate_word)
  b_gate_word : Binds K fd_gate_word ["table", "words"] []
  f_goes_fro : Addr
  fd_goes_fro : FuncData
  F_goes_fro : Fun K "goes_fro" "goes_fro" s_goes_fro f_goes_fro fd_goes_fro
  g_goes_fro : mg "goes_fro" = some (.ref f_goes_fro)
  b_goes_fro : Binds K fd_goes_fro ["table", "words", "first", "last"] []
  f_pair_by : Addr
  fd_pair_by : FuncData
  F_pair_by : Fun K "pair_by" "pair_by" s_pair_by f_pair_by fd_pair_by
  g_pair_by : mg "pair_by" = some (.ref f_pair_by)
  b_pair_by : Binds K fd_pair_by ["table", "pairs"] []
  f_deck : Addr
  fd_deck : FuncData
  F_deck : Fun K "_law_deck" "_law_deck" s_deck f_deck fd_deck
  g_deck : mg "_law_deck" = some (.ref f_deck)
  b_deck : Binds K fd_deck ["_law_script"] []
  f_draw : Addr
  fd_draw : FuncData
  F_draw : Fun K "_law_draw" "_law_draw" s_draw f_draw fd_draw
  g_draw : mg "_law_draw" = some (.ref f_draw)
  b_draw : Binds K fd_draw ["_law_deck_here", "_law_most"] []
  f_word : Addr
  fd_word : FuncData
  F_word : Fun K "_law_word" "_law_word" s_word f_word fd_word
  g_word : mg "_law_word" = some (.ref f_word)
  b_word : Binds K fd_word ["_law_deck_here"] []
  f_table : Addr
  fd_table : FuncData
  F_table : Fun K "_law_table" "_law_table" s_table f_table fd_table
  g_table : mg "_law_table" = some (.ref f_table)
  b_table : Binds K fd_table ["_law_deck_here", "_law_size"] []
  f_gate : Addr
  fd_gate : FuncData
  F_gate : Fun K "_law_gate" "_law_gate" s_gate f_gate fd_gate
  g_gate : mg "_law_gate" = some (.ref f_gate)
  b_gate : Binds K fd_gate ["_law_table_here", "_law_worths"] []
  f_waves : Addr
  fd_waves : FuncData
  F_waves : Fun K "_law_waves" "_law_waves" s_waves f_waves fd_waves
  g_waves : mg "_law_waves" = some (.ref f_waves)
  b_waves : Binds K fd_waves ["_law_word_here"] []
  f_l_goes_fro : Addr
  fd_l_goes_fro : FuncData
  F_l_goes_fro : Fun K "_law_goes_fro" "_law_goes_fro" s_l_goes_fro f_l_goes_fro fd_l_goes_fro
  g_l_goes_fro : mg "_law_goes_fro" = some (.ref f_l_goes_fro)
  b_l_goes_fro : Binds K fd_l_goes_fro ["_law_table_here", "_law_words"] []
  f_right : Addr
  fd_right : FuncData
  F_right : Fun K "_law_right" "_law_right" s_right f_right fd_right
  g_right : mg "_law_right" = some (.ref f_right)
  b_right : Binds K fd_right ["_law_table_here", "_law_words"] []
  f_law : Addr
  fd_law : FuncData
  F_law : Fun K "law" "law" s_law f_law fd_law
  g_law : mg "law" = some (.ref f_law)
  b_law : Binds K fd_law ["_law_script"] []
  m_int : mg "int" = none
  m_isinstance : mg "isinstance" = none
  m_list : mg "list" = none
  m_range : mg "range" = none
  m_repr : mg "repr" = none
  m_set : mg "set" = none
  m_sorted : mg "sorted" = none
  m_str : mg "str" = none
  m_sum : mg "sum" = none
  m_tuple : mg "tuple" = none
/-! ### heaps -/
theorem same_upd {H : Hp} {p : Addr} {o : HO} (h : H p = none) : Same H (upd H p o) := fun b x e => by
  rw [upd_ne (ne_of_none e h)]
  exact e
def Fr (d l : Addr) (H H' : Hp) : Prop := ∀ b o, b ≠ d → b ≠ l → H b = some o → H' b = some o
theorem Fr.trans {d l : Addr} {H H1 H2 : Hp} (a : Fr d l H H1) (b : Fr d l H1 H2) : Fr d l H H2 := fun c o h1 h2 h => b c o h1 h2 (a c o h1 h2 h)
theorem Fr.refl {d l : Addr} {H : Hp} : Fr d l H H := fun _ _ _ _ h => h
theorem Fr.new {d l p : Addr} {H : Hp} {o : HO} (h : H p = none) : Fr d l H (upd H p o) := fun b x _ _ e => same_upd h b x e
theorem Fr.of {d l : Addr} {H H' : Hp} (h : Same H H') : Fr d l H H' := fun b x _ _ e => h b x e
theorem Fr.d {d l : Addr} {H : Hp} {o : HO} : Fr d l H (upd H d o) := fun b x h1 _ e => by rw [upd_ne h1]; exact e
theorem Fr.l {d l : Addr} {H : Hp} {o : HO} : Fr d l H (upd H l o) := fun b x _ h2 e => by rw [upd_ne h2]; exact e
def Deck (H : Hp) (d l : Addr) : Prop := d ≠ l ∧ ∃ (cs : List Int) (z : Int), H d = some (.lst [.ref l, .int z]) ∧ H l = some (.lst (cs.map V.int)) ∧ cs.length ≤ 63 ∧ 0 ≤ z ∧ z < 4294967296
theorem Deck.same {H H' : Hp} {d l : Addr} (D : Deck H d l) (s : Same H H') : Deck H' d l := by
  obtain ⟨ne, cs, z, hd, hl, r⟩ := D
  exact ⟨ne, cs, z, s _ _ hd, s _ _ hl, r⟩
theorem Deck.new {H : Hp} {d l p : Addr} {o : HO} (D : Deck H d l) (h : H p = none) : Deck (upd H p o) d l := D.same (same_upd h)
theorem Deck.ne_new {H : Hp} {d l p : Addr} (D : Deck H d l) (h : H p = none) : p ≠ d ∧ p ≠ l := by
  obtain ⟨ne, cs, z, hd, hl, r⟩ := D
  exact ⟨(ne_of_none hd h).symm, (ne_of_none hl h).symm⟩
theorem p29 : (0 : Int) < 2147483629 := by decide
theorem p47 : (0 : Int) < 2147483647 := by decide
theorem p87 : (0 : Int) < 2147483587 := by decide
theorem sl1 : 1 ≤ sizeLine := by decide
theorem sl2 : 2 ≤ sizeLine := by decide
theorem sl3 : 3 ≤ sizeLine := by decide
theorem sl4 : 4 ≤ sizeLine := by decide
theorem seqIx0 {α : Type} (x : α) (xs : List α) : seqIndex? 0 (x :: xs).length = some 0 := by
  refine (ixN_seq (n := (x :: xs).length) (i := 0) (j := 0) ?_).1
  unfold ixN
  rw [if_pos (by decide), if_pos (by rw [List.length_cons]; omega)]
  rfl
theorem dpInts {K : PySem.W.Frag} {H : Hp} : ∀ cs : List Int, DpAll K H (cs.map V.int) (cs.map PyData.int)
  | [] => .nil
  | c :: r => .cons (.int c) (dpInts r)
theorem shInts (ns : List Int) : SeqAt.shaped (.list (ns.map PyData.int)) = true := by
  unfold SeqAt.shaped
  rw [Bool.and_eq_true]
  refine ⟨?_, ?_⟩
  · simp only [PyData.canLay0, canLayAll_ints]
  · simp only [PyData.depth, depthAll_ints]
    decide
theorem at_pick {xs : List V} {j : Int} (h0 : 0 ≤ j) (h1 : j < xs.length) : ∃ x, atI xs j = some x ∧ x ∈ xs := by
  obtain ⟨k, rfl⟩ : ∃ k : Nat, j = (k : Int) := ⟨j.toNat, (Int.toNat_of_nonneg h0).symm⟩
  have hk : k < xs.length := by omega
  exact ⟨xs[k], atI_nat (List.getElem?_eq_getElem hk), List.getElem_mem hk⟩
theorem units65 {k : Nat} {A : Around} (r : Room k A) : A.units + 65 < cLine := by have := r.un; omega
def rLenK (K : PySem.W.Frag) : List V → Hp → VK → Prop := fun xs H Q => ∃ p ys, xs = [.ref p] ∧ (SqL K H p ys ∨ SqT K H p ys) ∧ Q (.int ys.length) H
def rTupK (K : PySem.W.Frag) : List V → Hp → VK → Prop := fun xs H Q => ∃ p ys, xs = [.ref p] ∧ ((SqL K H p ys ∧ ∀ l, H l = none → Q (.ref l) (upd H l (.tup ys))) ∨ (SqT K H p ys ∧ Q (.ref p) H))
def rLstK (K : PySem.W.Frag) : List V → Hp → VK → Prop := fun xs H Q => ∃ p ys, xs = [.ref p] ∧ (SqL K H p ys ∨ SqT K H p ys) ∧ ∀ l, H l = none → Q (.ref l) (upd H l (.lst ys))
/-- joining ways behind a test, behind an expression -/
def tCutT (t : TT) : TT := fun σ H Q => ∃ Mid : Bool → Hp → Prop, t σ H Mid ∧ ∀ b H1, Mid b H1 → Q b H1
theorem pt_cut {X : Cx} {e : Expr} {t : TT} (h : PT X e t) : PT X e (tCutT t) := ⟨fun pins s σ H Q I hw => by
  obtain ⟨Mid, h1, q⟩ := hw
  exact thn (h.run pins s σ H _ I h1) fun c s1 ⟨H1, I1, m⟩ => ⟨H1, I1, q _ _ m⟩⟩
def tCutE (t : TE) : TE := fun σ H Q => ∃ Mid : VK, t σ H Mid ∧ ∀ v H1, Mid v H1 → Q v H1
theorem pe_cut {X : Cx} {e : Expr} {t : TE} (h : PE X e t) : PE X e (tCutE t) := ⟨fun pins s σ H Q I hw => by
  obtain ⟨Mid, h1, q⟩ := hw
  exact thn (h.run pins s σ H _ I h1) fun u s1 ⟨v, H1, I1, r, m⟩ => ⟨v, H1, I1, r, q _ _ m⟩⟩

/-! ### defs called where nothing is being shown (so that repr tells what stands there) -/
structure FnG (P : Program) (w : World) (K : PySem.W.Frag) (mg : Str → Option Value) (bs : Heap) (CX : CXT) (k : Nat) (f : Addr) (fd : FuncData) (ps : List Str) (sp : Sp) : Prop where
  many : ∀ vs H Q E, sp vs H Q E → vs.length = ps.length
  go : ∀ A : Around, A.guards = some [] → Room k A → ∀ (fr : List Env) (s : Shared) (H : Hp) (ar : Args) (us : List Value) (vs : List V) (Q : VK) (E : XK), Env0 P w K mg bs A fr s H → BindsTo s fd ar (ps.zip us) → Vals vs us → sp vs H Q E → codeAny (model P w) A (.call (.ref f) ar) (CR CX fr P w H s Q E) s
theorem FnG.of {P : Program} {w : World} {K : PySem.W.Frag} {mg : Str → Option Value} {bs : Heap} {CX : CXT} {k : Nat} {f : Addr} {fd : FuncData} {ps : List Str} {sp : Sp} (F : FnOk P w K mg bs CX k f fd ps sp) : FnG P w K mg bs CX k f fd ps sp :=
  ⟨F.len, fun A _ room fr s H ar us vs Q E e0 b r h => F.run A fr s H ar us vs Q E room e0 b r h⟩
theorem okG {CX : CXT} {P : Program} {w : World} {K : PySem.W.Frag} {mg : Str → Option Value} {bs : Heap} {x qual : Str} {st : Stmt} {f : Addr} {fd : FuncData} {N ps : List Str} {k : Nat} {sp : Sp} (F : Fun K x qual st f fd) (S : FnScope N ps (defScope st))
    (many : ∀ vs H Q E, sp vs H Q E → vs.length = ps.length)
    (body : ∀ (cdv : Value) (A : Around) (fr : List Env) (s : Shared) (H : Hp) (vs : List V) (Q : VK) (E : XK), A.guards = some [] → Room k (A.deeper (envOfC qual (defScope st) s.heap.objs.size f cdv)) → sp vs H Q E →
      ∃ t, PSs (cxOf CX P w K mg bs N qual (defScope st) f cdv A fr s H E) (defBody st) t ∧ t ⟨fun _ H' => Q .non H', Q, fun _ _ => False, fun _ _ => False⟩ (start N vs) H) : FnG P w K mg bs CX (k + 1) f fd ps sp := by
  obtain ⟨oc, od, kV, doc, pm, an, cdv, ct, osl, rfl, lk, code⟩ := F.ex
  refine ⟨many, fun A nothing room fr s H ar us vs Q E e0 bound rel told => ?_⟩
  have stays : ∀ b o, bs.get? b = some o → s.heap.get? b = some o := fun b o z => (e0.bs b o z).1
  have inK : K.In s.heap := e0.mod.kin.keeps stays
  have places : ∀ y ∈ ps.zip us, (defScope st).names.lookup y.1 = some .local ∨ ((defScope st).names.lookup y.1 = some .cell ∧ ((cellsFrom (s.heap.objs.size + 1) (defScope st).names []).lookup y.1).isSome = true) := by
    rintro ⟨n, v⟩ hy
    exact (S.par n (List.of_mem_zip hy).1).imp id fun c => ⟨c, PySem.W.cellsFrom_some _ _ _ (Or.inl c)⟩
  refine codeAny_call_function room.depth (inK _ _ lk) rfl S.co S.gen rfl (PySem.W.codeRec_of inK code) (bound _ _ _ _
    (wpAny_newFunctionEnv_cells S.kind places fun env he s1 made => ?_))
  subst he
  obtain ⟨t, runs, holds⟩ := body cdv A fr s H vs Q E nothing (room.deeper _) told
  refine ⟨(e0.mod.nolimit.keeps stays).keeps made.toInCall.keep, codeAny_func (wpAny_mono (runs.run [] s1 (start N vs) H _ (inv_start S room.hd e0 (many _ _ _ _ told) rel made) holds) (fun fl s2 z => ?_) fun _ _ z => z)⟩
  match fl, z with
  | .ret _, ⟨v, _, H', J, rv, q⟩ => exact ⟨v, H', J.os, J.bare, J.base, J.hok, rv, q⟩
  | .next, ⟨_, H', J, q⟩ => exact ⟨V.non, H', J.os, J.bare, J.base, J.hok, rfl, q⟩
  | .brk, ⟨_, _, _, q⟩ => exact q.elim
  | .cont, ⟨_, _, _, q⟩ => exact q.elim
theorem okG0 {P : Program} {w : World} {K : PySem.W.Frag} {mg : Str → Option Value} {bs : Heap} {x qual : Str} {st : Stmt} {f : Addr} {fd : FuncData} {N ps : List Str} {k : Nat} {sp : Sp} (F : Fun K x qual st f fd) (S : FnScope N ps (defScope st))
    (many : ∀ vs H Q E, sp vs H Q E → vs.length = ps.length)
    (body : ∀ (cdv : Value) (A : Around) (fr : List Env) (s : Shared) (H : Hp) (vs : List V) (Q : VK) (E : XK), A.guards = some [] → Room k (A.deeper (envOfC qual (defScope st) s.heap.objs.size f cdv)) → sp vs H Q E →
      ∃ t, PSs (cxOf CX0 P w K mg bs N qual (defScope st) f cdv A fr s H E).nox (defBody st) t ∧ t ⟨fun _ H' => Q .non H', Q, fun _ _ => False, fun _ _ => False⟩ (start N vs) H) : FnG P w K mg bs CX0 (k + 1) f fd ps sp :=
  okG F S many fun cdv A fr s H vs Q E g r h => by
    obtain ⟨t, p, q⟩ := body cdv A fr s H vs Q E g r h
    exact ⟨t, p.nox, q⟩
section
variable {X : Cx} {CX : CXT} {k : Nat} {f : Addr} {fd : FuncData} {ps : List Str} {sp : Sp} {ds : List Value} {dvs : List V} {E : XK}
theorem runG {pins : List (Addr × Obj)} {σ : L2.St} {H : Hp} {s : Shared} {Q : VK} {us : List Value} {vs : List V} (F : FnG X.prog X.w X.K X.mg X.base CX k f fd ps sp) (nothing : X.A.guards = some []) (room : Room k X.A) (hb : Binds X.K fd ps ds)
    (hd : Vals dvs ds) (out : Passes CX X E) (I : Inv X pins σ H s) (r : Vals vs us) (told : sp (vs ++ dvs) H Q E) : wpAny (model X.prog X.w) X.A (call (.ref f) us) (EP X pins σ Q) X.xe s := by
  have rel : Vals (vs ++ dvs) (us ++ ds) := r.append hd
  have size : (us ++ ds).length = ps.length := rel.length ▸ F.many _ _ _ _ told
  refine wpAny_call (codeAny_mono (F.go X.A nothing room X.stack s H _ _ _ Q E I.env0 (hb s us I.kIn size) rel told) fun res s2 z => ?_)
  match res, z with
  | .error e, z => exact out pins σ H s e s2 I z
  | .ok (.ret u), z => exact I.after z
  | .ok .next, z => exact z.elim
  | .ok .brk, z => exact z.elim
  | .ok .cont, z => exact z.elim
theorem pe_callG {x : Str} {p pos : Pos} {e : Expr} {es : List Expr} {t : TA} (F : FnG X.prog X.w X.K X.mg X.base CX k f fd ps sp) (nothing : X.A.guards = some []) (room : Room k X.A) (hg : Gl X x) (hm : X.mg x = some (.ref f)) (kp : PySem.W.keepIn X.K (.ref f) = true)
    (hb : Binds X.K fd ps ds) (hd : Vals dvs ds) (out : Passes CX X E) (ha : PA X (e :: es) t) (nd : (x == ("__debug__" : Str)) = false := by decide) (he : starEach (e :: es) X.env = (false, eval e X.env) :: starEach es X.env := by rfl)
    (hpl : (backTo pos (starEach es X.env)).any (·.1) = false := by rfl) : PE X (.Call (.Name x p) (e :: es) [] pos) (tCall sp dvs E t) := by
  refine ⟨fun pins s σ H Q I told => wpAny_Call_Name_kw (ld_glob I hg hm ?_ nd)⟩
  refine PySem.W.callWith_K (h₀ := X.base) I.ok.mod.kin kp (thn (ha.run pos pins s σ H _ I told) ?_) he hpl
  rintro us s1 ⟨vs, H1, J, r, q⟩
  exact ⟨J.kIn, runG F nothing room hb hd out J r q⟩
end
/-! ### what is shown by repr: plain data, whose lists and dicts were made by the law -/
def kD : Key → PyData
  | .inl i => .int i
  | .inr x => .str x
mutual
inductive Sh (H : Hp) : V → PyData → Prop
  | non : Sh H .non .none
  | bl (b : Bool) : Sh H (.bl b) (.bool b)
  | int (i : Int) : Sh H (.int i) (.int i)
  | str (x : Str) : Sh H (.str x) (.str x)
  | lst {a : Addr} {xs : List V} {ds : List PyData} : H a = some (.lst xs) → a ≠ sysModules → ShAll H xs ds → Sh H (.ref a) (.list ds)
  | tup {a : Addr} {xs : List V} {ds : List PyData} : H a = some (.tup xs) → ShAll H xs ds → Sh H (.ref a) (.tuple ds)
  | dic {a : Addr} {kvs : List (Key × V)} {ds : List PyData} : H a = some (.dK kvs) → ShAll H (kvs.map (·.2)) ds → Sh H (.ref a) (.dict ((kvs.map fun kv => kD kv.1).zip ds))
inductive ShAll (H : Hp) : List V → List PyData → Prop
  | nil : ShAll H [] []
  | cons {v : V} {vs : List V} {d : PyData} {ds : List PyData} : Sh H v d → ShAll H vs ds → ShAll H (v :: vs) (d :: ds)
end
theorem ShAll.length {H : Hp} : ∀ {vs : List V} {ds : List PyData}, ShAll H vs ds → vs.length = ds.length
  | _, _, .nil => rfl
  | _, _, .cons _ t => by rw [List.length_cons, List.length_cons, t.length]
mutual
theorem Sh.same {H H' : Hp} (s : Same H H') : ∀ {v : V} {d : PyData}, Sh H v d → Sh H' v d
  | _, _, .non => .non
  | _, _, .bl b => .bl b
  | _, _, .int i => .int i
  | _, _, .str x => .str x
  | _, _, .lst h n t => .lst (s _ _ h) n (t.same s)
  | _, _, .tup h t => .tup (s _ _ h) (t.same s)
  | _, _, .dic h t => .dic (s _ _ h) (t.same s)
theorem ShAll.same {H H' : Hp} (s : Same H H') : ∀ {vs : List V} {ds : List PyData}, ShAll H vs ds → ShAll H' vs ds
  | _, _, .nil => .nil
  | _, _, .cons h t => .cons (h.same s) (t.same s)
end
/-- the name of the class of such data -/
def tyD : PyData → String
  | .none => "NoneType"
  | .bool _ => "bool"
  | .int _ => "int"
  | .str _ => "str"
  | .list _ => "list"
  | .tuple _ => "tuple"
  | .dict _ => "dict"
theorem Sh.ty {K : PySem.W.Frag} {H : Hp} {v : V} {d : PyData} (h : Sh H v d) : TyX K H v (.type (tyD d)) := by
  cases h with
  | non => exact .base .non
  | bl b => exact .base (.bl b)
  | int i => exact .base (.int i)
  | str x => exact .base (.str x)
  | lst h _ _ => exact .base (.lst h)
  | tup h _ => exact .base (.tup h)
  | dic h _ => exact .base (.dK h)
section
variable {X : Cx} {pins : List (Addr × Obj)} {σ : L2.St} {H : Hp} {s : Shared}
theorem pairs_keys {P : Program} {w : World} {h : Heap} : ∀ {es : List DictEntry} {kvs : List (Key × Value)}, Pairs (mixKind P w) es kvs → ReadsAll h (es.map (·.key)) (kvs.map fun kv => kD kv.1) []
  | _, _, .nil => .nil
  | _, _, .cons (kv := kv) hk _ t => by
    have r := pairs_keys (h := h) t
    rcases keyIs_shape (k := kv.1) hk with ⟨i, u, e1, e2⟩ | ⟨x, u, e1, e2⟩
    · rw [List.map_cons, List.map_cons, e1, e2]
      exact ReadsAll.cons (as := []) (.int i u) r
    · rw [List.map_cons, List.map_cons, e1, e2]
      exact ReadsAll.cons (as := []) (.str x u) r
theorem pairs_vals {P : Program} {w : World} : ∀ {es : List DictEntry} {kvs : List (Key × Value)}, Pairs (mixKind P w) es kvs → es.map (·.val) = kvs.map (·.2)
  | _, _, .nil => rfl
  | _, _, .cons _ hv t => by rw [List.map_cons, List.map_cons, hv, pairs_vals t]
theorem kv_rel : ∀ {kvs : List (Key × V)} {vs : List (Key × Value)}, KV kvs vs → kvs.map (·.1) = vs.map (·.1) ∧ Vals (kvs.map (·.2)) (vs.map (·.2))
  | _, _, .nil => ⟨rfl, .nil⟩
  | _, _, .cons h t => by
    obtain ⟨a, b⟩ := kv_rel t
    exact ⟨by rw [List.map_cons, List.map_cons, a, h.1], .cons h.2 b⟩
mutual
theorem Sh.reads (I : Inv X pins σ H s) : ∀ (v : V) (d : PyData) (u : Value), Sh H v d → RelV v u → ∃ as, Reads s.heap u d as ∧ sysModules ∉ as
  | _, _, _, .non, r => by cases r; exact ⟨_, .none, List.not_mem_nil⟩
  | _, _, _, .bl b, r => by cases r; exact ⟨_, .bool b, List.not_mem_nil⟩
  | _, _, _, .int i, r => by obtain ⟨t, rfl⟩ := r; exact ⟨_, .int i t, List.not_mem_nil⟩
  | _, _, _, .str x, r => by obtain ⟨t, rfl⟩ := r; exact ⟨_, .str x t, List.not_mem_nil⟩
  | _, _, _, .lst (a := a) (xs := xs) h n t, r => by
    cases r
    obtain ⟨_, its, c, rv, ho⟩ := (show ObjOk X.prog X.w H s.heap a (.lst xs) from I.hok a _ h)
    obtain ⟨as, q, m⟩ := ShAll.reads I _ _ its t rv
    exact ⟨_, .list ho rfl rfl (by simpa using q), fun z => (List.mem_cons.mp z).elim (fun e => n e.symm) m⟩
  | _, _, _, .tup (a := a) (xs := xs) h t, r => by
    cases r
    obtain ⟨_, its, rv, o, ho, hc, c, hd⟩ := (show ObjOk X.prog X.w H s.heap a (.tup xs) from I.hok a _ h)
    obtain ⟨as, q, m⟩ := ShAll.reads I _ _ its t rv
    exact ⟨_, .tuple ho hc hd (by simpa using q), m⟩
  | _, _, _, .dic (a := a) (kvs := kvs) (ds := ds) h t, r => by
    cases r
    obtain ⟨_, low, vs, rel, o, es, ep, ho, hx, hd, _, hp, _⟩ := (show ObjOk X.prog X.w H s.heap a (.dK kvs) from I.hok a _ h)
    obtain ⟨rk, rv⟩ := kv_rel rel
    obtain ⟨as, q, m⟩ := ShAll.reads I _ _ (vs.map (·.2)) t rv
    have k1 : (kvs.map fun kv => kD kv.1) = vs.map fun kv => kD kv.1 := by
      have := congrArg (List.map kD) rk
      rw [List.map_map, List.map_map] at this
      exact this
    have ln : (kvs.map fun kv => kD kv.1).length = ds.length := by
      have := t.length
      rw [List.length_map] at this
      rw [List.length_map, this]
    refine ⟨_, .dict (as := []) (bs := as) ho hx.1 hd ?_ ?_, ?_⟩
    · rw [List.map_fst_zip (Nat.le_of_eq ln), k1]
      exact pairs_keys hp
    · rw [List.map_snd_zip (Nat.le_of_eq ln.symm), pairs_vals hp]
      exact q
    · intro z
      rcases List.mem_cons.mp z with e | e
      · exact absurd low (by rw [← e]; simp)
      · exact m e
theorem ShAll.reads (I : Inv X pins σ H s) : ∀ (vs : List V) (ds : List PyData) (us : List Value), ShAll H vs ds → Vals vs us → ∃ as, ReadsAll s.heap us ds as ∧ sysModules ∉ as
  | _, _, _, .nil, r => by cases r; exact ⟨_, .nil, List.not_mem_nil⟩
  | _, _, _, .cons h t, r => by
    cases r with
    | cons r1 r2 =>
      obtain ⟨as, q1, m1⟩ := Sh.reads I _ _ _ h r1
      obtain ⟨bs, q2, m2⟩ := ShAll.reads I _ _ _ t r2
      exact ⟨_, .cons q1 q2, fun z => (List.mem_append.mp z).elim m1 m2⟩
end
end
def rRepr : List V → Hp → VK → Prop := fun xs H Q => ∃ x d, xs = [x] ∧ Sh H x d ∧ d.showable = true ∧ d.shown.length ≤ sizeLine ∧ d.depth ≤ 50 ∧ Q (.str d.shown) H
theorem call_repr {X : Cx} (nothing : X.A.guards = some []) (hu : X.A.units + 64 < cLine) : CallR X (.builtin "repr") rRepr := by
  intro pins s σ H xs us Q I r h
  obtain ⟨x, d, rfl, sh, able, fits, deep, q⟩ := h
  cases r with
  | @cons _ u _ _ r1 r2 =>
    cases r2
    obtain ⟨as, rd, low⟩ := Sh.reads I _ _ _ sh r1
    have fin : ∀ h' t tk, (∀ b o, s.heap.get? b = some o → h'.get? b = some o) → EP X pins σ Q (.str d.shown t) { s with heap := h', toks := tk } := fun h' t tk kept => ⟨.str d.shown, H, I.kept kept, ⟨t, rfl⟩, q⟩
    cases sh with
    | non => cases r1; exact PySem.P.repr_of_none (fin _ _ _ fun _ _ z => z)
    | bl b => cases r1; exact PySem.P.repr_of_bool (fin _ _ _ fun _ _ z => z)
    | int i => obtain ⟨t, rfl⟩ := r1; exact PySem.P.repr_of_int (of_decide_eq_true able) (fin _ _ _ fun _ _ z => z)
    | str x => obtain ⟨t, rfl⟩ := r1; exact PySem.P.repr_of_str (fin _ _ _ fun _ _ z => z) fits
    | lst _ _ _ => cases r1; exact repr_of_reads' rd able (fun _ => low) nothing (by omega) (fun _ _ z => z) fin fits
    | tup _ _ => cases r1; exact repr_of_reads' rd able (fun _ => low) nothing (by omega) (fun _ _ z => z) fin fits
    | dic _ _ => cases r1; exact repr_of_reads' rd able (fun _ => low) nothing (by omega) (fun _ _ z => z) fin fits
/-- a display's list is none of the interpreter's own -/
def tLstN (t : TA) : TE := fun σ H Q => t σ H fun xs H1 => xs.length ≤ sizeLine ∧ ∀ p, H1 p = none → p ≠ sysModules → Q (.ref p) (upd H1 p (.lst xs))
theorem pe_lstN {X : Cx} {es : List Expr} {t : TA} {pos : Pos} (h : PA X es t) : PE X (.List es pos) (tLstN t) := by
  refine ⟨fun pins s σ H Q I told => wpAny_List_spliced (thn (h.run pos pins s σ H _ I told) ?_)⟩
  rintro us s1 ⟨xs, H1, J, r, small, q⟩
  have free : H1 s1.heap.objs.size = none := J.hok.fresh (Nat.le_refl _)
  refine ⟨by rw [← r.length]; exact small, .ref s1.heap.objs.size, upd H1 s1.heap.objs.size (.lst xs), J.laid (t' := s1.toks) (fun b u z => Heap.get?_push_of_some _ z) (Nat.le_refl _) ⟨small, us, 0, r, Heap.get?_push_size _ rfl⟩, rfl, q _ free (Nat.ne_of_gt J.big)⟩
/-! ### the end of a law whose defs are called where nothing is being shown -/
theorem law_G {P : Program} {w : World} {K : PySem.W.Frag} {mg mb : Str → Option Value} {CX : CXT} {k : Nat} {fa a : Addr} {fd : FuncData} {x : Str} {sp : Sp} {s : Shared} {vs : List Value} {ns : List Int}
    (inK : K.In s.heap) (gl : s.heap.Ns mainGlobals mg) (bl : s.heap.Ns builtinsNs mb) (boot : ∀ y : Str, y ≠ "__name__" → mb y = bootBuiltins y) (lim : s.heap.NoLimit) (ng : s.gens = #[])
    (at_ : s.heap.get? a = some { cls := .type "list", data := .seq vs.toArray }) (are : IntsAre vs ns) (small : ns.length ≤ sizeLine) (room : Room k callerA)
    (F : ∀ bs : Heap, K.In bs → bs.Ns mainGlobals mg → FnG P w K mg bs CX k fa fd [x] sp) (bound : ∀ (s : Shared) (u : Value), BindsTo s fd ⟨[u], []⟩ [(x, u)])
    (told : ∀ H : Hp, Only H → SqL K H a (ns.map V.int) → sp [.ref a] H (fun v _ => v = .bl true) fun _ _ _ => False)
    (noX : ∀ H e s', CX [] H s (fun _ _ _ => False) e s' → False) :
    codeAny (model P w) callerA (.call (.ref fa) ⟨[.ref a], []⟩) (fun r s' => r = .ok (.ret (.bool true)) ∧ OldK s.heap s'.heap ∧ s'.os = s.os ∧ AllBare s'.gens) s := by
  have main : ∀ H : Hp, Only H → SqL K H a (ns.map V.int) → HOk P w H s.heap → (∀ b, H b ≠ none → b = a) → (H a ≠ none → K.lookup a = none) →
      codeAny (model P w) callerA (.call (.ref fa) ⟨[.ref a], []⟩) (fun r s' => r = .ok (.ret (.bool true)) ∧ OldK s.heap s'.heap ∧ s'.os = s.os ∧ AllBare s'.gens) s := by
    intro H only list ok alone out
    have seen : ∀ {b : Addr} {o : Obj}, s.heap.get? b = some o → H b = none → (hidT s.heap H).get? b = some o := fun z n => hidT_get z n
    have dict : ∀ {b : Addr} {o : Obj} {es : Array DictEntry} {ep : Nat}, s.heap.get? b = some o → o.data = .dict es ep → H b = none := by
      intro b o es ep z dz
      refine Classical.byContradiction fun some_ => ?_
      have eb := alone b some_
      rw [eb, at_] at z
      cases z
      cases (show Data.seq vs.toArray _ = Data.dict es ep from dz)
    have names : ∀ {b : Addr} {m : Str → Option Value}, s.heap.Ns b m → (hidT s.heap H).Ns b m := by
      rintro b m ⟨o, es, ep, z, dz, rest⟩
      exact ⟨o, es, ep, seen z (dict z dz), dz, rest⟩
    have inB : K.In (hidT s.heap H) := by
      intro b o z
      refine seen (inK b o z) (Classical.byContradiction fun some_ => ?_)
      have eb := alone b some_
      subst eb
      rw [out some_] at z
      cases z
    obtain ⟨ml, l1, l2⟩ := lim
    have mod : Mod K mg (hidT s.heap H) := ⟨inB, names gl, ⟨mb, names bl, boot⟩, ⟨ml, names l1, l2⟩⟩
    have env : Env0 P w K mg (hidT s.heap H) callerA [] s H := { frames := rfl, mod := mod, bs := fun b o z => of_hidT z, bsz := Nat.le_of_eq (hidT_size _ _), funs := trivial, frf := (fun b hb => by cases (show b ∈ ([] : List Addr) from hb)), hok := ok, bare := .of_eq ng }
    refine codeAny_mono ((F _ inB (names gl)).go callerA rfl room [] s H _ [.ref a] [.ref a] _ _ env (bound s (.ref a)) (.cons rfl .nil) (told H only list)) fun r s2 z => ?_
    match r, z with
    | .error e, z => exact (noX H e s2 z).elim
    | .ok .next, z => exact z.elim
    | .ok .brk, z => exact z.elim
    | .ok .cont, z => exact z.elim
    | .ok (.ret u), ⟨v, H2, os, bare, un, ok2, rel, q⟩ =>
      cases (show v = V.bl true from q)
      cases (show u = Value.bool true from rel)
      refine ⟨rfl, OldK.of_keep fun b o z => ?_, os, bare⟩
      by_cases hb : H b = none
      · exact un.keep b o z hb (fun m => by cases (show b ∈ ([] : List Addr) from m)) (fun m => by cases m)
      · rcases only b with n | ⟨ob, xs, f⟩
        · exact absurd n hb
        · have o1 := (ok b _ f).1
          have o2 := (ok2 b _ (un.frzs b ob _ f)).1
          rw [z] at o1
          rw [Option.some.inj o1]
          exact o2
  have rel := vals_ints are
  cases hk : K.lookup a with
  | some o =>
    have z := inK a o hk
    rw [at_] at z
    cases z
    exact main (fun _ => none) (fun _ => .inl rfl) (.inr ⟨_, vs.toArray, _, hk, rfl, rfl, rfl, by rw [List.size_toArray, are.length]; exact small, by simpa using rel⟩) (fun b u z => by cases z) (fun b z => absurd rfl z) fun z => absurd rfl z
  | none =>
    have on : ∀ b : Addr, b = a → (if b = a then some (HO.frz { cls := .type "list", data := .seq vs.toArray } (.lst (ns.map V.int))) else none) = some (HO.frz { cls := .type "list", data := .seq vs.toArray } (.lst (ns.map V.int))) := fun b e => if_pos e
    refine main (fun b => if b = a then some (.frz { cls := .type "list", data := .seq vs.toArray } (.lst (ns.map V.int))) else none) (fun b => ?_) (.inl (.inr ⟨_, on a rfl⟩)) (fun b u z => ?_) (fun b z => ?_) fun _ => hk
    · rcases Classical.em (b = a) with e | e
      · exact .inr ⟨_, _, on b e⟩
      · exact .inl (if_neg e)
    · rcases Classical.em (b = a) with e | e
      · have := (on b e).symm.trans z
        cases this
        subst e
        exact ⟨at_, by rw [List.length_map]; exact small, vs, _, rel, at_⟩
      · have := (if_neg e).symm.trans z
        cases this
    · exact Classical.byContradiction fun e => z (if_neg e)
theorem walk_G {l : PySem.W.OpenLaw} {n k : Nat} {q : Program} {loose : List Str} {XP : (Str → Option Value) → Heap → Prop} {YP : World → Heap → Prop} {d : DefRec} {K : Params → PySem.W.Frag} {CX : World → CXT} {sp : World → Sp} {x : Str}
    (most : l.most = some n) (small : n ≤ sizeLine) (nodef : d.params.defaults = []) (room : Room k callerA) (inK : ∀ (w : World) (h : Heap), YP w h → (K w.params).In h)
    (F : ∀ (w : World) (mg : Str → Option Value) (fa : Addr) (h : Heap), (K w.params).In h → h.Ns mainGlobals mg → mg d.name = some (.ref fa) →
      ∃ fd : FuncData, (∀ (s : Shared) (u : Value), BindsTo s fd ⟨[u], []⟩ [(x, u)]) ∧ ∀ bs : Heap, (K w.params).In bs → bs.Ns mainGlobals mg → FnG l.prog w (K w.params) mg bs (CX w) k fa fd [x] (sp w))
    (told : ∀ (w : World) (H : Hp) (a : Addr) (ns : List Int), ns.length ≤ n → Only H → SqL (K w.params) H a (ns.map V.int) → sp w [.ref a] H (fun v _ => v = .bl true) fun _ _ _ => False)
    (noX : ∀ (w : World) (H : Hp) (s : Shared) (e : Value) (s' : Shared), CX w [] H s (fun _ _ _ => False) e s' → False) :
    PySem.W.WalkO q loose XP YP l.row.toRowW d [] (fun f vs => PySem.call f vs) := by
  refine Att.attach_call most nodef fun w s₀ s₁ mg mb fa o pm cd doc a vs ns G Y ho hd hcd hmg hobj hints hlen hg => ?_
  obtain ⟨fd, bound, FG⟩ := F w mg fa _ (inK w _ Y) G.T.g hmg
  exact law_G (inK w _ Y) G.T.g G.T.b G.T.builtins G.T.nolimit hg hobj hints (Nat.le_trans hlen small) room FG bound (fun H only list => told w H a ns hlen only list) fun H e s2 => noX w H s₁ e s2

/-! ### data made by the law or the program: numbers, truths, texts, lists and tuples of these -/
mutual
inductive Tk (H : Hp) : V → PyData → Prop
  | bl (b : Bool) : Tk H (.bl b) (.bool b)
  | int (i : Int) : Tk H (.int i) (.int i)
  | str (x : Str) : Tk H (.str x) (.str x)
  | lst {a : Addr} {xs : List V} {ds : List PyData} : H a = some (.lst xs) → TkAll H xs ds → Tk H (.ref a) (.list ds)
  | tup {a : Addr} {xs : List V} {ds : List PyData} : H a = some (.tup xs) → TkAll H xs ds → Tk H (.ref a) (.tuple ds)
inductive TkAll (H : Hp) : List V → List PyData → Prop
  | nil : TkAll H [] []
  | cons {v : V} {vs : List V} {d : PyData} {ds : List PyData} : Tk H v d → TkAll H vs ds → TkAll H (v :: vs) (d :: ds)
end
theorem TkAll.length {H : Hp} : ∀ {vs : List V} {ds : List PyData}, TkAll H vs ds → vs.length = ds.length
  | _, _, .nil => rfl
  | _, _, .cons _ t => by rw [List.length_cons, List.length_cons, t.length]
mutual
theorem Tk.same {H H' : Hp} (s : Same H H') : ∀ {v : V} {d : PyData}, Tk H v d → Tk H' v d
  | _, _, .bl b => .bl b
  | _, _, .int i => .int i
  | _, _, .str x => .str x
  | _, _, .lst h t => .lst (s _ _ h) (t.same s)
  | _, _, .tup h t => .tup (s _ _ h) (t.same s)
theorem TkAll.same {H H' : Hp} (s : Same H H') : ∀ {vs : List V} {ds : List PyData}, TkAll H vs ds → TkAll H' vs ds
  | _, _, .nil => .nil
  | _, _, .cons h t => .cons (h.same s) (t.same s)
end
theorem TkAll.get {H : Hp} : ∀ {xs : List V} {ds : List PyData} {j : Nat} {x : V}, TkAll H xs ds → xs[j]? = some x → ∃ d, ds[j]? = some d ∧ Tk H x d
  | _, _, _, _, .nil, h => by simp at h
  | _, _, 0, _, .cons (d := d) a _, h => by
    cases (Option.some.inj h)
    exact ⟨d, rfl, a⟩
  | _, _, j + 1, _, .cons _ t, h => t.get h
theorem TkAll.append {H : Hp} : ∀ {xs ys : List V} {ds es : List PyData}, TkAll H xs ds → TkAll H ys es → TkAll H (xs ++ ys) (ds ++ es)
  | _, _, _, _, .nil, t => t
  | _, _, _, _, .cons a r, t => .cons a (r.append t)
theorem TkAll.ints {H : Hp} : ∀ ns : List Int, TkAll H (ns.map V.int) (ns.map PyData.int)
  | [] => .nil
  | n :: r => .cons (.int n) (TkAll.ints r)
theorem Tk.int_inv {H : Hp} {v : V} {i : Int} (h : Tk H v (.int i)) : v = .int i := by cases h; rfl
theorem Tk.tup_inv {H : Hp} {v : V} {ds : List PyData} (h : Tk H v (.tuple ds)) : ∃ a xs, v = .ref a ∧ H a = some (.tup xs) ∧ TkAll H xs ds := by
  cases h with
  | tup h t => exact ⟨_, _, rfl, h, t⟩
theorem Tk.lst_inv {H : Hp} {v : V} {ds : List PyData} (h : Tk H v (.list ds)) : ∃ a xs, v = .ref a ∧ H a = some (.lst xs) ∧ TkAll H xs ds := by
  cases h with
  | lst h t => exact ⟨_, _, rfl, h, t⟩
theorem TkAll.int_inv {H : Hp} : ∀ {vs : List V} {ns : List Int}, TkAll H vs (ns.map PyData.int) → vs = ns.map V.int
  | _, [], .nil => rfl
  | _, n :: r, .cons h t => by rw [List.map_cons, h.int_inv, t.int_inv]
/-- heaps without one place -/
def hd1 (p : Addr) (H : Hp) : Hp := fun b => if b = p then none else H b
theorem hd1_le {p : Addr} {H : Hp} : Same (hd1 p H) H := fun b o e => by
  unfold hd1 at e
  by_cases h : b = p
  · rw [if_pos h] at e; cases e
  · rw [if_neg h] at e; exact e
theorem hd1_same {p : Addr} {H H' : Hp} (s : Same H H') : Same (hd1 p H) (hd1 p H') := fun b o e => by
  unfold hd1 at e ⊢
  by_cases h : b = p
  · rw [if_pos h] at e; cases e
  · rw [if_neg h] at e ⊢; exact s _ _ e
theorem hd1_upd {p : Addr} {H : Hp} {o : HO} : Same (hd1 p H) (hd1 p (upd H p o)) := fun b x e => by
  unfold hd1 at e ⊢
  by_cases h : b = p
  · rw [if_pos h] at e; cases e
  · rw [if_neg h] at e ⊢; rw [upd_ne h]; exact e
theorem hd1_at {p b : Addr} {H : Hp} (h : b ≠ p) : hd1 p H b = H b := if_neg h
theorem hd1_of {p : Addr} {H H' : Hp} (s : Same H H') (n : H p = none) : Same H (hd1 p H') := fun b o e => by
  rw [hd1_at (ne_of_none e n)]
  exact s _ _ e
theorem same_of_hd1 {p : Addr} {H H' : Hp} {o : HO} (s : Same H (hd1 p H')) : Same H (upd H' p o) := fun b x e => by
  have z := s b x e
  unfold hd1 at z
  by_cases h : b = p
  · rw [if_pos h] at z; cases z
  · rw [if_neg h] at z; rw [upd_ne h]; exact z

/-! ### tables and gates -/
def tabOf (bs : List Bool) : Str := ⟨(bs.map fun b => if b = true then 49 else 48).toArray⟩
def plc (ws : List Int) : Int := ws.foldl (fun p w => 2 * p + w) 0
def gateM (bs : List Bool) (ws : List Int) : Int := if bs.getD (plc ws).toNat false = true then 1 else 0
theorem plc_snoc (ws : List Int) (w : Int) : plc (ws ++ [w]) = 2 * plc ws + w := by
  unfold plc
  rw [List.foldl_append]
  rfl
theorem plc_take {ws : List Int} {i : Nat} {u : Int} (h : ws[i]? = some u) : plc (ws.take (i + 1)) = 2 * plc (ws.take i) + u := by
  rw [List.take_add_one, h]
  exact plc_snoc _ _
theorem plc_bd : ∀ (n : Nat) (ws : List Int), ws.length = n → (∀ w ∈ ws, w = 0 ∨ w = 1) → 0 ≤ plc ws ∧ plc ws < 2 ^ n := by
  intro n
  induction n with
  | zero =>
    intro ws h _
    cases List.eq_nil_of_length_eq_zero h
    decide
  | succ n ih =>
    intro ws h hw
    have hne : ws ≠ [] := fun z => by rw [z] at h; cases h
    obtain ⟨r, x, rfl⟩ : ∃ r x, ws = r ++ [x] := ⟨ws.dropLast, ws.getLast hne, (List.dropLast_concat_getLast hne).symm⟩
    have hr := ih r (by rw [List.length_append] at h; simpa using h) fun w h' => hw w (List.mem_append_left _ h')
    have hx := hw x (by simp)
    rw [plc_snoc, Int.pow_succ]
    omega
theorem gate01 (bs : List Bool) (ws : List Int) : gateM bs ws = 0 ∨ gateM bs ws = 1 := by
  unfold gateM
  split
  · exact .inr rfl
  · exact .inl rfl
theorem int_sign (b : Bool) : PySem.intText? ⟨#[if b = true then 49 else 48]⟩ = some (if b = true then 1 else 0) := by
  cases b <;> decide +kernel
def spGate (K : PySem.W.Frag) : Sp := fun vs H Q _ => ∃ (bs : List Bool) (la : Addr) (ws : List Int), vs = [.str (tabOf bs), .ref la] ∧ SqL K H la (ws.map V.int) ∧ (∀ w ∈ ws, w = 0 ∨ w = 1) ∧ bs.length = 2 ^ ws.length ∧ ws.length ≤ 3 ∧ Q (.int (gateM bs ws)) H
theorem gate_read {bs : List Bool} {ws : List Int} (hw : ∀ w ∈ ws, w = 0 ∨ w = 1) (hb : bs.length = 2 ^ ws.length) (h3 : ws.length ≤ 3) : ∃ b : Bool, 0 ≤ plc ws ∧ plc ws < 2 ^ 63 ∧ plc ws < (tabOf bs).length ∧ (tabOf bs).cps[(plc ws).toNat]? = some (if b = true then 49 else 48) ∧ gateM bs ws = if b = true then 1 else 0 := by
  obtain ⟨p0, p1⟩ := plc_bd _ ws rfl hw
  have p8 : plc ws < 8 := by
    have : (2 : Int) ^ ws.length ≤ 8 := by
      have : ws.length = 0 ∨ ws.length = 1 ∨ ws.length = 2 ∨ ws.length = 3 := by omega
      rcases this with h | h | h | h <;> rw [h] <;> decide
    omega
  have hlt : (plc ws).toNat < bs.length := by
    have : ((2 ^ ws.length : Nat) : Int) = (2 : Int) ^ ws.length := by simp
    omega
  refine ⟨bs[(plc ws).toNat], p0, by omega, ?_, ?_, ?_⟩
  · have : (tabOf bs).length = bs.length := by simp [tabOf, Str.length]
    rw [this]
    omega
  · simp [tabOf, List.getElem?_eq_getElem hlt]
  · unfold gateM
    rw [List.getD_eq_getElem?_getD, List.getElem?_eq_getElem hlt]
    rfl

section
variable {P : Program} {w : World} {K : PySem.W.Frag} {mg : Str → Option Value} {base : Heap}
/-! ### sizes of what is shown -/
def fineB (n m : Nat) (d : PyData) : Bool := d.showable && (d.leavesShort 200 && (decide (d.weight ≤ n) && decide (d.depth ≤ m)))
theorem fine_iff {n m : Nat} {d : PyData} : fineB n m d = true ↔ d.showable = true ∧ d.leavesShort 200 = true ∧ d.weight ≤ n ∧ d.depth ≤ m := by
  unfold fineB
  rw [Bool.and_eq_true, Bool.and_eq_true, Bool.and_eq_true, decide_eq_true_eq, decide_eq_true_eq]
theorem fine_mono {n m n' m' : Nat} {d : PyData} (h : fineB n m d = true) (a : n ≤ n') (b : m ≤ m') : fineB n' m' d = true := by
  obtain ⟨h1, h2, h3, h4⟩ := fine_iff.mp h
  exact fine_iff.mpr ⟨h1, h2, Nat.le_trans h3 a, Nat.le_trans h4 b⟩
theorem fine_fits {n m : Nat} {d : PyData} (h : fineB n m d = true) (hn : n ≤ 50000) : d.shown.length ≤ sizeLine := by
  obtain ⟨_, h2, h3, _⟩ := fine_iff.mp h
  have := PyData.shown_le 200 (by decide) d h2
  have e : sizeLine = 16777216 := by decide
  rw [e]
  omega
theorem fine_all {n m : Nat} : ∀ {ds : List PyData}, (∀ d ∈ ds, fineB n m d = true) → PyData.showableAll ds = true ∧ PyData.leavesShortAll 200 ds = true ∧ PyData.weightAll ds ≤ ds.length * (n + 1) ∧ PyData.depthAll ds ≤ m
  | [], _ => ⟨rfl, rfl, Nat.zero_le _, Nat.zero_le _⟩
  | d :: r, h => by
    obtain ⟨a1, a2, a3, a4⟩ := fine_iff.mp (h d (List.mem_cons_self ..))
    obtain ⟨b1, b2, b3, b4⟩ := fine_all (ds := r) fun x hx => h x (List.mem_cons_of_mem _ hx)
    refine ⟨?_, ?_, ?_, ?_⟩
    · unfold PyData.showableAll
      rw [a1, b1]
      rfl
    · unfold PyData.leavesShortAll
      rw [a2, b2]
      rfl
    · unfold PyData.weightAll
      rw [List.length_cons, Nat.succ_mul]
      omega
    · unfold PyData.depthAll
      omega
theorem fine_tup {n m k : Nat} {ds : List PyData} (h : ∀ d ∈ ds, fineB n m d = true) (hk : ds.length ≤ k) : fineB (k * (n + 1)) (m + 1) (.tuple ds) = true := by
  obtain ⟨b1, b2, b3, b4⟩ := fine_all h
  refine fine_iff.mpr ⟨b1, b2, ?_, ?_⟩
  · show PyData.weightAll ds ≤ _
    exact Nat.le_trans b3 (Nat.mul_le_mul_right _ hk)
  · show PyData.depthAll ds + 1 ≤ _
    omega
theorem fine_lst {n m k : Nat} {ds : List PyData} (h : ∀ d ∈ ds, fineB n m d = true) (hk : ds.length ≤ k) : fineB (k * (n + 1)) (m + 1) (.list ds) = true := by
  obtain ⟨b1, b2, b3, b4⟩ := fine_all h
  refine fine_iff.mpr ⟨b1, b2, ?_, ?_⟩
  · show PyData.weightAll ds ≤ _
    exact Nat.le_trans b3 (Nat.mul_le_mul_right _ hk)
  · show PyData.depthAll ds + 1 ≤ _
    omega
/-! ### heaps without some places -/
def hid (as : List Addr) (H : Hp) : Hp := fun b => if b ∈ as then none else H b
theorem hid_at {as : List Addr} {H : Hp} {b : Addr} (h : b ∉ as) : hid as H b = H b := if_neg h
theorem hid_in {as : List Addr} {H : Hp} {b : Addr} (h : b ∈ as) : hid as H b = none := if_pos h
theorem hid_le {as : List Addr} {H : Hp} : Same (hid as H) H := fun b o e => by
  by_cases h : b ∈ as
  · rw [hid_in h] at e; cases e
  · rw [hid_at h] at e; exact e
theorem hid_sub {as bs : List Addr} {H : Hp} (h : ∀ b ∈ bs, b ∈ as) : Same (hid as H) (hid bs H) := fun b o e => by
  by_cases ha : b ∈ as
  · rw [hid_in ha] at e; cases e
  · rw [hid_at ha] at e
    rw [hid_at (fun z => ha (h b z))]
    exact e
theorem hid_same {as : List Addr} {H H' : Hp} (s : Same H H') : Same (hid as H) (hid as H') := fun b o e => by
  by_cases ha : b ∈ as
  · rw [hid_in ha] at e; cases e
  · rw [hid_at ha] at e ⊢
    exact s _ _ e
theorem hid_fr {as : List Addr} {d l : Addr} {H H' : Hp} (f : Fr d l H H') (hd : d ∈ as) (hl : l ∈ as) : Same (hid as H) (hid as H') := fun b o e => by
  by_cases ha : b ∈ as
  · rw [hid_in ha] at e; cases e
  · rw [hid_at ha] at e ⊢
    exact f _ _ (fun z => ha (z ▸ hd)) (fun z => ha (z ▸ hl)) e
theorem hid_upd {as : List Addr} {H : Hp} {p : Addr} {o : HO} (h : p ∈ as) : Same (hid as H) (hid as (upd H p o)) := fun b x e => by
  by_cases ha : b ∈ as
  · rw [hid_in ha] at e; cases e
  · rw [hid_at ha] at e ⊢
    rw [upd_ne (show b ≠ p from fun z => ha (by rw [z]; exact h))]
    exact e
theorem ShAll.get {H : Hp} : ∀ {xs : List V} {ds : List PyData} {j : Nat} {x : V}, ShAll H xs ds → xs[j]? = some x → ∃ d, ds[j]? = some d ∧ Sh H x d
  | _, _, _, _, .nil, h => by simp at h
  | _, _, 0, _, .cons (d := d) a _, h => by
    cases (Option.some.inj h)
    exact ⟨d, rfl, a⟩
  | _, _, j + 1, _, .cons _ t, h => t.get h
theorem ShAll.append {H : Hp} : ∀ {xs ys : List V} {ds es : List PyData}, ShAll H xs ds → ShAll H ys es → ShAll H (xs ++ ys) (ds ++ es)
  | _, _, _, _, .nil, t => t
  | _, _, _, _, .cons a r, t => .cons a (r.append t)
theorem ShAll.take {H : Hp} : ∀ {xs : List V} {ds : List PyData} (n : Nat), ShAll H xs ds → ShAll H (xs.take n) (ds.take n)
  | _, _, 0, _ => by rw [List.take_zero, List.take_zero]; exact .nil
  | _, _, n + 1, .nil => .nil
  | _, _, n + 1, .cons a r => .cons a (r.take n)
theorem ShAll.drop {H : Hp} : ∀ {xs : List V} {ds : List PyData} (n : Nat), ShAll H xs ds → ShAll H (xs.drop n) (ds.drop n)
  | _, _, 0, h => h
  | _, _, n + 1, .nil => .nil
  | _, _, n + 1, .cons _ r => r.drop n
theorem ShAll.set {H : Hp} {y : V} {e : PyData} (h : Sh H y e) : ∀ {xs : List V} {ds : List PyData} (j : Nat), ShAll H xs ds → ShAll H (xs.set j y) (ds.set j e)
  | _, _, _, .nil => .nil
  | _, _, 0, .cons _ r => .cons h r
  | _, _, j + 1, .cons a r => .cons a (ShAll.set h j r)
theorem ShAll.erase {H : Hp} : ∀ {xs : List V} {ds : List PyData} (j : Nat), ShAll H xs ds → ShAll H (xs.eraseIdx j) (ds.eraseIdx j)
  | _, _, _, .nil => .nil
  | _, _, 0, .cons _ r => r
  | _, _, j + 1, .cons a r => .cons a (r.erase j)
theorem Deck.out {H H' : Hp} {d l p : Addr} (D : Deck H d l) (s : Same H H') (n : H' p = none) : p ∉ [d, l] := by
  obtain ⟨a, b⟩ := (D.same s).ne_new n
  intro h
  rcases List.mem_cons.mp h with h | h
  · exact a h
  · rcases List.mem_cons.mp h with h | h
    · exact b h
    · cases h
theorem upd2_same {H : Hp} {p : Addr} {o o' : HO} (h : H p = none) : Same H (upd (upd H p o) p o') := fun b x e => by
  rw [upd_ne (ne_of_none e h), upd_ne (ne_of_none e h)]
  exact e
theorem at_some {xs : List V} {j : Int} (h0 : 0 ≤ j) (h1 : j < xs.length) : ∃ (k : Nat) (x : V), k < xs.length ∧ xs[k]? = some x ∧ atI xs j = some x ∧ ixN xs.length j = some k ∧ j = (k : Int) := by
  obtain ⟨k, rfl⟩ : ∃ k : Nat, j = (k : Int) := ⟨j.toNat, (Int.toNat_of_nonneg h0).symm⟩
  have hk : k < xs.length := by omega
  refine ⟨k, xs[k], hk, List.getElem?_eq_getElem hk, atI_nat (List.getElem?_eq_getElem hk), ?_, rfl⟩
  unfold ixN
  rw [if_pos h0, if_pos h1]
  rfl

/-! ### the deck -/
def sp_deck (K : PySem.W.Frag) : Sp := fun vs H Q _ => ∃ (a : Addr) (ns : List Int), vs = [.ref a] ∧ SqL K H a (ns.map V.int) ∧ ns.length ≤ 63 ∧ ∀ H' d l, Same H H' → Deck H' d l → Q (.ref d) H'
theorem cut63 {ns : List Int} (h : ns.length ≤ 63) : cutV (ns.map V.int) none (some 63) = ns.map V.int := by
  unfold cutV
  have e : HT.sIx (ns.map V.int).length (ns.map V.int).length (some 63) = min 63 (ns.map V.int).length := HT.sIx_nat _ _ 63
  rw [HT.sIx_none, e, List.length_map, List.drop_zero]
  apply List.take_of_length_le
  rw [List.length_map]
  omega
theorem ok_deck (T : Tx K mg) : FnOk P w K mg base CX0 1 T.f_deck T.fd_deck ["_law_script"] (sp_deck K) := by
  refine T.F_deck.ok sc_deck (fun vs H Q E h => ?_) (fun cdv A outer s H vs Q E hr h => ?_)
  · obtain ⟨a, ns, rfl, _⟩ := h
    rfl
  · obtain ⟨a, ns, rfl, hS, hlen, q⟩ := h
    refine ⟨_, (pss_cons (ps_set (i := 1) sc_deck.nd rfl (by first | exact .inl rfl | exact .inr rfl) (pe_op op_add pe_int (pe_op op_mod (pe_callB (cr_sum rfl) (by rfl) T.m_sum (by decide +kernel) (pa_cons (pe_slice sl_list (pv 0) po_none (po_some pe_int)) pa_nil)) pe_int))) (pss_one (ps_ret (pe_lst (pa_cons (pe_callTy call_list_of (by rfl) T.m_list (by decide +kernel) (pa_cons (pe_slice sl_list (pv 0) po_none (po_some pe_int)) pa_nil)) (pa_cons (pv 1) pa_nil)))))), ?_⟩
    refine ⟨.ref a, rfl, 63, rfl, a, _, rfl, hS, fun c nc => ?_⟩
    rw [cut63 hlen]
    have s1 : Same H (upd H c (.lst (ns.map V.int))) := same_upd nc
    refine ⟨c, ns, rfl, SqL.of upd_same, _, _, rfl, rfl, p29, _, _, rfl, rfl, ?_⟩
    refine ⟨.ref a, rfl, 63, rfl, a, _, rfl, s1.seq hS, fun c2 nc2 => ?_⟩
    rw [cut63 hlen]
    refine ⟨c2, _, rfl, .inl (SqL.of upd_same), fun l nl => ?_⟩
    refine ⟨_, rfl, sl2, fun d nd => ?_⟩
    have nld : l ≠ d := fun e => by rw [← e, upd_same] at nd; cases nd
    refine q _ d l (((s1.trans (same_upd nc2)).trans (same_upd nl)).trans (same_upd nd)) ⟨nld.symm, ns, _, upd_same, (by rw [upd_ne nld, upd_same]), hlen, ?_, ?_⟩
    · have := Int.emod_nonneg ns.sum (show (2147483629 : Int) ≠ 0 by decide)
      omega
    · have := Int.emod_lt_of_pos ns.sum (show (0 : Int) < 2147483629 by decide)
      omega
/-! ### a draw -/
def sp_draw (K : PySem.W.Frag) : Sp := fun vs H Q _ => ∃ (d l : Addr) (m : Int), vs = [.ref d, .int m] ∧ Deck H d l ∧ 0 < m ∧ m < 1073741824 ∧ ∀ H' v, Deck H' d l → Fr d l H H' → 0 ≤ v → v < m → Q (.int v) H'
theorem ok_draw (T : Tx K mg) : FnOk P w K mg base CX0 1 T.f_draw T.fd_draw ["_law_deck_here", "_law_most"] (sp_draw K) := by
  refine T.F_draw.ok sc_draw (fun vs H Q E h => ?_) (fun cdv A outer s H vs Q E hr h => ?_)
  · obtain ⟨d, l, m, rfl, _⟩ := h
    rfl
  · obtain ⟨d, l, m, rfl, D, hm0, hm1, q⟩ := h
    obtain ⟨ne, cs, z, hd, hl, hcs, hz0, hz1⟩ := D
    refine ⟨_, (pss_cons (ps_if (pt_cmpR (op_eqD hr.units) (pe_ix ix_list (pv 0) pe_int (fun _ _ => rfl)) (pe_lst pa_nil) (nomark _)) (pss_cons (ps_asg (pe_op op_mod (pe_op op_add (pe_op op_add (pe_op op_mul (pe_ix ix_list (pv 0) pe_int (fun _ _ => rfl)) (pe_ix ix_list (pv 0) pe_int (fun _ _ => rfl))) (pe_op op_mul pe_int (pe_ix ix_list (pv 0) pe_int (fun _ _ => rfl)))) pe_int) pe_int) (pg_sub (pv 0) pe_int set_list)) (pss_cons (ps_asg (pe_op op_mod (pe_op op_add (pe_op op_add (pe_op op_mul (pe_ix ix_list (pv 0) pe_int (fun _ _ => rfl)) (pe_ix ix_list (pv 0) pe_int (fun _ _ => rfl))) (pe_op op_mul pe_int (pe_ix ix_list (pv 0) pe_int (fun _ _ => rfl)))) pe_int) pe_int) (pg_sub (pv 0) pe_int set_list)) (pss_one (ps_ret (pe_op op_mod (pe_op op_fdiv (pe_ix ix_list (pv 0) pe_int (fun _ _ => rfl)) pe_int) (pv 1)))))) pss_nil) (pss_cons (ps_set (i := 2) sc_draw.nd rfl (by first | exact .inl rfl | exact .inr rfl) (pe_bm PySem.F.plainAttrs_list PySem.F.slot_list_pop PySem.F.type_list_pop mt_popAt (pe_ix ix_list (pv 0) pe_int (fun _ _ => rfl)) (pa_cons pe_int pa_nil))) (pss_cons (ps_if (pt_cmpR op_ge (pv 2) (pe_op op_pow pe_int pe_int) (nomark _)) (pss_cons (ps_expr (pe_bm PySem.F.plainAttrs_list PySem.F.slot_list_insert PySem.F.type_list_insert mt_insert (pe_ix ix_list (pv 0) pe_int (fun _ _ => rfl)) (pa_cons pe_int (pa_cons (pe_op op_fdiv (pv 2) (pv 1)) pa_nil)))) (pss_one (ps_ret (pe_op op_mod (pv 2) (pv 1))))) pss_nil) (pss_cons (ps_asg (pe_op op_mod (pe_op op_add (pe_ix ix_list (pv 0) pe_int (fun _ _ => rfl)) pe_int) pe_int) (pg_sub (pv 0) pe_int set_list)) (pss_cons (ps_set (i := 3) sc_draw.nd rfl (by first | exact .inl rfl | exact .inr rfl) (pe_op op_mod (pe_op op_add (pe_op op_mul (pe_op op_mod (pv 2) pe_int) pe_int) (pe_ix ix_list (pv 0) pe_int (fun _ _ => rfl))) pe_int)) (pss_one (ps_ret (pe_op op_mod (pe_op op_fdiv (pe_op op_mod (pe_op op_add (pe_op op_mul (pv 3) (pv 3)) (pe_op op_mul pe_int (pv 3))) pe_int) pe_int) (pv 1))))))))), ?_⟩
    -- if deck[0] == []
    refine ⟨.ref d, rfl, d, _, 0, .ref l, rfl, rfl, SqL.of hd, rfl, Nat.zero_le _, fun p np => ?_⟩
    have fr1 : Fr d l H (upd H p (.lst [])) := Fr.new np
    have hd1 : (upd H p (.lst [])) d = some (.lst [.ref l, .int z]) := same_upd np _ _ hd
    have hl1 : (upd H p (.lst [])) l = some (.lst (cs.map V.int)) := same_upd np _ _ hl
    refine ⟨.list (cs.map .int), .list [], .lst (SqL.of hl1) (dpInts cs), .lst (SqL.of upd_same) .nil, shInts cs, rfl, _, rfl, ?_⟩
    revert fr1 hd1 hl1
    generalize upd H p (.lst []) = H1
    intro fr1 hd1 hl1
    cases cs with
    | nil =>
      refine iteT ?_
      -- two stores
      refine ⟨.ref d, rfl, d, _, 1, .int z, rfl, rfl, SqL.of hd1, rfl, .ref d, rfl, d, _, 1, .int z, rfl, rfl, SqL.of hd1, rfl, z, z, rfl, rfl, .inl ⟨by omega, by omega⟩, .ref d, rfl, d, _, 1, .int z, rfl, rfl, SqL.of hd1, rfl, 48271, z, rfl, rfl, .inl ⟨by decide, by decide⟩, _, _, rfl, rfl, _, _, rfl, rfl, _, _, rfl, rfl, p47, .ref d, rfl, d, _, 1, 1, rfl, rfl, hd1, rfl, ?_⟩
      dsimp only
      have y0 := Int.emod_nonneg (z * z + 48271 * z + 11) (show (2147483647 : Int) ≠ 0 by decide)
      have y1 := Int.emod_lt_of_pos (z * z + 48271 * z + 11) (show (0 : Int) < 2147483647 by decide)
      revert y0 y1
      generalize (z * z + 48271 * z + 11) % 2147483647 = y
      intro y0 y1
      have hd2 : (upd H1 d (.lst [.ref l, .int y])) d = some (.lst [.ref l, .int y]) := upd_same
      have hl2 : (upd H1 d (.lst [.ref l, .int y])) l = some (.lst []) := by rw [upd_ne ne.symm]; exact hl1
      have fr2 : Fr d l H (upd H1 d (.lst [.ref l, .int y])) := fr1.trans Fr.d
      refine ⟨.ref d, rfl, d, _, 1, .int y, rfl, rfl, SqL.of hd2, rfl, .ref d, rfl, d, _, 1, .int y, rfl, rfl, SqL.of hd2, rfl, y, y, rfl, rfl, .inl ⟨by omega, by omega⟩, .ref d, rfl, d, _, 1, .int y, rfl, rfl, SqL.of hd2, rfl, 69621, y, rfl, rfl, .inl ⟨by decide, by decide⟩, _, _, rfl, rfl, _, _, rfl, rfl, _, _, rfl, rfl, p29, .ref d, rfl, d, _, 1, 1, rfl, rfl, hd2, rfl, ?_⟩
      dsimp only
      have x0 := Int.emod_nonneg (y * y + 69621 * y + 7) (show (2147483629 : Int) ≠ 0 by decide)
      have x1 := Int.emod_lt_of_pos (y * y + 69621 * y + 7) (show (0 : Int) < 2147483629 by decide)
      revert x0 x1
      generalize (y * y + 69621 * y + 7) % 2147483629 = x
      intro x0 x1
      refine ⟨.ref d, rfl, d, _, 1, .int x, rfl, rfl, SqL.of upd_same, rfl, _, _, rfl, rfl, ⟨by decide, by decide⟩, .int m, rfl, _, _, rfl, rfl, hm0, ?_⟩
      exact q _ _ ⟨ne, [], x, upd_same, (by rw [upd_ne ne.symm]; exact hl2), hcs, by omega, by omega⟩ (fr2.trans Fr.d) (Int.emod_nonneg _ (by omega)) (Int.emod_lt_of_pos _ hm0)
    | cons c r =>
      refine iteF ?_
      -- cell = deck[0].pop(0)
      refine ⟨.ref d, rfl, d, _, 0, .ref l, rfl, rfl, SqL.of hd1, rfl, .inl ⟨rfl, _, SqL.of hl1⟩, l, _, 0, 0, .int c, rfl, rfl, hl1, by decide, by decide, seqIx0 _ _, rfl, ?_⟩
      have hd2 : (upd H1 l (.lst (r.map V.int))) d = some (.lst [.ref l, .int z]) := by rw [upd_ne ne]; exact hd1
      have hl2 : (upd H1 l (.lst (r.map V.int))) l = some (.lst (r.map V.int)) := upd_same
      have fr2 : Fr d l H (upd H1 l (.lst (r.map V.int))) := fr1.trans Fr.l
      have hr63 : r.length + 1 ≤ 63 := hcs
      -- if cell >= 10 ** 18
      refine ⟨.int c, rfl, _, _, rfl, rfl, ⟨by decide, by decide, by decide⟩, _, _, rfl, rfl, _, rfl, ite2 (fun _ => ?_) (fun _ => ?_)⟩
      · refine ⟨.ref d, rfl, d, _, 0, .ref l, rfl, rfl, SqL.of hd2, rfl, .inl ⟨rfl, _, SqL.of hl2⟩, .int c, rfl, .int m, rfl, _, _, rfl, rfl, ⟨hm0, hm1⟩, l, _, 0, _, rfl, rfl, hl2, ?_, by decide, by decide, ?_⟩
        · rw [List.length_map]
          exact Nat.lt_of_lt_of_le (show r.length < 64 by omega) (by decide)
        · refine ⟨.int c, rfl, .int m, rfl, _, _, rfl, rfl, hm0, ?_⟩
          refine q _ _ ⟨ne, c / m :: r, z, (by rw [upd_ne ne]; exact hd2), ?_, hr63, hz0, hz1⟩ (fr2.trans Fr.l) (Int.emod_nonneg _ (by omega)) (Int.emod_lt_of_pos _ hm0)
          rw [upd_same]
          simp
      · refine ⟨.ref d, rfl, d, _, 1, .int z, rfl, rfl, SqL.of hd2, rfl, _, _, rfl, rfl, _, _, rfl, rfl, p29, .ref d, rfl, d, _, 1, 1, rfl, rfl, hd2, rfl, ?_⟩
        dsimp only
        have y0 := Int.emod_nonneg (z + 69621) (show (2147483629 : Int) ≠ 0 by decide)
        have y1 := Int.emod_lt_of_pos (z + 69621) (show (0 : Int) < 2147483629 by decide)
        revert y0 y1
        generalize (z + 69621) % 2147483629 = y
        intro y0 y1
        have u0 := Int.emod_nonneg c (show (2147483647 : Int) ≠ 0 by decide)
        have u1 := Int.emod_lt_of_pos c (show (0 : Int) < 2147483647 by decide)
        refine ⟨.int c, rfl, _, _, rfl, rfl, p47, c % 2147483647, 48271, rfl, rfl, .inl ⟨by omega, by omega⟩, .ref d, rfl, d, _, 1, .int y, rfl, rfl, SqL.of upd_same, rfl, _, _, rfl, rfl, _, _, rfl, rfl, p29, ?_⟩
        dsimp only
        have v0 := Int.emod_nonneg (c % 2147483647 * 48271 + y) (show (2147483629 : Int) ≠ 0 by decide)
        have v1 := Int.emod_lt_of_pos (c % 2147483647 * 48271 + y) (show (0 : Int) < 2147483629 by decide)
        revert v0 v1
        generalize (c % 2147483647 * 48271 + y) % 2147483629 = v
        intro v0 v1
        refine ⟨.int v, rfl, .int v, rfl, v, v, rfl, rfl, .inl ⟨by omega, by omega⟩, .int v, rfl, 16807, v, rfl, rfl, .inl ⟨by decide, by decide⟩, _, _, rfl, rfl, _, _, rfl, rfl, p87, _, _, rfl, rfl, ⟨by decide, by decide⟩, .int m, rfl, _, _, rfl, rfl, hm0, ?_⟩
        exact q _ _ ⟨ne, r, y, upd_same, (by rw [upd_ne ne.symm]; exact hl2), by omega, by omega, by omega⟩ (fr2.trans Fr.d) (Int.emod_nonneg _ (by omega)) (Int.emod_lt_of_pos _ hm0)

/-! ### pairs of words -/
def WordAt (H : Hp) (p : Addr) (a b : Int) (c : Bool) : Prop := H p = some (.tup [.int a, .int b, .bl c])
def pairsM (f l : Int) (c : Bool) : List (Int × Int) := if c = true then [(0, 0), (0, 1), (1, 0), (1, 1)] else if f = l then [(f, f)] else if f = 0 then [(0, 0), (0, 1), (1, 1)] else [(0, 0), (1, 0), (1, 1)]
def PairAt (H : Hp) (k : Addr × Int × Int) : Prop := H k.1 = some (.tup [.int k.2.1, .int k.2.2])
def PairsAt (H : Hp) (r : Addr) (ps : List (Int × Int)) : Prop := ∃ ks : List (Addr × Int × Int), H r = some (.tup (ks.map fun k => V.ref k.1)) ∧ (∀ k ∈ ks, PairAt H k) ∧ ks.map (·.2) = ps
theorem PairsAt.same {H H' : Hp} {r : Addr} {ps : List (Int × Int)} (h : PairsAt H r ps) (s : Same H H') : PairsAt H' r ps := by
  obtain ⟨ks, h1, h2, h3⟩ := h
  exact ⟨ks, s _ _ h1, fun k hk => s _ _ (h2 k hk), h3⟩
theorem sorted_one {α : Type} (c : α → Int) : ∀ (T M : List α), T.Pairwise (fun x y => c x < c y) → M.Nodup → M.Pairwise (fun x y => c x ≤ c y) → (∀ x, x ∈ M ↔ x ∈ T) → M = T
  | [], M, _, _, _, hm => by
    cases M with
    | nil => rfl
    | cons m r => cases (hm m).mp (List.mem_cons_self ..)
  | t :: T, M, hT, hn, hp, hm => by
    cases M with
    | nil => cases (hm t).mpr (List.mem_cons_self ..)
    | cons m r =>
      have hT' := List.pairwise_cons.mp hT
      have hn' := List.nodup_cons.mp hn
      have hp' := List.pairwise_cons.mp hp
      have e : m = t := by
        rcases List.mem_cons.mp ((hm m).mp (List.mem_cons_self ..)) with h | h
        · exact h
        · have h1 := hT'.1 m h
          rcases List.mem_cons.mp ((hm t).mpr (List.mem_cons_self ..)) with h2 | h2
          · exact h2.symm
          · have h3 := hp'.1 t h2
            omega
      subst e
      rw [sorted_one c T r hT'.2 hn'.2 hp'.2 fun x => ⟨fun h => ?_, fun h => ?_⟩]
      · rcases List.mem_cons.mp ((hm x).mp (List.mem_cons_of_mem _ h)) with h2 | h2
        · subst h2
          exact absurd h hn'.1
        · exact h2
      · rcases List.mem_cons.mp ((hm x).mpr (List.mem_cons_of_mem _ h)) with h2 | h2
        · subst h2
          have := hT'.1 x h
          omega
        · exact h2
def sp_pairs_of (K : PySem.W.Frag) : Sp := fun vs H Q _ => ∃ (wd : Addr) (f l : Int) (c : Bool), vs = [.ref wd] ∧ WordAt H wd f l c ∧ (f = 0 ∨ f = 1) ∧ (l = 0 ∨ l = 1) ∧ ∀ r H', Same H H' → PairsAt H' r (pairsM f l c) → Q (.ref r) H'
theorem code2 (x y : Int) : TS.code 64 [x, y] = x * 64 + y := code_pair x y
theorem pairs_sorted {f l : Int} (hf : f = 0 ∨ f = 1) (hl : l = 0 ∨ l = 1) {M : List (List Int)} (hn : M.Nodup) (hp : M.Pairwise fun x y => TS.code 64 x ≤ TS.code 64 y) (h1 : ∀ x ∈ M, x ∈ [[f, f], [f, l], [l, l]]) (h2 : ∀ x ∈ [[f, f], [f, l], [l, l]], x ∈ M) : M.map (fun x => (x.getD 0 0, x.getD 1 0)) = pairsM f l false := by
  have key : ∀ T : List (List Int), T.Pairwise (fun x y => TS.code 64 x < TS.code 64 y) → (∀ x ∈ [[f, f], [f, l], [l, l]], x ∈ T) → (∀ x ∈ T, x ∈ [[f, f], [f, l], [l, l]]) → M = T := fun T hT a b =>
    sorted_one (TS.code 64) T M hT hn hp fun x => ⟨fun h => a x (h1 x h), fun h => h2 x (b x h)⟩
  rcases hf with rfl | rfl <;> rcases hl with rfl | rfl
  · rw [key [[0, 0]] (by decide) (by decide) (by decide)]; rfl
  · rw [key [[0, 0], [0, 1], [1, 1]] (by decide) (by decide) (by decide)]; rfl
  · rw [key [[0, 0], [1, 0], [1, 1]] (by decide) (by decide) (by decide)]; rfl
  · rw [key [[1, 1]] (by decide) (by decide) (by decide)]; rfl
theorem ok_pairs_of (T : Tx K mg) : FnOk P w K mg base CX0 1 T.f_pairs_of T.fd_pairs_of ["word"] (sp_pairs_of K) := by
  refine T.F_pairs_of.ok sc_pairs_of (fun vs H Q E h => ?_) (fun cdv A outer s H vs Q E hr h => ?_)
  · obtain ⟨wd, f, l, c, rfl, _⟩ := h
    rfl
  · obtain ⟨wd, f, l, c, rfl, hw, hf, hl, q⟩ := h
    refine ⟨_, (pss_cons (ps_asg (pv 0) (pg_tup rfl (pgs_cons (pg_name (i := 1) sc_pairs_of.nd rfl (by first | exact .inl rfl | exact .inr rfl)) (pgs_cons (pg_name (i := 2) sc_pairs_of.nd rfl (by first | exact .inl rfl | exact .inr rfl)) (pgs_cons (pg_name (i := 3) sc_pairs_of.nd rfl (by first | exact .inl rfl | exact .inr rfl)) pgs_nil))))) (pss_cons (ps_if (pt_val (pv 3)) (pss_one (ps_ret (pe_tup (pa_cons (pe_tup (pa_cons pe_int (pa_cons pe_int pa_nil))) (pa_cons (pe_tup (pa_cons pe_int (pa_cons pe_int pa_nil))) (pa_cons (pe_tup (pa_cons pe_int (pa_cons pe_int pa_nil))) (pa_cons (pe_tup (pa_cons pe_int (pa_cons pe_int pa_nil))) pa_nil))))))) pss_nil) (pss_one (ps_ret (pe_callTy call_tuple_of (by rfl) T.m_tuple (by decide +kernel) (pa_cons (pe_callB (cr_sortedT rfl) (by rfl) T.m_sorted (by decide +kernel) (pa_cons (pe_callTy (cr_setOfT rfl hr.units) (by rfl) T.m_set (by decide +kernel) (pa_cons (pe_lst (pa_cons (pe_tup (pa_cons (pv 1) (pa_cons (pv 1) pa_nil))) (pa_cons (pe_tup (pa_cons (pv 1) (pa_cons (pv 2) pa_nil))) (pa_cons (pe_tup (pa_cons (pv 2) (pa_cons (pv 2) pa_nil))) pa_nil)))) pa_nil)) pa_nil)) pa_nil)))))), ?_⟩
    refine ⟨.ref wd, rfl, wd, _, rfl, SqT.of hw, rfl, _, _, rfl, _, _, rfl, _, _, rfl, rfl, ?_⟩
    refine ⟨.bl c, rfl, c, rfl, ?_⟩
    cases c with
    | true =>
      refine iteT ?_
      refine ⟨sl2, fun t1 n1 => ⟨sl2, fun t2 n2 => ⟨sl2, fun t3 n3 => ⟨sl2, fun t4 n4 => ⟨sl4, fun r nr => ?_⟩⟩⟩⟩⟩
      have e1 := same_upd (o := .tup [.int 0, .int 0]) n1
      have e2 := same_upd (o := .tup [.int 0, .int 1]) n2
      have e3 := same_upd (o := .tup [.int 1, .int 0]) n3
      have e4 := same_upd (o := .tup [.int 1, .int 1]) n4
      have e5 := same_upd (o := .tup [.ref t1, .ref t2, .ref t3, .ref t4]) nr
      refine q r _ ((((e1.trans e2).trans e3).trans e4).trans e5) ⟨[(t1, 0, 0), (t2, 0, 1), (t3, 1, 0), (t4, 1, 1)], upd_same, fun k hk => ?_, rfl⟩
      rcases List.mem_cons.mp hk with rfl | hk
      · exact e5 _ _ (e4 _ _ (e3 _ _ (e2 _ _ upd_same)))
      · rcases List.mem_cons.mp hk with rfl | hk
        · exact e5 _ _ (e4 _ _ (e3 _ _ upd_same))
        · rcases List.mem_cons.mp hk with rfl | hk
          · exact e5 _ _ (e4 _ _ upd_same)
          · rcases List.mem_cons.mp hk with rfl | hk
            · exact e5 _ _ upd_same
            · cases hk
    | false =>
      refine iteF ?_
      refine ⟨.int f, rfl, .int f, rfl, sl2, fun t1 n1 => ⟨.int f, rfl, .int l, rfl, sl2, fun t2 n2 => ⟨.int l, rfl, .int l, rfl, sl2, fun t3 n3 => ⟨sl3, fun li nli => ?_⟩⟩⟩⟩
      have e1 := same_upd (o := .tup [.int f, .int f]) n1
      have e2 := same_upd (o := .tup [.int f, .int l]) n2
      have e3 := same_upd (o := .tup [.int l, .int l]) n3
      have e4 := same_upd (o := .lst [.ref t1, .ref t2, .ref t3]) nli
      have eA := ((e1.trans e2).trans e3).trans e4
      have g1 := e4 _ _ (e3 _ _ (e2 _ _ (upd_same (H := H) (a := t1) (o := .tup [.int f, .int f]))))
      have g2 := e4 _ _ (e3 _ _ (upd_same (a := t2) (o := .tup [.int f, .int l])))
      have g3 := e4 _ _ (upd_same (a := t3) (o := .tup [.int l, .int l]))
      have g4 := upd_same (H := upd (upd (upd H t1 (.tup [.int f, .int f])) t2 (.tup [.int f, .int l])) t3 (.tup [.int l, .int l])) (a := li) (o := .lst [.ref t1, .ref t2, .ref t3])
      revert eA g1 g2 g3 g4
      generalize upd (upd (upd (upd H t1 (.tup [.int f, .int f])) t2 (.tup [.int f, .int l])) t3 (.tup [.int l, .int l])) li (.lst [.ref t1, .ref t2, .ref t3]) = H1
      intro eA g1 g2 g3 g4
      have gk : ∀ p ∈ ([(t1, [f, f]), (t2, [f, l]), (t3, [l, l])] : List (Addr × List Int)), H1 p.1 = some (.tup (p.2.map V.int)) ∧ p.2 ∈ [[f, f], [f, l], [l, l]] := fun p hp => by
        rcases List.mem_cons.mp hp with rfl | hp
        · exact ⟨g1, by simp⟩
        · rcases List.mem_cons.mp hp with rfl | hp
          · exact ⟨g2, by simp⟩
          · rcases List.mem_cons.mp hp with rfl | hp
            · exact ⟨g3, by simp⟩
            · cases hp
      refine ⟨li, [(t1, [f, f]), (t2, [f, l]), (t3, [l, l])], rfl, SqL.of g4, fun p hp => SqT.of (gk p hp).1, by show 3 < 64; decide, fun sa L nsa hL1 hL2 => ?_⟩
      have e5 := same_upd (o := SetTO P w sa L) nsa
      have b01 : ∀ x ∈ [[f, f], [f, l], [l, l]], x.length = 2 ∧ TS.Bd 64 x := by
        rcases hf with rfl | rfl <;> rcases hl with rfl | rfl <;> (unfold TS.Bd; decide)
      refine ⟨sa, L, 2, 64, rfl, upd_same, fun p hp => SqT.of (e5 _ _ (gk p (hL1 p hp)).1), by decide, fun p hp => b01 _ (gk p (hL1 p hp)).2, fun L' pl pm nd few so npl => ?_⟩
      have e6 := same_upd (o := .lst (L'.map fun q => V.ref q.1)) npl
      refine ⟨pl, _, rfl, .inl ⟨SqL.of upd_same, fun r nr => ?_⟩⟩
      have e7 := same_upd (o := .tup (L'.map fun q => V.ref q.1)) nr
      refine q r _ (eA.trans (e5.trans (e6.trans e7))) ⟨L'.map fun q => (q.1, q.2.getD 0 0, q.2.getD 1 0), ?_, fun k hk => ?_, ?_⟩
      · rw [upd_same, List.map_map]
        rfl
      · obtain ⟨p, hp, rfl⟩ := List.mem_map.mp hk
        have hp2 := gk p (hL1 p (pm.mem_iff.mp hp))
        have := e7 _ _ (e6 _ _ (e5 _ _ hp2.1))
        unfold PairAt
        rw [this]
        obtain ⟨pa, pb⟩ := p
        rcases List.mem_cons.mp hp2.2 with h | h
        · dsimp only at h ⊢; rw [h]; rfl
        · rcases List.mem_cons.mp h with h | h
          · dsimp only at h ⊢; rw [h]; rfl
          · rcases List.mem_cons.mp h with h | h
            · dsimp only at h ⊢; rw [h]; rfl
            · cases h
      · rw [List.map_map, ← pairs_sorted hf hl (M := L'.map (·.2)) nd (List.pairwise_map.mpr so) (fun x hx => ?_) (fun x hx => ?_), List.map_map]
        · rfl
        · obtain ⟨p, hp, rfl⟩ := List.mem_map.mp hx
          exact (gk p (hL1 p (pm.mem_iff.mp hp))).2
        · have : x ∈ L.map (·.2) := by
            rcases List.mem_cons.mp hx with rfl | hx
            · exact hL2 (t1, [f, f]) (by simp)
            · rcases List.mem_cons.mp hx with rfl | hx
              · exact hL2 (t2, [f, l]) (by simp)
              · rcases List.mem_cons.mp hx with rfl | hx
                · exact hL2 (t3, [l, l]) (by simp)
                · cases hx
          exact (pm.map (·.2)).mem_iff.mpr this

theorem ok_table_worth (T : Tx K mg) : FnOk P w K mg base CX0 1 T.f_table_worth T.fd_table_worth ["table", "worths"] (spGate K) := by
  refine T.F_table_worth.ok sc_table_worth (fun vs H Q E h => ?_) (fun cdv A outer s H vs Q E hr h => ?_)
  · obtain ⟨bs, la, ws, rfl, _⟩ := h
    rfl
  · obtain ⟨bs, la, ws, rfl, hS, hw, hb, h3, q⟩ := h
    obtain ⟨b, p0, p1, p2, p3, p4⟩ := gate_read hw hb h3
    refine ⟨_, (pss_cons (ps_set (i := 2) sc_table_worth.nd rfl (by first | exact .inl rfl | exact .inr rfl) pe_int) (pss_cons (ps_for PassesOwn.never rfl (pi_list (pv 1)) (pg_name (i := 3) sc_table_worth.nd rfl (by first | exact .inl rfl | exact .inr rfl)) (pss_one (ps_set (i := 2) sc_table_worth.nd rfl (by first | exact .inl rfl | exact .inr rfl) (pe_op op_add (pe_op op_mul pe_int (pv 2)) (pv 3))))) (pss_one (ps_ret (pe_callTy call_int_str (by rfl) T.m_int (by decide +kernel) (pa_cons (pe_item_str (pv 0) (pv 2) (fun _ _ => rfl)) pa_nil)))))), ?_⟩
    refine ⟨.ref la, rfl, la, rfl, ⟨_, hS⟩, for_list (K := K) (a := la) (xs := ws.map V.int) (fun i σ H' => ∃ y, σ = [some (.str (tabOf bs)), some (.ref la), some (.int (plc (ws.take i))), y] ∧ H' = H) ⟨none, rfl, rfl⟩ (fun i σ H' _ ⟨_, _, e⟩ => by rw [e]; exact hS) ?_ ?_⟩
    · rintro i x σ H' hx ⟨y, rfl, rfl⟩
      obtain ⟨u, hu, rfl⟩ : ∃ u, ws[i]? = some u ∧ x = V.int u := by
        rw [List.getElem?_map] at hx
        cases hz : ws[i]? with
        | none => rw [hz] at hx; cases hx
        | some u => rw [hz] at hx; exact ⟨u, rfl, (Option.some.inj hx).symm⟩
      refine ⟨.int (plc (ws.take i)), rfl, 2, _, rfl, rfl, .inl ⟨by decide, by decide⟩, .int u, rfl, _, _, rfl, rfl, some (.int u), ?_, rfl⟩
      rw [plc_take hu]
      rfl
    · rintro σ H' ⟨y, rfl, rfl⟩
      rw [List.length_map, List.take_length]
      refine ⟨.str (tabOf bs), rfl, .int (plc ws), rfl, _, _, _, rfl, rfl, p0, p1, p2, p3, _, _, rfl, int_sign b, (show 1 ≤ 640 by decide), ?_⟩
      rw [← p4]
      exact q
theorem ok_gate (T : Tx K mg) : FnOk P w K mg base CX0 1 T.f_gate T.fd_gate ["_law_table_here", "_law_worths"] (spGate K) := by
  refine T.F_gate.ok sc_gate (fun vs H Q E h => ?_) (fun cdv A outer s H vs Q E hr h => ?_)
  · obtain ⟨bs, la, ws, rfl, _⟩ := h
    rfl
  · obtain ⟨bs, la, ws, rfl, hS, hw, hb, h3, q⟩ := h
    obtain ⟨b, p0, p1, p2, p3, p4⟩ := gate_read hw hb h3
    refine ⟨_, (pss_cons (ps_set (i := 2) sc_gate.nd rfl (by first | exact .inl rfl | exact .inr rfl) pe_int) (pss_cons (ps_for PassesOwn.never rfl (pi_list (pv 1)) (pg_name (i := 3) sc_gate.nd rfl (by first | exact .inl rfl | exact .inr rfl)) (pss_one (ps_set (i := 2) sc_gate.nd rfl (by first | exact .inl rfl | exact .inr rfl) (pe_op op_add (pe_op op_mul pe_int (pv 2)) (pv 3))))) (pss_one (ps_ret (pe_callTy call_int_str (by rfl) T.m_int (by decide +kernel) (pa_cons (pe_item_str (pv 0) (pv 2) (fun _ _ => rfl)) pa_nil)))))), ?_⟩
    refine ⟨.ref la, rfl, la, rfl, ⟨_, hS⟩, for_list (K := K) (a := la) (xs := ws.map V.int) (fun i σ H' => ∃ y, σ = [some (.str (tabOf bs)), some (.ref la), some (.int (plc (ws.take i))), y] ∧ H' = H) ⟨none, rfl, rfl⟩ (fun i σ H' _ ⟨_, _, e⟩ => by rw [e]; exact hS) ?_ ?_⟩
    · rintro i x σ H' hx ⟨y, rfl, rfl⟩
      obtain ⟨u, hu, rfl⟩ : ∃ u, ws[i]? = some u ∧ x = V.int u := by
        rw [List.getElem?_map] at hx
        cases hz : ws[i]? with
        | none => rw [hz] at hx; cases hx
        | some u => rw [hz] at hx; exact ⟨u, rfl, (Option.some.inj hx).symm⟩
      refine ⟨.int (plc (ws.take i)), rfl, 2, _, rfl, rfl, .inl ⟨by decide, by decide⟩, .int u, rfl, _, _, rfl, rfl, some (.int u), ?_, rfl⟩
      rw [plc_take hu]
      rfl
    · rintro σ H' ⟨y, rfl, rfl⟩
      rw [List.length_map, List.take_length]
      refine ⟨.str (tabOf bs), rfl, .int (plc ws), rfl, _, _, _, rfl, rfl, p0, p1, p2, p3, _, _, rfl, int_sign b, (show 1 ≤ 640 by decide), ?_⟩
      rw [← p4]
      exact q
end
end Gk

set_option Elab.async false
set_option linter.all false
set_option maxRecDepth 100000
namespace Gk
open PySem PySem.Spec PyProof.Rows L2
section
variable {P : Program} {w : World} {K : PySem.W.Frag} {mg : Str → Option Value} {base : Heap}
/-! ### all choices -/
def stepC {α : Type} (cs : List (List α)) (os : List α) : List (List α) := cs.flatMap fun c => os.map fun o => c ++ [o]
def chs {α : Type} (ls : List (List α)) : List (List α) := ls.foldl stepC [[]]
theorem chs_snoc {α : Type} (ls : List (List α)) (os : List α) : chs (ls ++ [os]) = stepC (chs ls) os := by
  unfold chs
  rw [List.foldl_append]
  rfl
theorem stepC_snoc {α : Type} (cs : List (List α)) (c : List α) (os : List α) : stepC (cs ++ [c]) os = stepC cs os ++ os.map fun o => c ++ [o] := by
  unfold stepC
  rw [List.flatMap_append]
  simp
theorem stepC_len {α : Type} (cs : List (List α)) (os : List α) : (stepC cs os).length = cs.length * os.length := by
  induction cs with
  | nil => simp [stepC]
  | cons c r ih =>
    have : stepC (c :: r) os = (os.map fun o => c ++ [o]) ++ stepC r os := by simp [stepC]
    rw [this, List.length_append, List.length_map, ih, List.length_cons, Nat.succ_mul]
    omega
theorem chs_len {α : Type} (m : Nat) (hm : 1 ≤ m) : ∀ (n : Nat) (ls : List (List α)), ls.length = n → (∀ l ∈ ls, l.length ≤ m) → (chs ls).length ≤ m ^ n := by
  intro n
  induction n with
  | zero =>
    intro ls h _
    cases List.eq_nil_of_length_eq_zero h
    exact Nat.le_refl _
  | succ n ih =>
    intro ls h hl
    have hne : ls ≠ [] := fun z => by rw [z] at h; cases h
    obtain ⟨r, x, rfl⟩ : ∃ r x, ls = r ++ [x] := ⟨ls.dropLast, ls.getLast hne, (List.dropLast_concat_getLast hne).symm⟩
    have hr := ih r (by rw [List.length_append] at h; simpa using h) fun l h' => hl l (List.mem_append_left _ h')
    rw [chs_snoc, stepC_len, Nat.pow_succ]
    exact Nat.mul_le_mul hr (hl x (by simp))
theorem chs_width {α : Type} : ∀ (ls : List (List α)) (c : List α), c ∈ chs ls → c.length = ls.length := by
  have key : ∀ (n : Nat) (ls : List (List α)), ls.length = n → ∀ c ∈ chs ls, c.length = n := by
    intro n
    induction n with
    | zero =>
      intro ls h c hc
      cases List.eq_nil_of_length_eq_zero h
      cases List.mem_singleton.mp hc
      rfl
    | succ n ih =>
      intro ls h c hc
      have hne : ls ≠ [] := fun z => by rw [z] at h; cases h
      obtain ⟨r, x, rfl⟩ : ∃ r x, ls = r ++ [x] := ⟨ls.dropLast, ls.getLast hne, (List.dropLast_concat_getLast hne).symm⟩
      rw [chs_snoc] at hc
      obtain ⟨c0, h0, hc⟩ := List.mem_flatMap.mp hc
      obtain ⟨o, _, rfl⟩ := List.mem_map.mp hc
      rw [List.length_append, ih r (by rw [List.length_append] at h; simpa using h) c0 h0]
      rfl
  exact fun ls c h => key _ ls rfl c h
theorem chs_map {α β : Type} (f : α → β) : ∀ (n : Nat) (ls : List (List α)), ls.length = n → chs (ls.map (List.map f)) = (chs ls).map (List.map f) := by
  intro n
  induction n with
  | zero =>
    intro ls h
    cases List.eq_nil_of_length_eq_zero h
    rfl
  | succ n ih =>
    intro ls h
    have hne : ls ≠ [] := fun z => by rw [z] at h; cases h
    obtain ⟨r, x, rfl⟩ : ∃ r x, ls = r ++ [x] := ⟨ls.dropLast, ls.getLast hne, (List.dropLast_concat_getLast hne).symm⟩
    rw [List.map_append, List.map_singleton, chs_snoc, chs_snoc, ih r (by rw [List.length_append] at h; simpa using h)]
    unfold stepC
    rw [List.flatMap_map, List.map_flatMap]
    congr 1
    funext c
    simp
def sp_choices_of (K : PySem.W.Frag) : Sp := fun vs H Q _ => ∃ (la : Addr) (xs : List V) (os : List (List PyData)), vs = [.ref la] ∧ H la = some (.lst xs) ∧ TkAll H xs (os.map PyData.tuple) ∧ (os.length ≤ 3 ∨ os.length ≤ 8 ∧ ∀ o ∈ os, o.length ≤ 2) ∧ (∀ o ∈ os, o.length ≤ 8) ∧ ∀ r H', Same H H' → Tk H' (.ref r) (.tuple ((chs os).map PyData.tuple)) → Q (.ref r) H'
theorem ok_choices_of (T : Tx K mg) : FnOk P w K mg base CX0 1 T.f_choices_of T.fd_choices_of ["lists"] (sp_choices_of K) := by
  refine T.F_choices_of.ok sc_choices_of (fun vs H Q E h => ?_) (fun cdv A outer s H vs Q E hr h => ?_)
  · obtain ⟨la, xs, os, rfl, _⟩ := h
    rfl
  · obtain ⟨la, xs, os, rfl, hla, tk, o3, o8, q⟩ := h
    have big : ∀ i, i ≤ os.length → (chs (os.take i)).length ≤ 512 := fun i hi => by
      rcases o3 with o3 | ⟨o3, o2⟩
      · have h1 := chs_len 8 (by decide) i (os.take i) (by rw [List.length_take]; omega) fun l hl => o8 l (List.mem_of_mem_take hl)
        have h2 : 8 ^ i ≤ 8 ^ 3 := Nat.pow_le_pow_right (by decide) (by omega)
        omega
      · have h1 := chs_len 2 (by decide) i (os.take i) (by rw [List.length_take]; omega) fun l hl => o2 l (List.mem_of_mem_take hl)
        have h2 : 2 ^ i ≤ 2 ^ 8 := Nat.pow_le_pow_right (by decide) (by omega)
        omega
    refine ⟨_, (pss_cons (ps_set (i := 1) sc_choices_of.nd rfl (by first | exact .inl rfl | exact .inr rfl) (pe_lst (pa_cons (pe_tup pa_nil) pa_nil))) (pss_cons (ps_for PassesOwn.never rfl (pi_list (pv 0)) (pg_name (i := 2) sc_choices_of.nd rfl (by first | exact .inl rfl | exact .inr rfl)) (pss_one (ps_setLc2 (i := 1) (own := [("choice", 3), ("option", 4)]) (vs1 := [4]) (by rfl) sc_choices_of.nd rfl rfl (sw_true rfl rfl rfl (by decide +kernel)) (pi_list (pv 1)) (blkOk_by (own := [("choice", 3), ("option", 4)]) (N := ["lists", "choices", "options", "choice", "option"]) (sc := defScope s_choices_of) (by decide +kernel)) (by decide) (fun _ _ _ _ _ => (pg_name (i := 3) sc_choices_of.nd rfl (by first | exact .inl rfl | exact .inr rfl))) (fun _ _ _ _ _ => pts_nil) (fun _ _ _ _ _ => (show PI _ _ _ (iTup K _) from pi_tup (pv 2))) (fun _ _ _ _ _ => (pg_name (i := 4) sc_choices_of.nd rfl (by first | exact .inl rfl | exact .inr rfl))) (fun _ _ _ _ _ => pts_nil) (fun _ _ _ _ _ => (pe_op (show OpR _ _ (rCatA K) from op_catA) (pv 3) (pe_tup (pa_cons (pv 4) pa_nil))))))) (pss_one (ps_ret (pe_callTy call_tuple_of (by rfl) T.m_tuple (by decide +kernel) (pa_cons (pv 1) pa_nil)))))), ?_⟩
    refine ⟨Nat.zero_le _, fun t0 n0 => ⟨sl1, fun c0 nc0 => ?_⟩⟩
    refine ⟨.ref la, rfl, la, rfl, ⟨_, SqL.of (same_upd nc0 _ _ (same_upd n0 _ _ hla))⟩, for_list (K := K) (a := la) (xs := xs) (fun i σ H' => ∃ ca y2, σ = [some (.ref la), some (.ref ca), y2, none, none] ∧ Same H H' ∧ Tk H' (.ref ca) (.list ((chs (os.take i)).map PyData.tuple)))
      ⟨c0, none, rfl, (same_upd n0).trans (same_upd nc0), .lst upd_same (.cons (.tup (same_upd nc0 _ _ upd_same) .nil) .nil)⟩ (fun i σ H' _ ⟨_, _, _, z, _⟩ => SqL.of (z _ _ hla)) ?_ ?_⟩
    · rintro i x σ H1 hx ⟨ca, y2, rfl, s1, tc⟩
      obtain ⟨dx, hdx, tx⟩ := tk.get hx
      obtain ⟨op, hop, rfl⟩ : ∃ op, os[i]? = some op ∧ dx = .tuple op := by
        rw [List.getElem?_map] at hdx
        cases hz : os[i]? with
        | none => rw [hz] at hdx; cases hdx
        | some op => rw [hz] at hdx; exact ⟨op, rfl, (Option.some.inj hdx).symm⟩
      obtain ⟨oa, ys, rfl, hoa, ty⟩ := tx.tup_inv
      obtain ⟨ca', cs, e, hca, tcs⟩ := tc.lst_inv
      cases e
      have hi : i < os.length := (List.getElem?_eq_some_iff.mp hop).1
      have o8' := o8 op (List.mem_of_getElem? hop)
      have ytake : chs (os.take (i + 1)) = stepC (chs (os.take i)) op := by
        rw [List.take_add_one, hop]
        exact chs_snoc _ _
      have bigN := big (i + 1) hi
      rw [ytake] at bigN
      refine ⟨.ref ca, rfl, ca, rfl, ⟨_, SqL.of hca⟩, fun D nD => ?_⟩
      have lcs : cs.length = (chs (os.take i)).length := by rw [tcs.length, List.length_map]
      -- both walks
      refine ⟨fun k m H' => m = cs.length - k ∧ k ≤ cs.length ∧ Same H1 (hd1 D H') ∧ ∃ acc, H' D = some (.lst acc) ∧ TkAll (hd1 D H') acc ((stepC ((chs (os.take i)).take k) op).map PyData.tuple), ⟨_, rfl, Nat.zero_le _, hd1_of (same_upd nD) nD, [], upd_same, .nil⟩, ?_⟩
      rintro k m H2 ⟨rfl, hk, s2, acc, hD, ta⟩
      have hca2 := hd1_le _ _ (s2 _ _ hca)
      by_cases hlt : k < cs.length
      · obtain ⟨c, hc⟩ : ∃ c, (chs (os.take i))[k]? = some c := ⟨_, List.getElem?_eq_getElem (by omega)⟩
        have htk : (chs (os.take i)).take (k + 1) = (chs (os.take i)).take k ++ [c] := by
          rw [List.take_add_one, hc]
          rfl
        refine .inr ⟨⟨cs, cs[k], SqL.of hca2, List.getElem?_eq_getElem hlt⟩, fun H' => Same H1 (hd1 D H') ∧ ∃ acc, H' D = some (.lst acc) ∧ TkAll (hd1 D H') acc ((stepC ((chs (os.take i)).take (k + 1)) op).map PyData.tuple), fun σ' ⟨z1, z2⟩ => ⟨cs.length - (k + 1), by omega, rfl, by omega, z1, z2⟩, fun x H' hy => ?_⟩
        obtain ⟨rfl, hy⟩ := hy
        have hx2 : cs[k]? = some x := hy cs (SqL.of hca2)
        obtain ⟨dc, hdc, tx2⟩ := tcs.get hx2
        obtain rfl : dc = .tuple c := by
          rw [List.getElem?_map, hc] at hdc
          exact (Option.some.inj hdc).symm
        obtain ⟨xa, zs, rfl, hxa, tz⟩ := tx2.tup_inv
        refine ⟨rfl, ?_⟩
        have hoa2 := hd1_le _ _ (s2 _ _ (s1 _ _ hoa))
        refine ⟨.ref oa, rfl, oa, rfl, ⟨_, SqT.of hoa2⟩, ?_⟩
        refine ⟨fun j n H' => n = ys.length - j ∧ j ≤ ys.length ∧ Same H1 (hd1 D H') ∧ ∃ acc, H' D = some (.lst acc) ∧ TkAll (hd1 D H') acc ((stepC ((chs (os.take i)).take k) op ++ (op.take j).map fun o => c ++ [o]).map PyData.tuple), ⟨_, rfl, Nat.zero_le _, s2, acc, hD, by rw [List.take_zero, List.map_nil, List.append_nil]; exact ta⟩, ?_⟩
        rintro j n H3 ⟨rfl, hj, s3, acc3, hD3, ta3⟩
        have hoa3 := hd1_le _ _ (s3 _ _ (s1 _ _ hoa))
        have lys : ys.length = op.length := ty.length
        by_cases hjl : j < ys.length
        · obtain ⟨ov, hov⟩ : ∃ ov, op[j]? = some ov := ⟨_, List.getElem?_eq_getElem (by omega)⟩
          refine .inr ⟨⟨ys, ys[j], SqT.of hoa3, List.getElem?_eq_getElem hjl⟩, fun H' => Same H1 (hd1 D H') ∧ ∃ acc, H' D = some (.lst acc) ∧ TkAll (hd1 D H') acc ((stepC ((chs (os.take i)).take k) op ++ (op.take (j + 1)).map fun o => c ++ [o]).map PyData.tuple), fun σ' ⟨z1, z2⟩ => ⟨ys.length - (j + 1), by omega, rfl, by omega, z1, z2⟩, fun y Hn hy => ?_⟩
          obtain ⟨rfl, hy⟩ := hy
          have hy2 : ys[j]? = some y := hy ys (SqT.of hoa3)
          obtain ⟨dy, hdy, ty2⟩ := ty.get hy2
          cases Option.some.inj (hdy.symm.trans hov)
          refine ⟨rfl, ?_⟩
          -- choice + (option,)
          have hxa3 := hd1_le _ _ (s3 _ _ hxa)
          refine ⟨.ref xa, rfl, y, rfl, sl1, fun t nt => ?_⟩
          have st := same_upd (o := .tup [y]) nt
          have ntD : t ≠ D := (ne_of_none hD3 nt).symm
          have sD := hd1_same (p := D) st
          have ty3 : Tk (hd1 D Hn) y ov := ty2.same (s1.trans s3)
          have tz3 : TkAll (hd1 D Hn) zs c := tz.same s3
          have lacc : acc3.length < sizeLine := by
            have h1 := ta3.length
            rw [List.length_map, List.length_append, stepC_len, List.length_map, List.length_take, List.length_take] at h1
            have h2 : min k (chs (os.take i)).length * op.length ≤ 512 * 8 := Nat.mul_le_mul (by have := big i (by omega); omega) o8'
            have : sizeLine = 16777216 := by decide
            omega
          have done : ∀ (H4 : Hp) (p : Addr), Same (hd1 D Hn) (hd1 D H4) → H4 D = some (.lst acc3) → p ≠ D → H4 p = some (.tup (zs ++ [y])) → TkAll (hd1 D H4) zs c → Tk (hd1 D H4) y ov → ∃ acc, H4 D = some (.lst acc) ∧ acc.length < sizeLine ∧ Same H1 (hd1 D (upd H4 D (.lst (acc ++ [.ref p])))) ∧ ∃ acc', (upd H4 D (.lst (acc ++ [.ref p]))) D = some (.lst acc') ∧ TkAll (hd1 D (upd H4 D (.lst (acc ++ [.ref p])))) acc' ((stepC ((chs (os.take i)).take k) op ++ (op.take (j + 1)).map fun o => c ++ [o]).map PyData.tuple) := fun H4 p s4 h4 np hp tzz tyy => by
            refine ⟨acc3, h4, lacc, (s3.trans s4).trans hd1_upd, acc3 ++ [.ref p], upd_same, ?_⟩
            rw [List.take_add_one, hov]
            show TkAll _ _ ((_ ++ (op.take j ++ [ov]).map _).map _)
            rw [List.map_append (l₁ := op.take j), ← List.append_assoc, List.map_append]
            refine ((ta3.same s4).same hd1_upd).append (.cons (.tup (xs := zs ++ [y]) ?_ ((tzz.same hd1_upd).append (.cons (tyy.same hd1_upd) .nil))) .nil)
            rw [hd1_at np, upd_ne np]
            exact hp
          have lz : zs.length + 1 ≤ sizeLine := by
            have h1 := (Tk.tup hxa tz)
            have h2 := tz.length
            have h3 : c.length ≤ 8 := by
              have := chs_width (os.take i) c (List.mem_of_getElem? hc)
              have h8 : os.length ≤ 8 := by rcases o3 with o | ⟨o, _⟩ <;> omega
              rw [this, List.length_take]
              omega
            have : sizeLine = 16777216 := by decide
            omega
          refine ⟨xa, t, zs, [y], rfl, rfl, SqT.of (st _ _ hxa3), SqT.of upd_same, lz, fun ez => ?_, (fun _ z => by cases z), fun nz _ p np => ?_⟩
          · subst ez
            exact done _ t sD (st _ _ hD3) ntD upd_same (tz3.same sD) (ty3.same sD)
          · have sp := same_upd (o := .tup (zs ++ [y])) np
            have sDp := hd1_same (p := D) sp
            have npD : p ≠ D := (ne_of_none (st _ _ hD3) np).symm
            exact done _ p (sD.trans sDp) (sp _ _ (st _ _ hD3)) npD upd_same ((tz3.same sD).same sDp) ((ty3.same sD).same sDp)
        · have ej : j = ys.length := by omega
          refine .inl ⟨⟨ys, SqT.of hoa3, by omega⟩, s3, acc3, hD3, ?_⟩
          rw [htk, stepC_snoc]
          rw [ej, lys, List.take_length] at ta3
          exact ta3
      · have ek : k = cs.length := by omega
        refine .inl ⟨⟨cs, SqL.of hca2, by omega⟩, ?_⟩
        refine ⟨D, _, rfl, fun b o e => hd1_le _ _ (s2 _ _ (s1 _ _ e)), ?_⟩
        rw [ytake]
        refine .lst hD ?_
        rw [ek, lcs, List.take_length] at ta
        exact ta.same hd1_le
    · rintro σ H1 ⟨ca, y2, rfl, s1, tc⟩
      have lx : xs.length = os.length := by rw [tk.length, List.length_map]
      rw [lx, List.take_length] at tc
      obtain ⟨ca', cs, e, hca, tcs⟩ := tc.lst_inv
      cases e
      refine ⟨.ref ca, rfl, ca, cs, rfl, .inl ⟨SqL.of hca, fun r nr => ?_⟩⟩
      exact q r _ (s1.trans (same_upd nr)) (.tup upd_same (tcs.same (same_upd nr)))

end
end Gk

set_option Elab.async false
set_option linter.all false
set_option maxRecDepth 100000
namespace Gk
open PySem PySem.Spec PyProof.Rows L2
section
variable {P : Program} {w : World} {K : PySem.W.Frag} {mg : Str → Option Value} {base : Heap}
/-! ### the word of a gate -/
abbrev Wd := Int × Int × Bool
def wD (x : Wd) : PyData := .tuple [.int x.1, .int x.2.1, .bool x.2.2]
def Wok (x : Wd) : Prop := (x.1 = 0 ∨ x.1 = 1) ∧ (x.2.1 = 0 ∨ x.2.1 = 1)
def pw (x : Wd) : List (Int × Int) := pairsM x.1 x.2.1 x.2.2
def prD (p : Int × Int) : PyData := .tuple [.int p.1, .int p.2]
theorem wd_inv {H : Hp} {v : V} {x : Wd} (h : Tk H v (wD x)) : ∃ a, v = .ref a ∧ H a = some (.tup [.int x.1, .int x.2.1, .bl x.2.2]) := by
  obtain ⟨a, xs, rfl, ha, t⟩ := h.tup_inv
  cases t with
  | cons h1 t => cases t with
    | cons h2 t => cases t with
      | cons h3 t =>
        cases t
        cases h1
        cases h2
        cases h3
        exact ⟨a, rfl, ha⟩
theorem pr_inv {H : Hp} {v : V} {p : Int × Int} (h : Tk H v (prD p)) : ∃ a, v = .ref a ∧ H a = some (.tup [.int p.1, .int p.2]) := by
  obtain ⟨a, xs, rfl, ha, t⟩ := h.tup_inv
  cases t with
  | cons h1 t => cases t with
    | cons h2 t =>
      cases t
      cases h1
      cases h2
      exact ⟨a, rfl, ha⟩
theorem tkPairs {H : Hp} : ∀ ks : List (Addr × Int × Int), (∀ k ∈ ks, PairAt H k) → TkAll H (ks.map fun k => V.ref k.1) ((ks.map (·.2)).map prD)
  | [], _ => .nil
  | k :: r, h => .cons (.tup (h k (List.mem_cons_self ..)) (.cons (.int _) (.cons (.int _) .nil))) (tkPairs r fun x hx => h x (List.mem_cons_of_mem _ hx))
theorem PairsAt.tk {H : Hp} {r D : Addr} {ps : List (Int × Int)} {acc : List V} (h : PairsAt H r ps) (hD : H D = some (.lst acc)) : Tk (hd1 D H) (.ref r) (.tuple (ps.map prD)) := by
  obtain ⟨ks, h1, h2, h3⟩ := h
  have n : ∀ {a : Addr} {xs : List V}, H a = some (.tup xs) → hd1 D H a = some (.tup xs) := fun {a xs} e => by
    rw [hd1_at (ne_of e hD (by intro q; cases q))]
    exact e
  rw [← h3]
  exact .tup (n h1) (tkPairs ks fun k hk => n (h2 k hk))
theorem chs_mem {α : Type} : ∀ (ls : List (List α)) (c : List α), c ∈ chs ls → ∀ o ∈ c, ∃ l ∈ ls, o ∈ l := by
  have key : ∀ (n : Nat) (ls : List (List α)), ls.length = n → ∀ c ∈ chs ls, ∀ o ∈ c, ∃ l ∈ ls, o ∈ l := by
    intro n
    induction n with
    | zero =>
      intro ls h c hc o ho
      cases List.eq_nil_of_length_eq_zero h
      cases List.mem_singleton.mp hc
      cases ho
    | succ n ih =>
      intro ls h c hc o ho
      have hne : ls ≠ [] := fun z => by rw [z] at h; cases h
      obtain ⟨r, x, rfl⟩ : ∃ r x, ls = r ++ [x] := ⟨ls.dropLast, ls.getLast hne, (List.dropLast_concat_getLast hne).symm⟩
      rw [chs_snoc] at hc
      obtain ⟨c0, h0, hc⟩ := List.mem_flatMap.mp hc
      obtain ⟨o', ho', rfl⟩ := List.mem_map.mp hc
      rcases List.mem_append.mp ho with z | z
      · obtain ⟨l, hl, hol⟩ := ih r (by rw [List.length_append] at h; simpa using h) c0 h0 o z
        exact ⟨l, List.mem_append_left _ hl, hol⟩
      · rw [List.mem_singleton.mp z]
        exact ⟨x, by simp, ho'⟩
  exact fun ls c h => key _ ls rfl c h
theorem pairs01 {x : Wd} (h : Wok x) : ∀ p ∈ pw x, (p.1 = 0 ∨ p.1 = 1) ∧ (p.2 = 0 ∨ p.2 = 1) := by
  obtain ⟨f, l, c⟩ := x
  obtain ⟨hf, hl⟩ := h
  dsimp only at hf hl
  rcases hf with rfl | rfl <;> rcases hl with rfl | rfl <;> cases c <;> decide
theorem pairs4 (x : Wd) : (pw x).length ≤ 4 := by
  unfold pw pairsM
  split
  · exact Nat.le_refl _
  · split
    · show 1 ≤ 4; decide
    · split
      · show 3 ≤ 4; decide
      · show 3 ≤ 4; decide
def testC (bs : List Bool) (F L : Int) (c : List (Int × Int)) : Bool := (decide (F = L) && !decide (gateM bs (c.map (·.1)) = F)) || (!decide (F = L) && (decide (gateM bs (c.map (·.1)) = L) && decide (gateM bs (c.map (·.2)) = F)))
def froM (bs : List Bool) (ws : List Wd) (F L : Int) : Bool := (chs (ws.map pw)).any (testC bs F L)
theorem evI (x y : Int) : decide (V.int x = V.int y) = decide (x = y) := by
  by_cases z : x = y
  · rw [decide_eq_true z, decide_eq_true (by rw [z])]
  · rw [decide_eq_false z, decide_eq_false (fun k => z (V.int.inj k))]
def sp_pair_by (K : PySem.W.Frag) : Sp := fun vs H Q _ => ∃ (bs : List Bool) (pa : Addr) (c : List (Int × Int)), vs = [.str (tabOf bs), .ref pa] ∧ Tk H (.ref pa) (.tuple (c.map prD)) ∧ (∀ p ∈ c, (p.1 = 0 ∨ p.1 = 1) ∧ (p.2 = 0 ∨ p.2 = 1)) ∧ bs.length = 2 ^ c.length ∧ c.length ≤ 3 ∧ ∀ r H', Same H H' → H' r = some (.tup [.int (gateM bs (c.map (·.1))), .int (gateM bs (c.map (·.2)))]) → Q (.ref r) H'
theorem ok_pair_by (T : Tx K mg) : FnOk P w K mg base CX0 2 T.f_pair_by T.fd_pair_by ["table", "pairs"] (sp_pair_by K) := by
  refine T.F_pair_by.ok sc_pair_by (fun vs H Q E h => ?_) (fun cdv A outer s H vs Q E hr h => ?_)
  · obtain ⟨bs, pa, c, rfl, _⟩ := h
    rfl
  · obtain ⟨bs, pa, c, rfl, tx, c01, hb, h3, q⟩ := h
    refine ⟨_, (pss_one (ps_ret (pe_tup (pa_cons (pe_call (ok_table_worth T) (hr.mono (by decide)) (by rfl) T.g_table_worth T.F_table_worth.kp T.b_table_worth .nil pass0 (pa_cons (pv 0) (pa_cons (pe_lc (own := [("p", 2), ("q", 3)]) (by rfl) sc_pair_by.nd (pi_tup (pv 1)) (blkOk_by (own := [("p", 2), ("q", 3)]) (N := ["table", "pairs", "p", "q"]) (sc := defScope s_pair_by) (by decide +kernel)) (fun _ _ _ _ _ => (show PG _ _ (gTup K 2 _) from pg_tup rfl (pgs_cons (pg_name (i := 2) sc_pair_by.nd rfl (by first | exact .inl rfl | exact .inr rfl)) (pgs_cons (pg_name (i := 3) sc_pair_by.nd rfl (by first | exact .inl rfl | exact .inr rfl)) pgs_nil)))) (fun _ _ _ _ _ => pts_nil) (fun _ _ _ _ _ => (pv 2))) pa_nil))) (pa_cons (pe_call (ok_table_worth T) (hr.mono (by decide)) (by rfl) T.g_table_worth T.F_table_worth.kp T.b_table_worth .nil pass0 (pa_cons (pv 0) (pa_cons (pe_lc (own := [("p", 2), ("q", 3)]) (by rfl) sc_pair_by.nd (pi_tup (pv 1)) (blkOk_by (own := [("p", 2), ("q", 3)]) (N := ["table", "pairs", "p", "q"]) (sc := defScope s_pair_by) (by decide +kernel)) (fun _ _ _ _ _ => (show PG _ _ (gTup K 2 _) from pg_tup rfl (pgs_cons (pg_name (i := 2) sc_pair_by.nd rfl (by first | exact .inl rfl | exact .inr rfl)) (pgs_cons (pg_name (i := 3) sc_pair_by.nd rfl (by first | exact .inl rfl | exact .inr rfl)) pgs_nil)))) (fun _ _ _ _ _ => pts_nil) (fun _ _ _ _ _ => (pv 3))) pa_nil))) pa_nil))))), ?_⟩
    obtain ⟨pa', zs, e, hpa, tz⟩ := tx.tup_inv
    cases e
    -- a list of one side of the pairs
    have comp : ∀ (H4 : Hp), Same H H4 → SqT K H4 pa zs := fun H4 s4 => SqT.of (s4 _ _ hpa)
    have side : ∀ (j : Nat) (u : V) (H4 : Hp), zs[j]? = some u → Same H H4 → ∃ (p : Int × Int) (b : Addr), c[j]? = some p ∧ u = .ref b ∧ H4 b = some (.tup [.int p.1, .int p.2]) := fun j u H4 hu s4 => by
      obtain ⟨dp, hdp, tp⟩ := tz.get hu
      rw [List.getElem?_map] at hdp
      cases hz : c[j]? with
      | none => rw [hz] at hdp; cases hdp
      | some p =>
        rw [hz] at hdp
        cases Option.some.inj hdp
        obtain ⟨b, rfl, hb'⟩ := pr_inv tp
        exact ⟨p, b, rfl, rfl, s4 _ _ hb'⟩
    have lz : zs.length = c.length := by rw [tz.length, List.length_map]
    -- early
    refine ⟨.str (tabOf bs), rfl, .ref pa, rfl, pa, rfl, ⟨_, comp _ (Same.refl _)⟩, fun E1 nE1 => ?_⟩
    refine lc_tup (K := K) (a := pa) (xs := zs) (fun j H' => Same H (hd1 E1 H') ∧ H' E1 = some (.lst (((c.map (·.1)).take j).map V.int))) ⟨hd1_of (same_upd nE1) nE1, upd_same⟩ (fun j H' _ hP => comp _ (fun b o e => hd1_le _ _ (hP.1 _ _ e))) ?_ ?_
    · rintro j u H4 hu ⟨s4, h4⟩
      obtain ⟨p, b, hp, rfl, hb'⟩ := side j u H4 hu (fun b o e => hd1_le _ _ (s4 _ _ e))
      refine ⟨b, _, rfl, SqT.of hb', rfl, _, _, rfl, _, _, rfl, rfl, rfl, ?_⟩
      refine ⟨.int p.1, rfl, _, h4, ?_, s4.trans hd1_upd, ?_⟩
      · rw [List.length_map, List.length_take]
        exact Nat.lt_of_lt_of_le (show min j (c.map (·.1)).length < 64 by rw [List.length_map]; omega) (by decide)
      · rw [upd_same, List.take_add_one, List.getElem?_map, hp, List.map_append]
        rfl
    rintro H4 ⟨s4, h4⟩
    have s34 : Same H H4 := fun b o e => hd1_le _ _ (s4 _ _ e)
    rw [lz, List.take_of_length_le (by rw [List.length_map]; exact Nat.le_refl _)] at h4
    refine ⟨bs, E1, c.map (·.1), rfl, SqL.of h4, fun w hw => ?_, by rw [List.length_map]; exact hb, by rw [List.length_map]; exact h3, ?_⟩
    · obtain ⟨p, hp, rfl⟩ := List.mem_map.mp hw
      exact (c01 p hp).1
    -- late
    refine ⟨.str (tabOf bs), rfl, .ref pa, rfl, pa, rfl, ⟨_, comp _ s34⟩, fun E2 nE2 => ?_⟩
    refine lc_tup (K := K) (a := pa) (xs := zs) (fun j H' => Same H4 (hd1 E2 H') ∧ H' E2 = some (.lst (((c.map (·.2)).take j).map V.int))) ⟨hd1_of (same_upd nE2) nE2, upd_same⟩ (fun j H' _ hP => comp _ (s34.trans fun b o e => hd1_le _ _ (hP.1 _ _ e))) ?_ ?_
    · rintro j u H5 hu ⟨s5, h5⟩
      obtain ⟨p, b, hp, rfl, hb'⟩ := side j u H5 hu (s34.trans fun b o e => hd1_le _ _ (s5 _ _ e))
      refine ⟨b, _, rfl, SqT.of hb', rfl, _, _, rfl, _, _, rfl, rfl, rfl, ?_⟩
      refine ⟨.int p.2, rfl, _, h5, ?_, s5.trans hd1_upd, ?_⟩
      · rw [List.length_map, List.length_take]
        exact Nat.lt_of_lt_of_le (show min j (c.map (·.2)).length < 64 by rw [List.length_map]; omega) (by decide)
      · rw [upd_same, List.take_add_one, List.getElem?_map, hp, List.map_append]
        rfl
    rintro H5 ⟨s5, h5⟩
    have s45 : Same H4 H5 := fun b o e => hd1_le _ _ (s5 _ _ e)
    rw [lz, List.take_of_length_le (by rw [List.length_map]; exact Nat.le_refl _)] at h5
    refine ⟨bs, E2, c.map (·.2), rfl, SqL.of h5, fun w hw => ?_, by rw [List.length_map]; exact hb, by rw [List.length_map]; exact h3, ?_⟩
    · obtain ⟨p, hp, rfl⟩ := List.mem_map.mp hw
      exact (c01 p hp).2
    refine ⟨sl2, fun r nr => ?_⟩
    exact q r _ ((s34.trans s45).trans (same_upd nr)) upd_same
def sp_goes_fro (K : PySem.W.Frag) : Sp := fun vs H Q _ => ∃ (bs : List Bool) (wa : Addr) (ws : List Wd) (F L : Int), vs = [.str (tabOf bs), .ref wa, .int F, .int L] ∧ Tk H (.ref wa) (.tuple (ws.map wD)) ∧ (∀ x ∈ ws, Wok x) ∧ bs.length = 2 ^ ws.length ∧ ws.length ≤ 3 ∧ ∀ H', Same H H' → Q (.bl (froM bs ws F L)) H'
theorem ok_goes_fro (T : Tx K mg) : FnOk P w K mg base CX0 3 T.f_goes_fro T.fd_goes_fro ["table", "words", "first", "last"] (sp_goes_fro K) := by
  refine T.F_goes_fro.ok sc_goes_fro (fun vs H Q E h => ?_) (fun cdv A outer s H vs Q E hr h => ?_)
  · obtain ⟨bs, wa, ws, F, L, rfl, _⟩ := h
    rfl
  · obtain ⟨bs, wa, ws, F, L, rfl, tw, ok, hb, h3, q⟩ := h
    refine ⟨_, (pss_cons (ps_for PassesOwn.never rfl (pi_tup (pe_call (ok_choices_of T) (hr.mono (by decide)) (by rfl) T.g_choices_of T.F_choices_of.kp T.b_choices_of .nil pass0 (pa_cons (pe_lc (own := [("word", 7)]) (by rfl) sc_goes_fro.nd (pi_tup (pv 1)) (blkOk_by (own := [("word", 7)]) (N := ["table", "words", "first", "last", "pairs", "early", "late", "word"]) (sc := defScope s_goes_fro) (by decide +kernel)) (fun _ _ _ _ _ => (pg_name (i := 7) sc_goes_fro.nd rfl (by first | exact .inl rfl | exact .inr rfl))) (fun _ _ _ _ _ => pts_nil) (fun _ _ _ _ _ => (pe_call (ok_pairs_of T) (hr.mono (by decide)) (by rfl) T.g_pairs_of T.F_pairs_of.kp T.b_pairs_of .nil pass0 (pa_cons (pv 7) pa_nil)))) pa_nil))) (pg_name (i := 4) sc_goes_fro.nd rfl (by first | exact .inl rfl | exact .inr rfl)) (pss_cons (ps_asg (pe_call (ok_pair_by T) (hr.mono (by decide)) (by rfl) T.g_pair_by T.F_pair_by.kp T.b_pair_by .nil pass0 (pa_cons (pv 0) (pa_cons (pv 4) pa_nil))) (pg_tup rfl (pgs_cons (pg_name (i := 5) sc_goes_fro.nd rfl (by first | exact .inl rfl | exact .inr rfl)) (pgs_cons (pg_name (i := 6) sc_goes_fro.nd rfl (by first | exact .inl rfl | exact .inr rfl)) pgs_nil)))) (pss_cons (ps_if (pw_and (pt_cmpR op_eq (pv 2) (pv 3) (nomark _)) (pw_and1 (pt_cmpR op_ne (pv 5) (pv 2) (nomark _)))).pt (pss_one (ps_ret pe_bl)) pss_nil) (pss_one (ps_if (pw_and (pt_cmpR op_ne (pv 2) (pv 3) (nomark _)) (pw_and (pt_cmpR op_eq (pv 5) (pv 3) (nomark _)) (pw_and1 (pt_cmpR op_eq (pv 6) (pv 2) (nomark _))))).pt (pss_one (ps_ret pe_bl)) pss_nil))))) (pss_one (ps_ret pe_bl))), ?_⟩
    obtain ⟨wa', xs, e, hwa, tws⟩ := tw.tup_inv
    cases e
    -- [pairs_of(word) for word in words]
    refine ⟨.ref wa, rfl, wa, rfl, ⟨_, SqT.of hwa⟩, fun D nD => ?_⟩
    refine lc_tup (K := K) (a := wa) (xs := xs) (fun j H' => Same H (hd1 D H') ∧ ∃ acc, H' D = some (.lst acc) ∧ TkAll (hd1 D H') acc ((ws.take j).map fun x => PyData.tuple ((pw x).map prD))) ⟨hd1_of (same_upd nD) nD, [], upd_same, .nil⟩ (fun j H' _ hP => SqT.of (hd1_le _ _ (hP.1 _ _ hwa))) ?_ ?_
    · rintro j v H1 hv ⟨s1, acc, hD, ta⟩
      obtain ⟨dx, hdx, tx⟩ := tws.get hv
      obtain ⟨x, hx, rfl⟩ : ∃ x, ws[j]? = some x ∧ dx = wD x := by
        rw [List.getElem?_map] at hdx
        cases hz : ws[j]? with
        | none => rw [hz] at hdx; cases hdx
        | some x => rw [hz] at hdx; exact ⟨x, rfl, (Option.some.inj hdx).symm⟩
      obtain ⟨a, rfl, ha⟩ := wd_inv tx
      have okx := ok x (List.mem_of_getElem? hx)
      refine ⟨rfl, ?_⟩
      refine ⟨.ref a, rfl, a, x.1, x.2.1, x.2.2, rfl, hd1_le _ _ (s1 _ _ ha), okx.1, okx.2, fun r H2 s2 p2 => ?_⟩
      have hD2 := s2 _ _ hD
      have sD := hd1_same (p := D) s2
      refine ⟨acc, hD2, ?_, (s1.trans sD).trans hd1_upd, acc ++ [.ref r], upd_same, ?_⟩
      · have := ta.length
        rw [List.length_map, List.length_take] at this
        exact Nat.lt_of_lt_of_le (show acc.length < 64 by omega) (by decide)
      · rw [List.take_add_one, hx]
        show TkAll _ _ ((ws.take j ++ [x]).map _)
        rw [List.map_append]
        exact ((ta.same sD).same hd1_upd).append (.cons ((p2.tk hD2).same hd1_upd) .nil)
    · rintro H1 ⟨s1, acc, hD, ta⟩
      have lx : xs.length = ws.length := by rw [tws.length, List.length_map]
      rw [lx, List.take_length] at ta
      have ta' : TkAll H1 acc ((ws.map fun x => (pw x).map prD).map PyData.tuple) := by
        rw [List.map_map]
        exact ta.same hd1_le
      refine ⟨D, acc, _, rfl, hD, ta', .inl (by rw [List.length_map]; exact h3), fun o ho => ?_, fun r H2 s2 tr => ?_⟩
      · obtain ⟨x, _, rfl⟩ := List.mem_map.mp ho
        rw [List.length_map]
        have := pairs4 x
        omega
      have sA : Same H H2 := fun b o e => s2 _ _ (hd1_le _ _ (s1 _ _ e))
      have eC : chs (ws.map fun x => (pw x).map prD) = (chs (ws.map pw)).map (List.map prD) := by
        rw [← chs_map prD _ _ rfl, List.map_map]
        rfl
      rw [eC] at tr
      obtain ⟨r', cs, e, hr2, tcs⟩ := tr.tup_inv
      cases e
      have lcs : cs.length = (chs (ws.map pw)).length := by rw [tcs.length, List.length_map, List.length_map]
      refine ⟨r, rfl, ⟨_, SqT.of hr2⟩, for_tup (K := K) (a := r) (xs := cs) (fun i σ H' => ∃ y4 y5 y6, σ = [some (.str (tabOf bs)), some (.ref wa), some (.int F), some (.int L), y4, y5, y6, none] ∧ Same H2 H' ∧ ∀ j c, j < i → (chs (ws.map pw))[j]? = some c → testC bs F L c = false) ⟨_, _, _, rfl, Same.refl _, fun j c hj => absurd hj (Nat.not_lt_zero _)⟩ (fun i σ H' _ ⟨_, _, _, _, z, _⟩ => SqT.of (z _ _ hr2)) ?_ ?_⟩
      · rintro i v σ H3 hv ⟨y4, y5, y6, rfl, s3, none_⟩
        obtain ⟨dx, hdx, tx⟩ := tcs.get hv
        obtain ⟨c, hc, rfl⟩ : ∃ c, (chs (ws.map pw))[i]? = some c ∧ dx = .tuple (c.map prD) := by
          rw [List.getElem?_map, List.getElem?_map] at hdx
          cases hz : (chs (ws.map pw))[i]? with
          | none => rw [hz] at hdx; cases hdx
          | some c => rw [hz] at hdx; exact ⟨c, rfl, (Option.some.inj hdx).symm⟩
        have hcm := List.mem_of_getElem? hc
        have c01 : ∀ p ∈ c, (p.1 = 0 ∨ p.1 = 1) ∧ (p.2 = 0 ∨ p.2 = 1) := fun p hp => by
          obtain ⟨l, hl, hpl⟩ := chs_mem _ c hcm p hp
          obtain ⟨x, hx, rfl⟩ := List.mem_map.mp hl
          exact pairs01 (ok x hx) p hpl
        have lc : c.length = ws.length := by rw [chs_width _ c hcm, List.length_map]
        obtain ⟨pa, zs, rfl, _⟩ := tx.tup_inv
        refine ⟨.str (tabOf bs), rfl, .ref pa, rfl, bs, pa, c, rfl, tx.same s3, c01, by rw [lc]; exact hb, by rw [lc]; exact h3, fun r5 H5 s35 h5 => ?_⟩
        refine ⟨r5, _, rfl, SqT.of h5, rfl, _, _, rfl, _, _, rfl, rfl, ?_⟩
        have sAll : Same H2 H5 := s3.trans s35
        have yes : testC bs F L c = true → Q (.bl true) H5 := fun z => by
          have e : froM bs ws F L = true := List.any_eq_true.mpr ⟨c, hcm, z⟩
          have := q H5 (sA.trans sAll)
          rw [e] at this
          exact this
        have no : testC bs F L c = false → ∃ y4 y5 y6, ([some (.str (tabOf bs)), some (.ref wa), some (.int F), some (.int L), some (.ref pa), some (.int (gateM bs (c.map (·.1)))), some (.int (gateM bs (c.map (·.2)))), none] : List (Option V)) = [some (.str (tabOf bs)), some (.ref wa), some (.int F), some (.int L), y4, y5, y6, none] ∧ Same H2 H5 ∧ ∀ j c, j < i + 1 → (chs (ws.map pw))[j]? = some c → testC bs F L c = false := fun z =>
          ⟨_, _, _, rfl, sAll, fun j c' hj hc' => by
            by_cases hji : j < i
            · exact none_ j c' hji hc'
            · have : j = i := by omega
              subst this
              cases Option.some.inj (hc.symm.trans hc')
              exact z⟩
        refine ⟨.int F, rfl, .int L, rfl, rfl, _, rfl, ite2 (fun e1 => ?_) (fun e1 => ?_)⟩
        · rw [evI] at e1
          refine ⟨.int (gateM bs (c.map (·.1))), rfl, .int F, rfl, rfl, _, rfl, ?_⟩
          rw [evI]
          refine ite2 (fun e2 => ?_) (fun e2 => ?_)
          · refine yes ?_
            unfold testC
            rw [e1, e2]
            rfl
          · refine ⟨.int F, rfl, .int L, rfl, rfl, _, rfl, ?_⟩
            rw [evI, e1]
            refine iteF (iteF (no ?_))
            unfold testC
            rw [e1, Bool.eq_false_iff.mpr e2]
            rfl
        · rw [evI] at e1
          refine iteF ?_
          refine ⟨.int F, rfl, .int L, rfl, rfl, _, rfl, ?_⟩
          rw [evI, Bool.eq_false_iff.mpr e1]
          refine iteT ?_
          refine ⟨.int (gateM bs (c.map (·.1))), rfl, .int L, rfl, rfl, _, rfl, ?_⟩
          rw [evI]
          refine ite2 (fun e2 => ?_) (fun e2 => ?_)
          · refine ⟨.int (gateM bs (c.map (·.2))), rfl, .int F, rfl, rfl, _, rfl, ?_⟩
            rw [evI]
            refine ite2 (fun e3 => ?_) (fun e3 => ?_)
            · refine yes ?_
              unfold testC
              rw [Bool.eq_false_iff.mpr e1, e2, e3]
              rfl
            · refine no ?_
              unfold testC
              rw [Bool.eq_false_iff.mpr e1, e2, Bool.eq_false_iff.mpr e3]
              rfl
          · refine iteF (no ?_)
            unfold testC
            rw [Bool.eq_false_iff.mpr e1, Bool.eq_false_iff.mpr e2]
            rfl
      · rintro σ H3 ⟨y4, y5, y6, rfl, s3, none_⟩
        have e : froM bs ws F L = false := by
          unfold froM
          rw [List.any_eq_false]
          intro c hc
          obtain ⟨j, hj⟩ := List.getElem?_of_mem hc
          have hjl := (List.getElem?_eq_some_iff.mp hj).1
          rw [none_ j c (by rw [lcs]; exact hjl) hj]
          exact Bool.false_ne_true
        have := q H3 (sA.trans s3)
        rw [e] at this
        exact this
def sp_gate_word (K : PySem.W.Frag) : Sp := fun vs H Q _ => ∃ (bs : List Bool) (wa : Addr) (ws : List Wd), vs = [.str (tabOf bs), .ref wa] ∧ Tk H (.ref wa) (.tuple (ws.map wD)) ∧ (∀ x ∈ ws, Wok x) ∧ bs.length = 2 ^ ws.length ∧ ws.length ≤ 3 ∧ ∀ r H', Same H H' → H' r = some (.tup [.int (gateM bs (ws.map (·.1))), .int (gateM bs (ws.map (·.2.1))), .bl (froM bs ws (gateM bs (ws.map (·.1))) (gateM bs (ws.map (·.2.1))))]) → Q (.ref r) H'
/-- [word[k] for word in words] -/
theorem words_at {H : Hp} {xs : List V} {ws : List Wd} (t : TkAll H xs (ws.map wD)) {j : Nat} {v : V} (h : xs[j]? = some v) : ∃ (x : Wd) (a : Addr), ws[j]? = some x ∧ v = .ref a ∧ H a = some (.tup [.int x.1, .int x.2.1, .bl x.2.2]) := by
  obtain ⟨dx, hdx, tx⟩ := t.get h
  rw [List.getElem?_map] at hdx
  cases hz : ws[j]? with
  | none => rw [hz] at hdx; cases hdx
  | some x =>
    rw [hz] at hdx
    cases Option.some.inj hdx
    obtain ⟨a, rfl, ha⟩ := wd_inv tx
    exact ⟨x, a, rfl, rfl, ha⟩
theorem ok_gate_word (T : Tx K mg) : FnOk P w K mg base CX0 4 T.f_gate_word T.fd_gate_word ["table", "words"] (sp_gate_word K) := by
  refine T.F_gate_word.ok sc_gate_word (fun vs H Q E h => ?_) (fun cdv A outer s H vs Q E hr h => ?_)
  · obtain ⟨bs, wa, ws, rfl, _⟩ := h
    rfl
  · obtain ⟨bs, wa, ws, rfl, tw, ok, hb, h3, q⟩ := h
    refine ⟨_, (pss_cons (ps_set (i := 2) sc_gate_word.nd rfl (by first | exact .inl rfl | exact .inr rfl) (pe_call (ok_table_worth T) (hr.mono (by decide)) (by rfl) T.g_table_worth T.F_table_worth.kp T.b_table_worth .nil pass0 (pa_cons (pv 0) (pa_cons (pe_lc (own := [("word", 4)]) (by rfl) sc_gate_word.nd (pi_tup (pv 1)) (blkOk_by (own := [("word", 4)]) (N := ["table", "words", "first", "last", "word"]) (sc := defScope s_gate_word) (by decide +kernel)) (fun _ _ _ _ _ => (pg_name (i := 4) sc_gate_word.nd rfl (by first | exact .inl rfl | exact .inr rfl))) (fun _ _ _ _ _ => pts_nil) (fun _ _ _ _ _ => (pe_ix (show IxR _ (rIxT K) from ix_tup) (pv 4) pe_int (fun _ _ => rfl)))) pa_nil)))) (pss_cons (ps_set (i := 3) sc_gate_word.nd rfl (by first | exact .inl rfl | exact .inr rfl) (pe_call (ok_table_worth T) (hr.mono (by decide)) (by rfl) T.g_table_worth T.F_table_worth.kp T.b_table_worth .nil pass0 (pa_cons (pv 0) (pa_cons (pe_lc (own := [("word", 4)]) (by rfl) sc_gate_word.nd (pi_tup (pv 1)) (blkOk_by (own := [("word", 4)]) (N := ["table", "words", "first", "last", "word"]) (sc := defScope s_gate_word) (by decide +kernel)) (fun _ _ _ _ _ => (pg_name (i := 4) sc_gate_word.nd rfl (by first | exact .inl rfl | exact .inr rfl))) (fun _ _ _ _ _ => pts_nil) (fun _ _ _ _ _ => (pe_ix (show IxR _ (rIxT K) from ix_tup) (pv 4) pe_int (fun _ _ => rfl)))) pa_nil)))) (pss_one (ps_ret (pe_tup (pa_cons (pv 2) (pa_cons (pv 3) (pa_cons (pe_call (ok_goes_fro T) (hr.mono (by decide)) (by rfl) T.g_goes_fro T.F_goes_fro.kp T.b_goes_fro .nil pass0 (pa_cons (pv 0) (pa_cons (pv 1) (pa_cons (pv 2) (pa_cons (pv 3) pa_nil))))) pa_nil)))))))), ?_⟩
    obtain ⟨wa', xs, e, hwa, tws⟩ := tw.tup_inv
    cases e
    have lx : xs.length = ws.length := by rw [tws.length, List.length_map]
    refine ⟨.str (tabOf bs), rfl, .ref wa, rfl, wa, rfl, ⟨_, SqT.of hwa⟩, fun D nD => ?_⟩
    refine lc_tup (K := K) (a := wa) (xs := xs) (fun j H' => Same H (hd1 D H') ∧ H' D = some (.lst (((ws.map (·.1)).take j).map V.int))) ⟨hd1_of (same_upd nD) nD, upd_same⟩ (fun j H' _ hP => SqT.of (hd1_le _ _ (hP.1 _ _ hwa))) ?_ ?_
    · rintro j v H1 hv ⟨s1, h1⟩
      obtain ⟨x, a, hx, rfl, ha⟩ := words_at tws hv
      refine ⟨rfl, .ref a, rfl, a, _, 0, .int x.1, rfl, rfl, SqT.of (hd1_le _ _ (s1 _ _ ha)), rfl, _, h1, ?_, s1.trans hd1_upd, ?_⟩
      · rw [List.length_map, List.length_take, List.length_map]
        exact Nat.lt_of_lt_of_le (show min j ws.length < 64 by omega) (by decide)
      · rw [upd_same, List.take_add_one, List.getElem?_map, hx, List.map_append]
        rfl
    rintro H1 ⟨s1, h1⟩
    have s01 : Same H H1 := fun b o e => hd1_le _ _ (s1 _ _ e)
    rw [lx, List.take_of_length_le (by rw [List.length_map]; exact Nat.le_refl _)] at h1
    refine ⟨bs, D, _, rfl, SqL.of h1, fun u hu => ?_, by rw [List.length_map]; exact hb, by rw [List.length_map]; exact h3, ?_⟩
    · obtain ⟨x, hx, rfl⟩ := List.mem_map.mp hu
      exact (ok x hx).1
    refine ⟨.str (tabOf bs), rfl, .ref wa, rfl, wa, rfl, ⟨_, SqT.of (s01 _ _ hwa)⟩, fun D2 nD2 => ?_⟩
    refine lc_tup (K := K) (a := wa) (xs := xs) (fun j H' => Same H1 (hd1 D2 H') ∧ H' D2 = some (.lst (((ws.map (·.2.1)).take j).map V.int))) ⟨hd1_of (same_upd nD2) nD2, upd_same⟩ (fun j H' _ hP => SqT.of (hd1_le _ _ (hP.1 _ _ (s01 _ _ hwa)))) ?_ ?_
    · rintro j v H2 hv ⟨s2, h2⟩
      obtain ⟨x, a, hx, rfl, ha⟩ := words_at tws hv
      refine ⟨rfl, .ref a, rfl, a, _, 1, .int x.2.1, rfl, rfl, SqT.of (hd1_le _ _ (s2 _ _ (s01 _ _ ha))), rfl, _, h2, ?_, s2.trans hd1_upd, ?_⟩
      · rw [List.length_map, List.length_take, List.length_map]
        exact Nat.lt_of_lt_of_le (show min j ws.length < 64 by omega) (by decide)
      · rw [upd_same, List.take_add_one, List.getElem?_map, hx, List.map_append]
        rfl
    rintro H2 ⟨s2, h2⟩
    have s12 : Same H1 H2 := fun b o e => hd1_le _ _ (s2 _ _ e)
    rw [lx, List.take_of_length_le (by rw [List.length_map]; exact Nat.le_refl _)] at h2
    refine ⟨bs, D2, _, rfl, SqL.of h2, fun u hu => ?_, by rw [List.length_map]; exact hb, by rw [List.length_map]; exact h3, ?_⟩
    · obtain ⟨x, hx, rfl⟩ := List.mem_map.mp hu
      exact (ok x hx).2
    have sA := s01.trans s12
    refine ⟨.int (gateM bs (ws.map (·.1))), rfl, .int (gateM bs (ws.map (·.2.1))), rfl, .str (tabOf bs), rfl, .ref wa, rfl, .int (gateM bs (ws.map (·.1))), rfl, .int (gateM bs (ws.map (·.2.1))), rfl, bs, wa, ws, _, _, rfl, tw.same sA, ok, hb, h3, fun H3 s3 => ?_⟩
    refine ⟨sl3, fun r nr => ?_⟩
    exact q r _ ((sA.trans s3).trans (same_upd nr)) upd_same

end
end Gk

set_option Elab.async false
set_option linter.all false
set_option maxRecDepth 100000
namespace Gk
open PySem PySem.Spec PyProof.Rows L2
/-! ### mathematics: the waves of a word, and what a gate shows by them -/
def wv (f n : Int) : Nat → Int
  | 0 => f
  | k + 1 => (wv f n k + n / ([1, 2, 4] : List Int).getD k 0) % 2
def wl (f n : Int) (i : Nat) : List Int := (List.range (i + 1)).map (wv f n)
theorem wl_len (f n : Int) (i : Nat) : (wl f n i).length = i + 1 := by simp [wl]
theorem wl_succ (f n : Int) (i : Nat) : wl f n (i + 1) = wl f n i ++ [wv f n (i + 1)] := by
  unfold wl
  rw [List.range_succ (n := i + 1), List.map_append]
  rfl
theorem wl_last (f n : Int) (i : Nat) : atI ((wl f n i).map V.int) (-1) = some (.int (wv f n i)) := by
  have e : (wl f n i).map V.int = ((List.range i).map (wv f n)).map V.int ++ [.int (wv f n i)] := by
    unfold wl
    rw [List.range_succ, List.map_append, List.map_append]
    rfl
  rw [e]
  exact atI_last _ _
def manyW (n : Int) : Int := n % 2 + n / 2 % 2 + n / 4
def condW (x : Wd) (n : Int) : Bool := decide (wv x.1 n 3 = x.2.1) && (x.2.2 || decide (manyW n = if (!decide (V.int x.1 = V.int x.2.1)) = true then 1 else 0))
def wavesTo (x : Wd) : Nat → List (List Int)
  | 0 => []
  | n + 1 => if condW x (0 + (n : Nat)) = true then wavesTo x n ++ [wl x.1 (0 + (n : Nat)) 3] else wavesTo x n
def wavesM (x : Wd) : List (List Int) := wavesTo x 8
theorem waves_len (x : Wd) : ∀ n, (wavesTo x n).length ≤ n
  | 0 => Nat.le_refl _
  | n + 1 => by
    have := waves_len x n
    unfold wavesTo
    split
    · rw [List.length_append]
      simp only [List.length_singleton]
      omega
    · omega
def at4 (k : Nat) (v : List Int) : Int := v.getD k 0
theorem waveA {x : Wd} (h : Wok x) : ∀ p ∈ pw x, [x.1, p.1, p.2, x.2.1] ∈ wavesM x := by
  obtain ⟨f, l, c⟩ := x
  obtain ⟨hf, hl⟩ := h
  dsimp only at hf hl
  rcases hf with rfl | rfl <;> rcases hl with rfl | rfl <;> cases c <;> decide +kernel
theorem waveB {x : Wd} (h : Wok x) : ∀ v ∈ wavesM x, v.length = 4 ∧ (∀ u ∈ v, u = 0 ∨ u = 1) ∧ at4 0 v = x.1 ∧ at4 3 v = x.2.1 ∧ (at4 1 v, at4 1 v) ∈ pw x ∧ (at4 1 v, at4 2 v) ∈ pw x ∧ (at4 2 v, at4 2 v) ∈ pw x := by
  obtain ⟨f, l, c⟩ := x
  obtain ⟨hf, hl⟩ := h
  dsimp only at hf hl
  rcases hf with rfl | rfl <;> rcases hl with rfl | rfl <;> cases c <;> decide +kernel
/-- members of all choices -/
inductive Fa {α : Type} : List α → List (List α) → Prop
  | nil : Fa [] []
  | cons {o : α} {l : List α} {c : List α} {ls : List (List α)} : o ∈ l → Fa c ls → Fa (o :: c) (l :: ls)
theorem Fa.snoc {α : Type} : ∀ {c : List α} {ls : List (List α)} {o : α} {l : List α}, Fa c ls → o ∈ l → Fa (c ++ [o]) (ls ++ [l])
  | _, _, _, _, .nil, h => .cons h .nil
  | _, _, _, _, .cons a t, h => .cons a (t.snoc h)
theorem Fa.unsnoc {α : Type} : ∀ {ls : List (List α)} {l : List α} {c : List α}, Fa c (ls ++ [l]) → ∃ c0 o, c = c0 ++ [o] ∧ Fa c0 ls ∧ o ∈ l
  | [], _, _, .cons h .nil => ⟨[], _, rfl, .nil, h⟩
  | _ :: ls, l, _, .cons h t => by
    obtain ⟨c0, o, rfl, f, ho⟩ := Fa.unsnoc (ls := ls) t
    exact ⟨_ :: c0, o, rfl, .cons h f, ho⟩
theorem chs_iff {α : Type} : ∀ (n : Nat) (ls : List (List α)), ls.length = n → ∀ c, c ∈ chs ls ↔ Fa c ls := by
  intro n
  induction n with
  | zero =>
    intro ls h c
    cases List.eq_nil_of_length_eq_zero h
    constructor
    · intro hc
      cases List.mem_singleton.mp hc
      exact .nil
    · intro hc
      cases hc
      exact List.mem_singleton.mpr rfl
  | succ n ih =>
    intro ls h c
    have hne : ls ≠ [] := fun z => by rw [z] at h; cases h
    obtain ⟨r, x, rfl⟩ : ∃ r x, ls = r ++ [x] := ⟨ls.dropLast, ls.getLast hne, (List.dropLast_concat_getLast hne).symm⟩
    have ih' := ih r (by rw [List.length_append] at h; simpa using h)
    rw [chs_snoc]
    constructor
    · intro hc
      obtain ⟨c0, h0, hc⟩ := List.mem_flatMap.mp hc
      obtain ⟨o, ho, rfl⟩ := List.mem_map.mp hc
      exact ((ih' c0).mp h0).snoc ho
    · intro hc
      obtain ⟨c0, o, rfl, f, ho⟩ := hc.unsnoc
      exact List.mem_flatMap.mpr ⟨c0, (ih' c0).mpr f, List.mem_map.mpr ⟨o, ho, rfl⟩⟩
def gk (bs : List Bool) (r : List (List Int)) (k : Nat) : Int := gateM bs (r.map (at4 k))
def chgI (a b : Int) : Int := if (!decide (V.int a = V.int b)) = true then 1 else 0
def testR (bs : List Bool) (r : List (List Int)) : Bool := decide (chgI (gk bs r 0) (gk bs r 3) < ([chgI (gk bs r 0) (gk bs r 1), chgI (gk bs r 1) (gk bs r 2), chgI (gk bs r 2) (gk bs r 3)] : List Int).sum)
def froL (bs : List Bool) (ws : List Wd) : Bool := (chs (ws.map wavesM)).any (testR bs)
theorem to_waves : ∀ (ws : List Wd) (c : List (Int × Int)), (∀ x ∈ ws, Wok x) → Fa c (ws.map pw) → ∃ r, Fa r (ws.map wavesM) ∧ r.map (at4 0) = ws.map (·.1) ∧ r.map (at4 1) = c.map (·.1) ∧ r.map (at4 2) = c.map (·.2) ∧ r.map (at4 3) = ws.map (·.2.1)
  | [], _, _, .nil => ⟨[], .nil, rfl, rfl, rfl, rfl⟩
  | x :: ws, _, ok, .cons (o := p) hp t => by
    obtain ⟨r, f, a0, a1, a2, a3⟩ := to_waves ws _ (fun y hy => ok y (List.mem_cons_of_mem _ hy)) t
    refine ⟨[x.1, p.1, p.2, x.2.1] :: r, .cons (waveA (ok x (List.mem_cons_self ..)) p hp) f, ?_, ?_, ?_, ?_⟩
    · rw [List.map_cons, a0]; rfl
    · rw [List.map_cons, a1]; rfl
    · rw [List.map_cons, a2]; rfl
    · rw [List.map_cons, a3]; rfl
theorem from_waves : ∀ (ws : List Wd) (r : List (List Int)), (∀ x ∈ ws, Wok x) → Fa r (ws.map wavesM) → r.map (at4 0) = ws.map (·.1) ∧ r.map (at4 3) = ws.map (·.2.1) ∧
    (∃ c, Fa c (ws.map pw) ∧ c.map (·.1) = r.map (at4 1) ∧ c.map (·.2) = r.map (at4 1)) ∧ (∃ c, Fa c (ws.map pw) ∧ c.map (·.1) = r.map (at4 1) ∧ c.map (·.2) = r.map (at4 2)) ∧ (∃ c, Fa c (ws.map pw) ∧ c.map (·.1) = r.map (at4 2) ∧ c.map (·.2) = r.map (at4 2))
  | [], _, _, .nil => ⟨rfl, rfl, ⟨[], .nil, rfl, rfl⟩, ⟨[], .nil, rfl, rfl⟩, ⟨[], .nil, rfl, rfl⟩⟩
  | x :: ws, _, ok, .cons (o := v) hv t => by
    obtain ⟨a0, a3, ⟨c1, f1, p1, q1⟩, ⟨c2, f2, p2, q2⟩, ⟨c3, f3, p3, q3⟩⟩ := from_waves ws _ (fun y hy => ok y (List.mem_cons_of_mem _ hy)) t
    obtain ⟨_, _, b0, b3, m1, m2, m3⟩ := waveB (ok x (List.mem_cons_self ..)) v hv
    refine ⟨?_, ?_, ⟨_ :: c1, .cons m1 f1, ?_, ?_⟩, ⟨_ :: c2, .cons m2 f2, ?_, ?_⟩, ⟨_ :: c3, .cons m3 f3, ?_, ?_⟩⟩
    · rw [List.map_cons, List.map_cons, a0, b0]
    · rw [List.map_cons, List.map_cons, a3, b3]
    · rw [List.map_cons, List.map_cons, p1]
    · rw [List.map_cons, List.map_cons, q1]
    · rw [List.map_cons, List.map_cons, p2]
    · rw [List.map_cons, List.map_cons, q2]
    · rw [List.map_cons, List.map_cons, p3]
    · rw [List.map_cons, List.map_cons, q3]
def tC (F L a b : Int) : Bool := (decide (F = L) && !decide (a = F)) || (!decide (F = L) && (decide (a = L) && decide (b = F)))
def tR (g0 g1 g2 g3 : Int) : Bool := decide (chgI g0 g3 < ([chgI g0 g1, chgI g1 g2, chgI g2 g3] : List Int).sum)
theorem bits_to {F L a b : Int} (hF : F = 0 ∨ F = 1) (hL : L = 0 ∨ L = 1) (ha : a = 0 ∨ a = 1) (hb : b = 0 ∨ b = 1) : tC F L a b = true → tR F a b L = true := by
  rcases hF with rfl | rfl <;> rcases hL with rfl | rfl <;> rcases ha with rfl | rfl <;> rcases hb with rfl | rfl <;> decide +kernel
theorem bits_from {F L a b : Int} (hF : F = 0 ∨ F = 1) (hL : L = 0 ∨ L = 1) (ha : a = 0 ∨ a = 1) (hb : b = 0 ∨ b = 1) : tR F a b L = true → tC F L a a = true ∨ tC F L a b = true ∨ tC F L b b = true := by
  rcases hF with rfl | rfl <;> rcases hL with rfl | rfl <;> rcases ha with rfl | rfl <;> rcases hb with rfl | rfl <;> decide +kernel
theorem fro_same (bs : List Bool) (ws : List Wd) (ok : ∀ x ∈ ws, Wok x) : froM bs ws (gateM bs (ws.map (·.1))) (gateM bs (ws.map (·.2.1))) = froL bs ws := by
  rw [Bool.eq_iff_iff]
  unfold froM froL
  rw [List.any_eq_true, List.any_eq_true]
  constructor
  · rintro ⟨c, hc, tc⟩
    obtain ⟨r, f, a0, a1, a2, a3⟩ := to_waves ws c ok ((chs_iff _ _ rfl c).mp hc)
    refine ⟨r, (chs_iff _ _ rfl r).mpr f, ?_⟩
    have tc' : tC (gateM bs (ws.map fun x => x.1)) (gateM bs (ws.map fun x => x.2.1)) (gateM bs (c.map fun p => p.1)) (gateM bs (c.map fun p => p.2)) = true := tc
    have := bits_to (gate01 _ _) (gate01 _ _) (gate01 _ _) (gate01 _ _) tc'
    show tR (gk bs r 0) (gk bs r 1) (gk bs r 2) (gk bs r 3) = true
    unfold gk
    rw [a0, a1, a2, a3]
    exact this
  · rintro ⟨r, hr, tr⟩
    obtain ⟨a0, a3, ⟨c1, f1, p1, q1⟩, ⟨c2, f2, p2, q2⟩, ⟨c3, f3, p3, q3⟩⟩ := from_waves ws r ok ((chs_iff _ _ rfl r).mp hr)
    have tr' : tR (gk bs r 0) (gk bs r 1) (gk bs r 2) (gk bs r 3) = true := tr
    unfold gk at tr'
    rw [a0, a3] at tr'
    rcases bits_from (gate01 _ _) (gate01 _ _) (gate01 _ _) (gate01 _ _) tr' with h | h | h
    · refine ⟨c1, (chs_iff _ _ rfl c1).mpr f1, ?_⟩
      show tC _ _ (gateM bs (c1.map (·.1))) (gateM bs (c1.map (·.2))) = true
      rw [p1, q1]
      exact h
    · refine ⟨c2, (chs_iff _ _ rfl c2).mpr f2, ?_⟩
      show tC _ _ (gateM bs (c2.map (·.1))) (gateM bs (c2.map (·.2))) = true
      rw [p2, q2]
      exact h
    · refine ⟨c3, (chs_iff _ _ rfl c3).mpr f3, ?_⟩
      show tC _ _ (gateM bs (c3.map (·.1))) (gateM bs (c3.map (·.2))) = true
      rw [p3, q3]
      exact h
end Gk

set_option Elab.async false
set_option linter.all false
set_option maxRecDepth 100000
namespace Gk
open PySem PySem.Spec PyProof.Rows L2
def sgn (b : Bool) : Str := if b = true then "1" else "0"
theorem join8 : ∀ a b c d e f g h : Bool, Txt.join "" ([a, b, c, d, e, f, g, h].map sgn) = tabOf [a, b, c, d, e, f, g, h] := by decide +kernel
theorem cut8 : ∀ a b c d e f g h : Bool, cutS (tabOf [a, b, c, d, e, f, g, h]) none (some 2) = tabOf [a, b] ∧ cutS (tabOf [a, b, c, d, e, f, g, h]) none (some 4) = tabOf [a, b, c, d] ∧ cutS (tabOf [a, b, c, d, e, f, g, h]) none (some 8) = tabOf [a, b, c, d, e, f, g, h] := by decide +kernel
theorem eight {α : Type} : ∀ {xs : List α}, xs.length = 8 → ∃ a b c d e f g h, xs = [a, b, c, d, e, f, g, h]
  | [a, b, c, d, e, f, g, h], _ => ⟨a, b, c, d, e, f, g, h, rfl⟩
  | [], h => by cases h
  | [_], h => by cases h
  | [_, _], h => by cases h
  | [_, _, _], h => by cases h
  | [_, _, _, _], h => by cases h
  | [_, _, _, _, _], h => by cases h
  | [_, _, _, _, _, _], h => by cases h
  | [_, _, _, _, _, _, _], h => by cases h
  | _ :: _ :: _ :: _ :: _ :: _ :: _ :: _ :: _ :: _, h => by simp at h
theorem join_all {bs : List Bool} (h : bs.length = 8) : Txt.join "" (bs.map sgn) = tabOf bs := by
  obtain ⟨a, b, c, d, e, f, g, k, rfl⟩ := eight h
  exact join8 a b c d e f g k
theorem size8 : ∀ a b c d e f g h : Bool, (([a, b, c, d, e, f, g, h].map sgn).map (·.length)).sum + ([a, b, c, d, e, f, g, h].map sgn).length * ("" : Str).length ≤ 16777216 := by decide +kernel
theorem size_all {bs : List Bool} (h : bs.length = 8) : ((bs.map sgn).map (·.length)).sum + (bs.map sgn).length * ("" : Str).length ≤ 16777216 := by
  obtain ⟨a, b, c, d, e, f, g, k, rfl⟩ := eight h
  exact size8 a b c d e f g k
theorem cut_all {bs : List Bool} (hb : bs.length = 8) {n : Nat} (hn : n = 1 ∨ n = 2 ∨ n = 3) : ∃ m : Int, ([.int 1, .int 2, .int 4, .int 8] : List V)[n]? = some (.int m) ∧ ∃ bs', cutS (tabOf bs) none (some m) = tabOf bs' ∧ bs'.length = 2 ^ n := by
  obtain ⟨a, b, c, d, e, f, g, h, rfl⟩ := eight hb
  obtain ⟨c1, c2, c3⟩ := cut8 a b c d e f g h
  rcases hn with rfl | rfl | rfl
  · exact ⟨2, rfl, _, c1, rfl⟩
  · exact ⟨4, rfl, _, c2, rfl⟩
  · exact ⟨8, rfl, _, c3, rfl⟩
theorem tab_len (bs : List Bool) : (tabOf bs).length = bs.length := by simp [tabOf, Str.length]
theorem str01 {i : Int} (h : i = 0 ∨ i = 1) : ∃ b : Bool, i.natAbs.log2 < 1920 ∧ (toString i : String) = (if b = true then "1" else "0") := by
  rcases h with rfl | rfl
  · exact ⟨false, by decide, by decide⟩
  · exact ⟨true, by decide, by decide⟩
section
variable {P : Program} {w : World} {K : PySem.W.Frag} {mg : Str → Option Value} {base : Heap}
def sp_word (K : PySem.W.Frag) : Sp := fun vs H Q _ => ∃ (d l : Addr), vs = [.ref d] ∧ Deck H d l ∧ ∀ H' r x, Deck H' d l → Fr d l H H' → H' r = some (.tup [.int x.1, .int x.2.1, .bl x.2.2]) → Wok x → Q (.ref r) H'
theorem ok_word (T : Tx K mg) : FnOk P w K mg base CX0 2 T.f_word T.fd_word ["_law_deck_here"] (sp_word K) := by
  refine T.F_word.ok sc_word (fun vs H Q E h => ?_) (fun cdv A outer s H vs Q E hr h => ?_)
  · obtain ⟨d, l, rfl, _⟩ := h
    rfl
  · obtain ⟨d, l, rfl, D, q⟩ := h
    refine ⟨_, (pss_cons (ps_set (i := 1) sc_word.nd rfl (by first | exact .inl rfl | exact .inr rfl) (pe_cmpR op_eq (pe_call (ok_draw T) (hr.mono (by decide)) (by rfl) T.g_draw T.F_draw.kp T.b_draw .nil pass0 (pa_cons (pv 0) (pa_cons pe_int pa_nil))) pe_int (nomark _))) (pss_cons (ps_set (i := 2) sc_word.nd rfl (by first | exact .inl rfl | exact .inr rfl) (pe_call (ok_draw T) (hr.mono (by decide)) (by rfl) T.g_draw T.F_draw.kp T.b_draw .nil pass0 (pa_cons (pv 0) (pa_cons pe_int pa_nil)))) (pss_cons (ps_if (pt_cmpR op_gt (pe_call (ok_draw T) (hr.mono (by decide)) (by rfl) T.g_draw T.F_draw.kp T.b_draw .nil pass0 (pa_cons (pv 0) (pa_cons pe_int pa_nil))) pe_int (nomark _)) (pss_one (ps_ret (pe_tup (pa_cons (pv 2) (pa_cons (pe_op op_sub pe_int (pv 2)) (pa_cons (pv 1) pa_nil)))))) pss_nil) (pss_one (ps_ret (pe_tup (pa_cons (pv 2) (pa_cons (pv 2) (pa_cons (pv 1) pa_nil))))))))), ?_⟩
    refine ⟨.ref d, rfl, d, l, 3, rfl, D, by decide, by decide, fun H1 u D1 f1 u0 u1 => ⟨rfl, ?_⟩⟩
    generalize decide (V.int u = V.int 0) = fro
    refine ⟨.ref d, rfl, d, l, 2, rfl, D1, by decide, by decide, fun H2 a D2 f2 a0 a1 => ?_⟩
    refine ⟨.ref d, rfl, d, l, 3, rfl, D2, by decide, by decide, fun H3 b D3 f3 b0 b1 => ?_⟩
    refine ⟨_, _, rfl, rfl, _, rfl, ite2 (fun _ => ?_) (fun _ => ?_)⟩
    · refine ⟨.int a, rfl, .int a, rfl, _, _, rfl, rfl, .bl fro, rfl, sl3, fun r nr => ?_⟩
      exact q _ r (a, 1 - a, fro) (D3.new nr) (((f1.trans f2).trans f3).trans (Fr.new nr)) upd_same ⟨by show a = 0 ∨ a = 1; omega, by show 1 - a = 0 ∨ 1 - a = 1; omega⟩
    · refine ⟨.int a, rfl, .int a, rfl, .bl fro, rfl, sl3, fun r nr => ?_⟩
      exact q _ r (a, a, fro) (D3.new nr) (((f1.trans f2).trans f3).trans (Fr.new nr)) upd_same ⟨by show a = 0 ∨ a = 1; omega, by show a = 0 ∨ a = 1; omega⟩
def sp_table (K : PySem.W.Frag) : Sp := fun vs H Q _ => ∃ (d l : Addr) (n : Nat), vs = [.ref d, .int n] ∧ Deck H d l ∧ (n = 1 ∨ n = 2 ∨ n = 3) ∧ ∀ H' bs, Deck H' d l → bs.length = 2 ^ n → Q (.str (tabOf bs)) H'
theorem ok_table (T : Tx K mg) : FnOk P w K mg base CX0 2 T.f_table T.fd_table ["_law_deck_here", "_law_size"] (sp_table K) := by
  refine T.F_table.ok sc_table (fun vs H Q E h => ?_) (fun cdv A outer s H vs Q E hr h => ?_)
  · obtain ⟨d, l, n, rfl, _⟩ := h
    rfl
  · obtain ⟨d, l, n, rfl, D, hn, q⟩ := h
    refine ⟨_, (pss_cons (ps_set (i := 2) sc_table.nd rfl (by first | exact .inl rfl | exact .inr rfl) (pe_call (ok_draw T) (hr.mono (by decide)) (by rfl) T.g_draw T.F_draw.kp T.b_draw .nil pass0 (pa_cons (pv 0) (pa_cons pe_int pa_nil)))) (pss_cons (ps_set (i := 3) sc_table.nd rfl (by first | exact .inl rfl | exact .inr rfl) (pe_call (ok_draw T) (hr.mono (by decide)) (by rfl) T.g_draw T.F_draw.kp T.b_draw .nil pass0 (pa_cons (pv 0) (pa_cons pe_int pa_nil)))) (pss_cons (ps_set (i := 4) sc_table.nd rfl (by first | exact .inl rfl | exact .inr rfl) (pe_join pe_str (pe_lc (own := [("_law_k", 6)]) (by rfl) sc_table.nd (pi_range1 (by rfl) T.m_range (pa_cons pe_int pa_nil)) (blkOk_by (own := [("_law_k", 6)]) (N := ["_law_deck_here", "_law_size", "_law_way", "_law_number", "_law_signs", "_law_known", "_law_k"]) (sc := defScope s_table) (by decide +kernel)) (fun _ _ _ _ _ => (pg_name (i := 6) sc_table.nd rfl (by first | exact .inl rfl | exact .inr rfl))) (fun _ _ _ _ _ => pts_nil) (fun _ _ _ _ _ => (pe_callTy call_str_int (by rfl) T.m_str (by decide +kernel) (pa_cons (pe_op op_mod (pe_op op_fdiv (pv 3) (pe_ix (show IxR _ (rIxL K) from ix_list) (pe_lst (pa_cons pe_int (pa_cons pe_int (pa_cons pe_int (pa_cons pe_int (pa_cons pe_int (pa_cons pe_int (pa_cons pe_int (pa_cons pe_int pa_nil))))))))) (pv 6) (fun _ _ => rfl))) pe_int) pa_nil)))))) (pss_cons (ps_set (i := 5) sc_table.nd rfl (by first | exact .inl rfl | exact .inr rfl) (pe_lst (pa_cons pe_str (pa_cons pe_str (pa_cons pe_str (pa_cons pe_str (pa_cons pe_str (pa_cons pe_str (pa_cons pe_str (pa_cons pe_str pa_nil)))))))))) (C8.pss_cut (ps_if (pt_cmpR op_eq (pv 2) pe_int (nomark _)) (pss_one (ps_set (i := 4) sc_table.nd rfl (by first | exact .inl rfl | exact .inr rfl) (pe_ix ix_list (pv 5) (pe_call (ok_draw T) (hr.mono (by decide)) (by rfl) T.g_draw T.F_draw.kp T.b_draw .nil pass0 (pa_cons (pv 0) (pa_cons pe_int pa_nil))) (fun _ _ => rfl)))) pss_nil) (pss_one (ps_ret (pe_slice sl_str (pv 4) po_none (po_some (pe_ix ix_list (pe_lst (pa_cons pe_int (pa_cons pe_int (pa_cons pe_int (pa_cons pe_int pa_nil))))) (pv 1) (fun _ _ => rfl))))))))))), ?_⟩
    refine ⟨.ref d, rfl, d, l, 4, rfl, D, by decide, by decide, fun H1 way D1 f1 w0 w1 => ?_⟩
    refine ⟨.ref d, rfl, d, l, 256, rfl, D1, by decide, by decide, fun H2 num D2 f2 n0 n1 => ?_⟩
    refine ⟨⟨_, rfl⟩, 8, rfl, by decide, by decide, fun L nL => ?_⟩
    have oL := D2.out (Same.refl H2) nL
    refine lc_range (n := 8) (fun j H' => Deck H' d l ∧ ∃ bs : List Bool, H' L = some (.lst ((bs.map sgn).map V.str)) ∧ bs.length = j) ⟨D2.new nL, [], upd_same, rfl⟩ ?_ ?_
    · rintro j H3 hj ⟨D3, bs, h3, lb⟩
      refine ⟨rfl, ?_⟩
      refine ⟨.int num, rfl, by show 8 ≤ sizeLine; decide, fun t nt => ?_⟩
      have st := same_upd (o := .lst [.int 1, .int 2, .int 4, .int 8, .int 16, .int 32, .int 64, .int 128]) nt
      obtain ⟨m, hm, m0, m1⟩ : ∃ m : Int, atI ([.int 1, .int 2, .int 4, .int 8, .int 16, .int 32, .int 64, .int 128] : List V) (0 + (j : Int)) = some (.int m) ∧ 0 < m ∧ m < 1073741824 := by
        rw [Int.zero_add]
        rcases j with _ | _ | _ | _ | _ | _ | _ | _ | j
        · exact ⟨1, rfl, by decide, by decide⟩
        · exact ⟨2, rfl, by decide, by decide⟩
        · exact ⟨4, rfl, by decide, by decide⟩
        · exact ⟨8, rfl, by decide, by decide⟩
        · exact ⟨16, rfl, by decide, by decide⟩
        · exact ⟨32, rfl, by decide, by decide⟩
        · exact ⟨64, rfl, by decide, by decide⟩
        · exact ⟨128, rfl, by decide, by decide⟩
        · omega
      obtain ⟨b, lg, es⟩ := str01 (i := num / m % 2) (by omega)
      refine ⟨.int (0 + (j : Int)), rfl, t, _, _, .int m, rfl, rfl, SqL.of upd_same, hm, num, m, rfl, rfl, ⟨m0, m1⟩, _, _, rfl, rfl, (show (0 : Int) < 2 by decide), _, rfl, lg, ?_⟩
      refine ⟨_, st _ _ h3, ?_, ?_, bs ++ [b], ?_, by rw [List.length_append, lb]; rfl⟩
      · rw [List.length_map, List.length_map]
        exact Nat.lt_of_lt_of_le (show bs.length < 64 by omega) (by decide)
      · obtain ⟨ne, cs, z, q1, q2, r⟩ := D3.new (o := .lst [.int 1, .int 2, .int 4, .int 8, .int 16, .int 32, .int 64, .int 128]) nt
        exact ⟨ne, cs, z, by rw [upd_ne (fun k => oL (by rw [← k]; simp))]; exact q1, by rw [upd_ne (fun k => oL (by rw [← k]; simp))]; exact q2, r⟩
      · rw [upd_same, List.map_append, List.map_append]
        have : Str.ofString (toString (num / m % 2)) = sgn b := by
          rw [es]
          cases b <;> rfl
        show _ = some (HO.lst (_ ++ [V.str (sgn b)]))
        rw [← this]
    rintro H3 ⟨D3, bs, h3, lb⟩
    refine ⟨"", L, bs.map sgn, rfl, rfl, .inl (SqL.of h3), size_all lb, ?_⟩
    rw [join_all lb]
    -- the known ones
    refine ⟨by show 8 ≤ sizeLine; decide, fun kn nkn => ?_⟩
    have D4 := D3.new (o := .lst [.str "01010101", .str "00010001", .str "01110111", .str "01100110", .str "00000001", .str "01111111", .str "01101001", .str "00010111"]) nkn
    have okn := D3.out (Same.refl H3) nkn
    refine ⟨fun σ' H' => ∃ bs : List Bool, bs.length = 8 ∧ σ' = [some (.ref d), some (.int n), some (.int way), some (.int num), some (.str (tabOf bs)), some (.ref kn), none] ∧ Deck H' d l, ?_, ?_⟩
    · refine ⟨.int way, rfl, rfl, _, rfl, ite2 (fun _ => ?_) (fun _ => ?_)⟩
      · refine ⟨.ref kn, rfl, .ref d, rfl, d, l, 8, rfl, D4, by decide, by decide, fun H5 v D5 f5 v0 v1 => ?_⟩
        have hkn := f5 kn _ (fun k => okn (by rw [k]; simp)) (fun k => okn (by rw [k]; simp)) upd_same
        obtain ⟨k, hk, rfl⟩ : ∃ k : Nat, k < 8 ∧ v = (k : Int) := ⟨v.toNat, by omega, by omega⟩
        obtain ⟨bs', hb', hs'⟩ : ∃ bs' : List Bool, bs'.length = 8 ∧ ([.str "01010101", .str "00010001", .str "01110111", .str "01100110", .str "00000001", .str "01111111", .str "01101001", .str "00010111"] : List V)[k]? = some (.str (tabOf bs')) := by
          rcases k with _ | _ | _ | _ | _ | _ | _ | _ | k
          · exact ⟨[false, true, false, true, false, true, false, true], rfl, by decide +kernel⟩
          · exact ⟨[false, false, false, true, false, false, false, true], rfl, by decide +kernel⟩
          · exact ⟨[false, true, true, true, false, true, true, true], rfl, by decide +kernel⟩
          · exact ⟨[false, true, true, false, false, true, true, false], rfl, by decide +kernel⟩
          · exact ⟨[false, false, false, false, false, false, false, true], rfl, by decide +kernel⟩
          · exact ⟨[false, true, true, true, true, true, true, true], rfl, by decide +kernel⟩
          · exact ⟨[false, true, true, false, true, false, false, true], rfl, by decide +kernel⟩
          · exact ⟨[false, false, false, true, false, true, true, true], rfl, by decide +kernel⟩
          · omega
        exact ⟨kn, _, _, _, rfl, rfl, SqL.of hkn, atI_nat hs', bs', hb', rfl, D5⟩
      · exact ⟨bs, lb, rfl, D4⟩
    clear h3 D3 D4 nkn okn lb bs
    rintro σ' H5 ⟨bs, lb, rfl, D5⟩
    obtain ⟨m, hm, bs', hc, lb'⟩ := cut_all lb hn
    refine ⟨.str (tabOf bs), rfl, sl4, fun t nt => ⟨.int n, rfl, t, _, _, .int m, rfl, rfl, SqL.of upd_same, atI_nat hm, m, rfl, _, rfl, ?_, ?_⟩⟩
    · rw [tab_len, lb]
      decide
    rw [hc]
    exact q _ bs' (D5.new nt) lb'
end
end Gk

set_option Elab.async false
set_option linter.all false
set_option maxRecDepth 100000
namespace Gk
open PySem PySem.Spec PyProof.Rows L2
def lD (v : List Int) : PyData := .list (v.map PyData.int)
section
variable {P : Program} {w : World} {K : PySem.W.Frag} {mg : Str → Option Value} {base : Heap}
def sp_waves (K : PySem.W.Frag) : Sp := fun vs H Q _ => ∃ (wd : Addr) (x : Wd), vs = [.ref wd] ∧ H wd = some (.tup [.int x.1, .int x.2.1, .bl x.2.2]) ∧ ∀ r H', Same H H' → Tk H' (.ref r) (.list ((wavesM x).map lD)) → Q (.ref r) H'
theorem ok_waves (T : Tx K mg) : FnOk P w K mg base CX0 1 T.f_waves T.fd_waves ["_law_word_here"] (sp_waves K) := by
  refine T.F_waves.ok sc_waves (fun vs H Q E h => ?_) (fun cdv A outer s H vs Q E hr h => ?_)
  · obtain ⟨wd, x, rfl, _⟩ := h
    rfl
  · obtain ⟨wd, ⟨f, l, c⟩, rfl, hw, q⟩ := h
    refine ⟨_, (pss_cons (ps_asg (pv 0) (pg_tup rfl (pgs_cons (pg_name (i := 1) sc_waves.nd rfl (by first | exact .inl rfl | exact .inr rfl)) (pgs_cons (pg_name (i := 2) sc_waves.nd rfl (by first | exact .inl rfl | exact .inr rfl)) (pgs_cons (pg_name (i := 3) sc_waves.nd rfl (by first | exact .inl rfl | exact .inr rfl)) pgs_nil))))) (pss_cons (ps_set (i := 4) sc_waves.nd rfl (by first | exact .inl rfl | exact .inr rfl) (pe_lst pa_nil)) (pss_cons (ps_for PassesOwn.never rfl (pi_range1 (by rfl) T.m_range (pa_cons pe_int pa_nil)) (pg_name (i := 5) sc_waves.nd rfl (by first | exact .inl rfl | exact .inr rfl)) (pss_cons (ps_set (i := 6) sc_waves.nd rfl (by first | exact .inl rfl | exact .inr rfl) (pe_lst (pa_cons (pv 1) pa_nil))) (pss_cons (ps_for PassesOwn.never rfl (pi_range1 (by rfl) T.m_range (pa_cons pe_int pa_nil)) (pg_name (i := 7) sc_waves.nd rfl (by first | exact .inl rfl | exact .inr rfl)) (pss_one (ps_expr (pe_bm PySem.F.plainAttrs_list PySem.F.slot_list_append PySem.F.type_list_append mt_append (pv 6) (pa_cons (pe_op op_mod (pe_op op_add (pe_ix ix_list (pv 6) (pe_un un_neg pe_int) (fun _ _ => rfl)) (pe_op op_fdiv (pv 5) (pe_ix ix_list (pe_lst (pa_cons pe_int (pa_cons pe_int (pa_cons pe_int pa_nil)))) (pv 7) (fun _ _ => rfl)))) pe_int) pa_nil))))) (pss_cons (ps_set (i := 8) sc_waves.nd rfl (by first | exact .inl rfl | exact .inr rfl) (pe_op op_add (pe_op op_add (pe_op op_mod (pv 5) pe_int) (pe_op op_mod (pe_op op_fdiv (pv 5) pe_int) pe_int)) (pe_op op_fdiv (pv 5) pe_int))) (pss_one (ps_if (pt_cut (pw_and (pt_cmpR op_eq (pe_ix ix_list (pv 6) (pe_un un_neg pe_int) (fun _ _ => rfl)) (pv 2) (nomark _)) (pw_and1 (pw_or (pt_val (pv 3)) (pw_or1 (pt_cmpR op_eq (pv 8) (pe_callTy call_int1 (by rfl) T.m_int (by decide +kernel) (pa_cons (pe_cmpR op_ne (pv 1) (pv 2) (nomark _)) pa_nil)) (nomark _)))).pt)).pt) (pss_one (ps_expr (pe_bm PySem.F.plainAttrs_list PySem.F.slot_list_append PySem.F.type_list_append mt_append (pv 4) (pa_cons (pv 6) pa_nil)))) pss_nil)))))) (pss_one (ps_ret (pv 4)))))), ?_⟩
    refine ⟨.ref wd, rfl, wd, _, rfl, SqT.of hw, rfl, _, _, rfl, _, _, rfl, _, _, rfl, rfl, ?_⟩
    refine ⟨Nat.zero_le _, fun fa nfa => ?_⟩
    refine ⟨8, rfl, by decide, by decide, for_range (n := 8) (fun i σ H' => ∃ y5 y6 y7 y8, σ = [some (.ref wd), some (.int f), some (.int l), some (.bl c), some (.ref fa), y5, y6, y7, y8] ∧ Same H (hd1 fa H') ∧ ∃ acc, H' fa = some (.lst acc) ∧ TkAll (hd1 fa H') acc ((wavesTo (f, l, c) i).map lD)) ⟨none, none, none, none, rfl, hd1_of (same_upd nfa) nfa, [], upd_same, .nil⟩ ?_ ?_⟩
    · rintro i σ H1 hi ⟨y5, y6, y7, y8, rfl, s1, acc, h1, t1⟩
      refine ⟨.int f, rfl, sl1, fun wa nwa => ?_⟩
      have nwf : wa ≠ fa := (ne_of_none h1 nwa).symm
      have sw := same_upd (o := .lst [.int f]) nwa
      refine ⟨3, rfl, by decide, by decide, for_range (n := 3) (fun k σ H' => ∃ y7 y8, σ = [some (.ref wd), some (.int f), some (.int l), some (.bl c), some (.ref fa), some (.int (0 + (i : Int))), some (.ref wa), y7, y8] ∧ Same H1 (hd1 wa H') ∧ H' wa = some (.lst ((wl f (0 + (i : Int)) k).map V.int))) ⟨y7, y8, rfl, hd1_of sw nwa, upd_same⟩ ?_ ?_⟩
      · rintro k σ H2 hk ⟨y7, y8, rfl, s2, h2⟩
        refine ⟨.ref wa, rfl, .inl ⟨rfl, _, SqL.of h2⟩, .ref wa, rfl, 1, rfl, wa, _, _, _, rfl, rfl, SqL.of h2, wl_last f _ k, .int (0 + (i : Int)), rfl, sl3, fun t nt => ?_⟩
        have st := same_upd (o := .lst [.int 1, .int 2, .int 4]) nt
        obtain ⟨v, ev, v0, v1⟩ : ∃ v : Int, ([1, 2, 4] : List Int)[k]? = some v ∧ 0 < v ∧ v < 1073741824 := by
          rcases k with _ | _ | _ | k
          · exact ⟨1, rfl, by decide, by decide⟩
          · exact ⟨2, rfl, by decide, by decide⟩
          · exact ⟨4, rfl, by decide, by decide⟩
          · omega
        have ea : atI ([.int 1, .int 2, .int 4] : List V) (0 + (k : Int)) = some (.int v) := by
          rw [Int.zero_add]
          refine atI_nat ?_
          have : ([.int 1, .int 2, .int 4] : List V) = ([1, 2, 4] : List Int).map V.int := rfl
          rw [this, List.getElem?_map, ev]
          rfl
        refine ⟨.int (0 + (k : Int)), rfl, t, _, _, .int v, rfl, rfl, SqL.of upd_same, ea, _, v, rfl, rfl, ⟨v0, v1⟩, _, _, rfl, rfl, _, _, rfl, rfl, (show (0 : Int) < 2 by decide), wa, _, _, rfl, rfl, st _ _ h2, ?_, ?_⟩
        · rw [List.length_map, wl_len]
          exact Nat.lt_of_lt_of_le (show k + 1 < 64 by omega) (by decide)
        · refine ⟨_, _, rfl, (s2.trans (hd1_same st)).trans hd1_upd, ?_⟩
          rw [upd_same, wl_succ, List.map_append]
          have : ([1, 2, 4] : List Int).getD k 0 = v := by rw [List.getD_eq_getElem?_getD, ev]; rfl
          show _ = some (HO.lst (_ ++ [V.int ((wv f (0 + (i : Int)) k + (0 + (i : Int)) / ([1, 2, 4] : List Int).getD k 0) % 2)]))
          rw [this]
      rintro σ H2 ⟨y7, y8, rfl, s2, h2⟩
      have s12 : Same H1 H2 := fun b o e => hd1_le _ _ (s2 _ _ e)
      have h1' := s12 _ _ h1
      refine ⟨.int (0 + (i : Int)), rfl, _, _, rfl, rfl, (show (0 : Int) < 2 by decide), .int (0 + (i : Int)), rfl, _, _, rfl, rfl, ⟨by decide, by decide⟩, _, _, rfl, rfl, (show (0 : Int) < 2 by decide), _, _, rfl, rfl, .int (0 + (i : Int)), rfl, _, _, rfl, rfl, ⟨by decide, by decide⟩, _, _, rfl, rfl, ?_⟩
      refine ⟨fun b H' => b = condW (f, l, c) (0 + (i : Int)) ∧ H' = H2, ?_, ?_⟩
      · refine ⟨.ref wa, rfl, 1, rfl, wa, _, _, _, rfl, rfl, SqL.of h2, wl_last _ _ _, .int l, rfl, rfl, _, rfl, ite2 (fun e => ?_) (fun e => ?_)⟩
        · rw [evI] at e
          refine ⟨.bl c, rfl, c, rfl, ite2 (fun e' => ?_) (fun e' => ?_)⟩
          · refine ⟨?_, rfl⟩
            show true = (decide (wv f (0 + (i : Int)) 3 = l) && (c || _))
            rw [e, e']
            rfl
          · refine ⟨.int (manyW (0 + (i : Int))), rfl, .int f, rfl, .int l, rfl, rfl, .inr ⟨_, rfl, rfl, _, rfl, ?_, rfl⟩⟩
            show _ = (decide (wv f (0 + (i : Int)) 3 = l) && (c || _))
            rw [e, Bool.eq_false_iff.mpr e', Bool.true_and, Bool.false_or]
            exact evI _ _
        · rw [evI] at e
          refine ⟨?_, rfl⟩
          show false = (decide (wv f (0 + (i : Int)) 3 = l) && (c || _))
          rw [Bool.eq_false_iff.mpr e]
          rfl
      · rintro b H' ⟨rfl, rfl⟩
        have sfa : Same (hd1 fa H1) (hd1 fa H') := hd1_same s12
        refine ite2 (fun e => ?_) (fun e => ?_)
        · refine ⟨.ref fa, rfl, .inl ⟨rfl, _, SqL.of h1'⟩, .ref wa, rfl, fa, acc, .ref wa, rfl, rfl, h1', ?_, ?_⟩
          · have h9 := t1.length
            rw [List.length_map] at h9
            have := waves_len (f, l, c) i
            exact Nat.lt_of_lt_of_le (show acc.length < 64 by omega) (by decide)
          · refine ⟨_, _, _, _, rfl, (s1.trans sfa).trans hd1_upd, acc ++ [.ref wa], upd_same, ?_⟩
            unfold wavesTo
            rw [if_pos e, List.map_append]
            refine ((t1.same sfa).same hd1_upd).append (.cons (.lst (xs := (wl f (0 + (i : Int)) 3).map V.int) ?_ (TkAll.ints _)) .nil)
            rw [hd1_at nwf, upd_ne nwf]
            exact h2
        · refine ⟨_, _, _, _, rfl, s1.trans sfa, acc, h1', ?_⟩
          unfold wavesTo
          rw [if_neg e]
          exact t1.same sfa
    · rintro σ H1 ⟨y5, y6, y7, y8, rfl, s1, acc, h1, t1⟩
      exact ⟨.ref fa, rfl, q fa H1 (fun b o e => hd1_le _ _ (s1 _ _ e)) (.lst h1 (t1.same hd1_le))⟩
end
end Gk

set_option Elab.async false
set_option linter.all false
set_option maxRecDepth 100000
namespace Gk
open PySem PySem.Spec PyProof.Rows L2
def rowD (r : List (List Int)) : PyData := .list (r.map lD)
theorem map_at {α : Type} {β : Type} {f : α → β} {xs : List α} {j : Nat} {y : β} (h : (xs.map f)[j]? = some y) : ∃ x, xs[j]? = some x ∧ y = f x := by
  rw [List.getElem?_map] at h
  cases hz : xs[j]? with
  | none => rw [hz] at h; cases h
  | some x => rw [hz] at h; exact ⟨x, rfl, (Option.some.inj h).symm⟩
theorem row_at {H : Hp} {v : V} {r : List (List Int)} (h : Tk H v (rowD r)) : ∃ a zs, v = .ref a ∧ H a = some (.lst zs) ∧ TkAll H zs (r.map lD) := h.lst_inv
theorem wave_at {H : Hp} {v : V} {u : List Int} (h : Tk H v (lD u)) : ∃ a, v = .ref a ∧ H a = some (.lst (u.map V.int)) := by
  obtain ⟨a, zs, rfl, ha, t⟩ := h.lst_inv
  rw [t.int_inv] at ha
  exact ⟨a, rfl, ha⟩
section
variable {P : Program} {w : World} {K : PySem.W.Frag} {mg : Str → Option Value} {base : Heap}
def sp_l_goes_fro (K : PySem.W.Frag) : Sp := fun vs H Q _ => ∃ (bs : List Bool) (wa : Addr) (ws : List Wd), vs = [.str (tabOf bs), .ref wa] ∧ Tk H (.ref wa) (.tuple (ws.map wD)) ∧ (∀ x ∈ ws, Wok x) ∧ bs.length = 2 ^ ws.length ∧ ws.length ≤ 3 ∧ ∀ H', Same H H' → Q (.bl (froL bs ws)) H'
theorem ok_l_goes_fro (T : Tx K mg) : FnOk P w K mg base CX0 2 T.f_l_goes_fro T.fd_l_goes_fro ["_law_table_here", "_law_words"] (sp_l_goes_fro K) := by
  refine T.F_l_goes_fro.ok sc_l_goes_fro (fun vs H Q E h => ?_) (fun cdv A outer s H vs Q E hr h => ?_)
  · obtain ⟨bs, wa, ws, rfl, _⟩ := h
    rfl
  · obtain ⟨bs, wa, ws, rfl, tw, ok, hb, h3, q⟩ := h
    obtain ⟨wa', xs, e, hwa, tws⟩ := tw.tup_inv
    cases e
    have lx : xs.length = ws.length := by rw [tws.length, List.length_map]
    have big : ∀ i, (chs ((ws.take i).map wavesM)).length ≤ 512 := fun i => by
      have h1 := chs_len 8 (by decide) _ ((ws.take i).map wavesM) rfl fun l hl => by
        obtain ⟨x, _, rfl⟩ := List.mem_map.mp hl
        exact waves_len x 8
      rw [List.length_map, List.length_take] at h1
      have h2 : 8 ^ min i ws.length ≤ 8 ^ 3 := Nat.pow_le_pow_right (by decide) (by omega)
      omega
    refine ⟨_, (pss_cons (ps_set (i := 2) sc_l_goes_fro.nd rfl (by first | exact .inl rfl | exact .inr rfl) (pe_lst (pa_cons (pe_lst pa_nil) pa_nil))) (pss_cons (ps_for PassesOwn.never rfl (pi_tup (pv 1)) (pg_name (i := 3) sc_l_goes_fro.nd rfl (by first | exact .inl rfl | exact .inr rfl)) (pss_cons (ps_set (i := 4) sc_l_goes_fro.nd rfl (by first | exact .inl rfl | exact .inr rfl) (pe_call (ok_waves T) (hr.mono (by decide)) (by rfl) T.g_waves T.F_waves.kp T.b_waves .nil pass0 (pa_cons (pv 3) pa_nil))) (pss_cons (ps_set (i := 5) sc_l_goes_fro.nd rfl (by first | exact .inl rfl | exact .inr rfl) (pe_lst pa_nil)) (pss_cons (ps_for PassesOwn.never rfl (pi_list (pv 2)) (pg_name (i := 6) sc_l_goes_fro.nd rfl (by first | exact .inl rfl | exact .inr rfl)) (pss_one (ps_expr (pe_bm PySem.F.plainAttrs_list PySem.F.slot_list_extend PySem.F.type_list_extend mt_extend (pv 5) (pa_cons (pe_lc (own := [("_law_wave", 10)]) (by rfl) sc_l_goes_fro.nd (pi_list (pv 4)) (blkOk_by (own := [("_law_wave", 10)]) (N := ["_law_table_here", "_law_words", "_law_rows", "_law_word_here", "_law_waves_here", "_law_longer", "_law_row", "_law_worths", "_law_many", "_law_k", "_law_wave"]) (sc := defScope s_l_goes_fro) (by decide +kernel)) (fun _ _ _ _ _ => (pg_name (i := 10) sc_l_goes_fro.nd rfl (by first | exact .inl rfl | exact .inr rfl))) (fun _ _ _ _ _ => pts_nil) (fun _ _ _ _ _ => (pe_op op_cat (pv 6) (pe_lst (pa_cons (pv 10) pa_nil))))) pa_nil))))) (pss_one (ps_set (i := 2) sc_l_goes_fro.nd rfl (by first | exact .inl rfl | exact .inr rfl) (pv 5))))))) (pss_cons (ps_for PassesOwn.never rfl (pi_list (pv 2)) (pg_name (i := 6) sc_l_goes_fro.nd rfl (by first | exact .inl rfl | exact .inr rfl)) (pss_cons (ps_set (i := 7) sc_l_goes_fro.nd rfl (by first | exact .inl rfl | exact .inr rfl) (pe_lc (own := [("_law_k", 9)]) (by rfl) sc_l_goes_fro.nd (pi_range1 (by rfl) T.m_range (pa_cons pe_int pa_nil)) (blkOk_by (own := [("_law_k", 9)]) (N := ["_law_table_here", "_law_words", "_law_rows", "_law_word_here", "_law_waves_here", "_law_longer", "_law_row", "_law_worths", "_law_many", "_law_k", "_law_wave"]) (sc := defScope s_l_goes_fro) (by decide +kernel)) (fun _ _ _ _ _ => (pg_name (i := 9) sc_l_goes_fro.nd rfl (by first | exact .inl rfl | exact .inr rfl))) (fun _ _ _ _ _ => pts_nil) (fun _ _ _ _ _ => (pe_call (ok_gate T) (hr.mono (by decide)) (by rfl) T.g_gate T.F_gate.kp T.b_gate .nil pass0 (pa_cons (pv 0) (pa_cons (pe_lc (own := [("_law_wave", 10)]) (by rfl) sc_l_goes_fro.nd (show PI _ _ _ (iList K _) from pi_list (pv 6)) (blkOk_by (own := [("_law_wave", 10)]) (N := ["_law_table_here", "_law_words", "_law_rows", "_law_word_here", "_law_waves_here", "_law_longer", "_law_row", "_law_worths", "_law_many", "_law_k", "_law_wave"]) (sc := { kind := PySem.ScopeKind.function, names := [ (PySem.Str.ofString ".0", PySem.NameKind.local), (PySem.Str.ofString "_law_k", PySem.NameKind.cell), (PySem.Str.ofString "_law_gate", PySem.NameKind.globalImplicit), (PySem.Str.ofString "_law_row", PySem.NameKind.cell), (PySem.Str.ofString "_law_table_here", PySem.NameKind.cell)], isGenerator := false, isCoroutine := false, more := [] : PySem.Scope }) (by decide +kernel)) (fun _ _ _ _ _ => (pg_name (i := 10) sc_l_goes_fro.nd rfl (by first | exact .inl rfl | exact .inr rfl))) (fun _ _ _ _ _ => pts_nil) (fun _ _ _ _ _ => (pe_ix (show IxR _ (rIxL K) from ix_list) (pv 10) (pv 9) (fun _ _ => rfl)))) pa_nil)))))) (pss_cons (ps_set (i := 8) sc_l_goes_fro.nd rfl (by first | exact .inl rfl | exact .inr rfl) (pe_callB (cr_sum rfl) (by rfl) T.m_sum (by decide +kernel) (pa_cons (pe_lc (own := [("_law_k", 9)]) (by rfl) sc_l_goes_fro.nd (pi_range1 (by rfl) T.m_range (pa_cons pe_int pa_nil)) (blkOk_by (own := [("_law_k", 9)]) (N := ["_law_table_here", "_law_words", "_law_rows", "_law_word_here", "_law_waves_here", "_law_longer", "_law_row", "_law_worths", "_law_many", "_law_k", "_law_wave"]) (sc := defScope s_l_goes_fro) (by decide +kernel)) (fun _ _ _ _ _ => (pg_name (i := 9) sc_l_goes_fro.nd rfl (by first | exact .inl rfl | exact .inr rfl))) (fun _ _ _ _ _ => pts_nil) (fun _ _ _ _ _ => (pe_callTy call_int1 (by rfl) T.m_int (by decide +kernel) (pa_cons (pe_cmpR op_ne (pe_ix (show IxR _ (rIxL K) from ix_list) (pv 7) (pv 9) (fun _ _ => rfl)) (pe_ix (show IxR _ (rIxL K) from ix_list) (pv 7) (pe_op op_add (pv 9) pe_int) (fun _ _ => rfl)) (nomark _)) pa_nil)))) pa_nil))) (pss_one (ps_if (pt_cmpR op_gt (pv 8) (pe_callTy call_int1 (by rfl) T.m_int (by decide +kernel) (pa_cons (pe_cmpR op_ne (pe_ix ix_list (pv 7) pe_int (fun _ _ => rfl)) (pe_ix ix_list (pv 7) pe_int (fun _ _ => rfl)) (nomark _)) pa_nil)) (nomark _)) (pss_one (ps_ret pe_bl)) pss_nil))))) (pss_one (ps_ret pe_bl))))), ?_⟩
    refine ⟨Nat.zero_le _, fun t0 n0 => ⟨sl1, fun r0 nr0 => ?_⟩⟩
    refine ⟨.ref wa, rfl, wa, rfl, ⟨_, SqT.of (same_upd nr0 _ _ (same_upd n0 _ _ hwa))⟩, for_tup (K := K) (a := wa) (xs := xs) (fun i σ H' => ∃ ra y3 y4 y5 y6, σ = [some (.str (tabOf bs)), some (.ref wa), some (.ref ra), y3, y4, y5, y6, none, none, none, none] ∧ Same H H' ∧ Tk H' (.ref ra) (.list ((chs ((ws.take i).map wavesM)).map rowD)))
      ⟨r0, none, none, none, none, rfl, (same_upd n0).trans (same_upd nr0), .lst upd_same (.cons (.lst (same_upd nr0 _ _ upd_same) .nil) .nil)⟩ (fun i σ H' _ ⟨_, _, _, _, _, _, z, _⟩ => SqT.of (z _ _ hwa)) ?_ ?_⟩
    · rintro i v σ H1 hv ⟨ra, y3, y4, y5, y6, rfl, s1, tr⟩
      obtain ⟨x, a, hx, rfl, ha⟩ := words_at tws hv
      refine ⟨.ref a, rfl, a, x, rfl, s1 _ _ ha, fun wv_ H2 s2 tv => ?_⟩
      obtain ⟨wv', vs, e, hwv, tvs⟩ := tv.lst_inv
      cases e
      obtain ⟨ra', rs, e, hra, trs⟩ := (tr.same s2).lst_inv
      cases e
      have lrs : rs.length = (chs ((ws.take i).map wavesM)).length := by rw [trs.length, List.length_map]
      have lvs : vs.length = (wavesM x).length := by rw [tvs.length, List.length_map]
      have w8 : (wavesM x).length ≤ 8 := waves_len x 8
      refine ⟨Nat.zero_le _, fun lo nlo => ?_⟩
      have slo := same_upd (o := .lst []) nlo
      refine ⟨.ref ra, rfl, ra, rfl, ⟨_, SqL.of (slo _ _ hra)⟩, for_list (K := K) (a := ra) (xs := rs) (fun k σ H' => ∃ y6, σ = [some (.str (tabOf bs)), some (.ref wa), some (.ref ra), some (.ref a), some (.ref wv_), some (.ref lo), y6, none, none, none, none] ∧ Same H2 (hd1 lo H') ∧ ∃ acc, H' lo = some (.lst acc) ∧ TkAll (hd1 lo H') acc ((stepC ((chs ((ws.take i).map wavesM)).take k) (wavesM x)).map rowD)) ⟨_, rfl, hd1_of slo nlo, [], upd_same, .nil⟩ (fun k σ H' _ ⟨_, _, z, _⟩ => SqL.of (hd1_le _ _ (z _ _ hra))) ?_ ?_⟩
      · rintro k u σ H3 hu ⟨y6, rfl, s3, acc, hlo, ta⟩
        obtain ⟨du, hdu, tu⟩ := trs.get hu
        obtain ⟨r, hr', rfl⟩ := map_at hdu
        obtain ⟨rw_, zs, rfl, hrw, tzs⟩ := row_at tu
        have lr : r.length ≤ 3 := by
          have := chs_width _ r (List.mem_of_getElem? hr')
          rw [this, List.length_map, List.length_take]
          omega
        refine ⟨.ref lo, rfl, .inl ⟨rfl, _, SqL.of hlo⟩, ?_⟩
        refine ⟨.ref wv_, rfl, wv_, rfl, ⟨_, SqL.of (hd1_le _ _ (s3 _ _ hwv))⟩, fun D nD => ?_⟩
        have nDlo : D ≠ lo := (ne_of_none hlo nD).symm
        refine lc_list (K := K) (a := wv_) (xs := vs) (fun j H' => Same H3 (hd1 D H') ∧ ∃ acc', H' D = some (.lst acc') ∧ TkAll (hd1 lo (hd1 D H')) acc' (((wavesM x).take j).map fun o => rowD (r ++ [o]))) ⟨hd1_of (same_upd nD) nD, [], upd_same, .nil⟩ (fun j H' _ hP => SqL.of (hd1_le _ _ (hP.1 _ _ (hd1_le _ _ (s3 _ _ hwv))))) ?_ ?_
        · rintro j y H4 hy ⟨s4, acc', hD, ta'⟩
          obtain ⟨dy, hdy, ty⟩ := tvs.get hy
          obtain ⟨o, ho, rfl⟩ := map_at hdy
          have s34 : Same H3 H4 := fun b o e => hd1_le _ _ (s4 _ _ e)
          have hlo4 := s34 _ _ hlo
          refine ⟨rfl, ?_⟩
          refine ⟨.ref rw_, rfl, y, rfl, sl1, fun t nt => ?_⟩
          have st := same_upd (o := .lst [y]) nt
          refine ⟨rw_, t, zs, [y], rfl, rfl, st _ _ (s34 _ _ (hd1_le _ _ (s3 _ _ hrw))), upd_same, ?_, fun p np => ?_⟩
          · have := tzs.length
            rw [List.length_map] at this
            exact Nat.le_trans (show zs.length + 1 ≤ 64 by omega) (by decide)
          have sp := same_upd (o := .lst (zs ++ [y])) np
          have stp := st.trans sp
          have npD : p ≠ D := (ne_of_none (st _ _ hD) np).symm
          have nplo : p ≠ lo := (ne_of_none (st _ _ hlo4) np).symm
          have s2d : Same H2 (hd1 lo (hd1 D (upd (upd H4 t (.lst [y])) p (.lst (zs ++ [y]))))) := fun b o e => by
            have e3 := s3 _ _ e
            have nb : b ≠ lo := fun z => by
              unfold hd1 at e3
              rw [if_pos z] at e3
              cases e3
            rw [hd1_at nb]
            exact hd1_same stp _ _ (s4 _ _ (hd1_le _ _ e3))
          refine ⟨acc', stp _ _ hD, ?_, (s4.trans (hd1_same stp)).trans hd1_upd, acc' ++ [.ref p], upd_same, ?_⟩
          · have h9 := ta'.length
            rw [List.length_map, List.length_take] at h9
            exact Nat.lt_of_lt_of_le (show acc'.length < 64 by omega) (by decide)
          · rw [List.take_add_one, ho]
            show TkAll _ _ ((((wavesM x).take j) ++ [o]).map _)
            rw [List.map_append]
            have su : Same (hd1 lo (hd1 D (upd (upd H4 t (.lst [y])) p (.lst (zs ++ [y]))))) (hd1 lo (hd1 D (upd (upd (upd H4 t (.lst [y])) p (.lst (zs ++ [y]))) D (.lst (acc' ++ [.ref p]))))) := hd1_same hd1_upd
            refine ((ta'.same (hd1_same (hd1_same stp))).same su).append (.cons (.lst (xs := zs ++ [y]) ?_ ?_) .nil)
            · rw [hd1_at nplo, hd1_at npD, upd_ne npD]
              exact upd_same
            · rw [List.map_append]
              exact ((tzs.same s2d).same su).append (.cons ((ty.same s2d).same su) .nil)
        rintro H4 ⟨s4, acc', hD, ta'⟩
        have s34 : Same H3 H4 := fun b o e => hd1_le _ _ (s4 _ _ e)
        rw [lvs, List.take_length] at ta'
        have hlo4 := s34 _ _ hlo
        have htk : (chs ((ws.take i).map wavesM)).take (k + 1) = (chs ((ws.take i).map wavesM)).take k ++ [r] := by
          rw [List.take_add_one, hr']
          rfl
        refine ⟨lo, D, acc, acc', rfl, rfl, hlo4, hD, ?_, ?_⟩
        · have h8 := ta.length
          have h9 := ta'.length
          rw [List.length_map, stepC_len, List.length_take] at h8
          rw [List.length_map] at h9
          have h7 : min k (chs ((ws.take i).map wavesM)).length * (wavesM x).length ≤ 512 * 8 := Nat.mul_le_mul (by have := big i; omega) w8
          exact Nat.le_trans (show acc.length + acc'.length ≤ 5000 by omega) (by decide)
        · have sl4' : Same (hd1 lo H3) (hd1 lo H4) := hd1_same s34
          refine ⟨_, rfl, (s3.trans sl4').trans hd1_upd, acc ++ acc', upd_same, ?_⟩
          rw [htk, stepC_snoc, List.map_append, List.map_map]
          refine ((ta.same sl4').same hd1_upd).append ((ta'.same (hd1_same hd1_le)).same hd1_upd)
      · rintro σ H3 ⟨y6, rfl, s3, acc, hlo, ta⟩
        refine ⟨.ref lo, rfl, lo, _, _, _, _, rfl, fun b o e => hd1_le _ _ (s3 _ _ (s2 _ _ (s1 _ _ e))), ?_⟩
        have e9 : chs ((ws.take (i + 1)).map wavesM) = stepC (chs ((ws.take i).map wavesM)) (wavesM x) := by
          rw [List.take_add_one, hx]
          show chs ((ws.take i ++ [x]).map wavesM) = _
          rw [List.map_append]
          exact chs_snoc _ _
        rw [e9]
        rw [lrs, List.take_length] at ta
        exact .lst hlo (ta.same hd1_le)
    · rintro σ H1 ⟨ra, y3, y4, y5, y6, rfl, s1, tr⟩
      rw [lx, List.take_length] at tr
      obtain ⟨ra', rs, e, hra, trs⟩ := tr.lst_inv
      cases e
      have lrs : rs.length = (chs (ws.map wavesM)).length := by rw [trs.length, List.length_map]
      refine ⟨.ref ra, rfl, ra, rfl, ⟨_, SqL.of hra⟩, for_list (K := K) (a := ra) (xs := rs) (fun i σ H' => ∃ y6 y7 y8, σ = [some (.str (tabOf bs)), some (.ref wa), some (.ref ra), y3, y4, y5, y6, y7, y8, none, none] ∧ Same H1 H' ∧ ∀ j r, j < i → (chs (ws.map wavesM))[j]? = some r → testR bs r = false) ⟨_, _, _, rfl, Same.refl _, fun j c hj => absurd hj (Nat.not_lt_zero _)⟩ (fun i σ H' _ ⟨_, _, _, _, z, _⟩ => SqL.of (z _ _ hra)) ?_ ?_⟩
      · rintro i u σ H2 hu ⟨y6', y7, y8, rfl, s2, none_⟩
        obtain ⟨du, hdu, tu⟩ := trs.get hu
        obtain ⟨r, hr', rfl⟩ := map_at hdu
        obtain ⟨rw_, zs, rfl, hrw, tzs⟩ := row_at tu
        have hrm := List.mem_of_getElem? hr'
        have lr : r.length = ws.length := by rw [chs_width _ r hrm, List.length_map]
        have lz : zs.length = r.length := by rw [tzs.length, List.length_map]
        have w01 : ∀ v ∈ r, v.length = 4 ∧ ∀ u ∈ v, u = 0 ∨ u = 1 := fun v hv => by
          obtain ⟨l, hl, hvl⟩ := chs_mem _ r hrm v hv
          obtain ⟨x, hx, rfl⟩ := List.mem_map.mp hl
          obtain ⟨a1, a2, _⟩ := waveB (ok x hx) v hvl
          exact ⟨a1, a2⟩
        -- worths
        refine ⟨4, rfl, by decide, by decide, fun W nW => ?_⟩
        refine lc_range (n := 4) (fun k H' => Same H2 (hd1 W H') ∧ H' W = some (.lst (((List.range k).map (gk bs r)).map V.int))) ⟨hd1_of (same_upd nW) nW, upd_same⟩ ?_ ?_
        · rintro k H3 hk ⟨s3, h3'⟩
          have s23 : Same H2 H3 := fun b o e => hd1_le _ _ (s3 _ _ e)
          refine ⟨rfl, ?_⟩
          refine ⟨.str (tabOf bs), rfl, .ref rw_, rfl, rw_, rfl, ⟨_, SqL.of (s23 _ _ (s2 _ _ hrw))⟩, fun D nD => ?_⟩
          refine lc_list (K := K) (a := rw_) (xs := zs) (fun j H' => Same H3 (hd1 D H') ∧ H' D = some (.lst (((r.map (at4 k)).take j).map V.int))) ⟨hd1_of (same_upd nD) nD, upd_same⟩ (fun j H' _ hP => SqL.of (hd1_le _ _ (hP.1 _ _ (s23 _ _ (s2 _ _ hrw))))) ?_ ?_
          · rintro j y H4 hy ⟨s4, h4⟩
            obtain ⟨dy, hdy, ty⟩ := tzs.get hy
            obtain ⟨v, hv, rfl⟩ := map_at hdy
            obtain ⟨b, rfl, hb'⟩ := wave_at ty
            have hvl := (w01 v (List.mem_of_getElem? hv)).1
            have ek : v[k]? = some (at4 k v) := by
              unfold at4
              rw [List.getD_eq_getElem?_getD, List.getElem?_eq_getElem (by omega)]
              rfl
            refine ⟨rfl, .ref b, rfl, .int (0 + (k : Int)), rfl, b, _, _, .int (at4 k v), rfl, rfl, SqL.of (hd1_le _ _ (s4 _ _ (s23 _ _ (s2 _ _ hb')))), ?_, _, h4, ?_, s4.trans hd1_upd, ?_⟩
            · rw [Int.zero_add]
              refine atI_nat ?_
              rw [List.getElem?_map, ek]
              rfl
            · rw [List.length_map, List.length_take, List.length_map]
              exact Nat.lt_of_lt_of_le (show min j r.length < 64 by omega) (by decide)
            · rw [upd_same, List.take_add_one, List.getElem?_map, hv, List.map_append]
              rfl
          rintro H4 ⟨s4, h4⟩
          have s34 : Same H3 H4 := fun b o e => hd1_le _ _ (s4 _ _ e)
          rw [lz, List.take_of_length_le (by rw [List.length_map]; exact Nat.le_refl _)] at h4
          refine ⟨bs, D, r.map (at4 k), rfl, SqL.of h4, fun u hu => ?_, by rw [List.length_map, lr]; exact hb, by rw [List.length_map, lr]; exact h3, _, s34 _ _ h3', ?_, ?_⟩
          · obtain ⟨v, hv, rfl⟩ := List.mem_map.mp hu
            obtain ⟨a1, a2⟩ := w01 v hv
            refine a2 _ ?_
            unfold at4
            rw [List.getD_eq_getElem?_getD, List.getElem?_eq_getElem (show k < v.length by omega)]
            exact List.getElem_mem _
          · rw [List.length_map, List.length_map, List.length_range]
            exact Nat.lt_of_lt_of_le (show k < 64 by omega) (by decide)
          · refine ⟨(s3.trans (hd1_same s34)).trans hd1_upd, ?_⟩
            rw [upd_same, List.range_succ, List.map_append, List.map_append]
            rfl
        rintro H3 ⟨s3, hW⟩
        have s23 : Same H2 H3 := fun b o e => hd1_le _ _ (s3 _ _ e)
        have atW : ∀ (H' : Hp), Same H3 H' → ∀ j : Nat, j < 4 → SqL K H' W (((List.range 4).map (gk bs r)).map V.int) ∧ atI (((List.range 4).map (gk bs r)).map V.int) (j : Int) = some (.int (gk bs r j)) := fun H' s' j hj => ⟨SqL.of (s' _ _ hW), by
          refine atI_nat ?_
          rw [List.getElem?_map, List.getElem?_map, List.getElem?_range hj]
          rfl⟩
        -- many
        refine ⟨3, rfl, by decide, by decide, fun M nM => ?_⟩
        refine lc_range (n := 3) (fun k H' => Same H3 (hd1 M H') ∧ H' M = some (.lst (((List.range k).map fun k => chgI (gk bs r k) (gk bs r (k + 1))).map V.int))) ⟨hd1_of (same_upd nM) nM, upd_same⟩ ?_ ?_
        · rintro k H4 hk ⟨s4, h4⟩
          have s34 : Same H3 H4 := fun b o e => hd1_le _ _ (s4 _ _ e)
          have a1 := atW H4 s34 k (by omega)
          have a2 := atW H4 s34 (k + 1) (by omega)
          refine ⟨rfl, .ref W, rfl, .int (0 + (k : Int)), rfl, W, _, _, .int (gk bs r k), rfl, rfl, a1.1, by rw [Int.zero_add]; exact a1.2, .ref W, rfl, .int (0 + (k : Int)), rfl, _, _, rfl, rfl, W, _, _, .int (gk bs r (k + 1)), rfl, rfl, a2.1, ?_, rfl, .inr ⟨_, rfl, _, h4, ?_, s4.trans hd1_upd, ?_⟩⟩
          · have e : (0 + (k : Int) + 1) = ((k + 1 : Nat) : Int) := by omega
            show atI _ (0 + (k : Int) + 1) = _
            rw [e]
            exact a2.2
          · rw [List.length_map, List.length_map, List.length_range]
            exact Nat.lt_of_lt_of_le (show k < 64 by omega) (by decide)
          · rw [upd_same, List.range_succ, List.map_append, List.map_append]
            rfl
        rintro H4 ⟨s4, hM⟩
        have s34 : Same H3 H4 := fun b o e => hd1_le _ _ (s4 _ _ e)
        have sAll : Same H1 H4 := (s2.trans s23).trans s34
        refine ⟨M, _, rfl, SqL.of hM, ?_⟩
        have b0 := atW H4 s34 0 (by omega)
        have b3 := atW H4 s34 3 (by omega)
        refine ⟨.int (((List.range 3).map fun k => chgI (gk bs r k) (gk bs r (k + 1))).sum), rfl, .ref W, rfl, W, _, 0, .int (gk bs r 0), rfl, rfl, b0.1, b0.2, .ref W, rfl, W, _, 3, .int (gk bs r 3), rfl, rfl, b3.1, b3.2, rfl, .inr ⟨_, rfl, _, _, rfl, rfl, _, rfl, ?_⟩⟩
        have et : decide (chgI (gk bs r 0) (gk bs r 3) < ((List.range 3).map fun k => chgI (gk bs r k) (gk bs r (k + 1))).sum) = testR bs r := rfl
        show if decide (chgI (gk bs r 0) (gk bs r 3) < ((List.range 3).map fun k => chgI (gk bs r k) (gk bs r (k + 1))).sum) = true then _ else _
        rw [et]
        refine ite2 (fun e => ?_) (fun e => ?_)
        · have e2 : froL bs ws = true := List.any_eq_true.mpr ⟨r, hrm, e⟩
          have := q H4 (s1.trans sAll)
          rw [e2] at this
          exact this
        · refine ⟨_, _, _, rfl, sAll, fun j r' hj hr2 => ?_⟩
          by_cases hji : j < i
          · exact none_ j r' hji hr2
          · have : j = i := by omega
            subst this
            cases Option.some.inj (hr'.symm.trans hr2)
            exact Bool.eq_false_iff.mpr e
      · rintro σ H2 ⟨y6', y7, y8, rfl, s2, none_⟩
        have e : froL bs ws = false := by
          unfold froL
          rw [List.any_eq_false]
          intro c hc
          obtain ⟨j, hj⟩ := List.getElem?_of_mem hc
          have hjl := (List.getElem?_eq_some_iff.mp hj).1
          rw [none_ j c (by rw [lrs]; exact hjl) hj]
          exact Bool.false_ne_true
        have := q H2 (s1.trans s2)
        rw [e] at this
        exact this
end
end Gk

set_option Elab.async false
set_option linter.all false
set_option maxRecDepth 100000
namespace Gk
open PySem PySem.Spec PyProof.Rows L2
theorem word_fine {c : Bool} {x y : Int} (hx : x = 0 ∨ x = 1) (hy : y = 0 ∨ y = 1) : fineB 4000 10 (.tuple [.int x, .int y, .bool c]) = true := by
  rcases hx with rfl | rfl <;> rcases hy with rfl | rfl <;> cases c <;> decide +kernel
section
variable {P : Program} {w : World} {K : PySem.W.Frag} {mg : Str → Option Value} {base : Heap}
def sp_right (K : PySem.W.Frag) : Sp := fun vs H Q _ => ∃ (bs : List Bool) (wa : Addr) (ws : List Wd), vs = [.str (tabOf bs), .ref wa] ∧ Tk H (.ref wa) (.tuple (ws.map wD)) ∧ (∀ x ∈ ws, Wok x) ∧ bs.length = 2 ^ ws.length ∧ ws.length ≤ 3 ∧ ∀ H', Same H H' → Q (.bl true) H'
theorem ok_right (T : Tx K mg) : FnG P w K mg base CX0 5 T.f_right T.fd_right ["_law_table_here", "_law_words"] (sp_right K) := by
  refine okG0 T.F_right sc_right (fun vs H Q E h => ?_) (fun cdv A outer s H vs Q E nothing hr h => ?_)
  · obtain ⟨bs, wa, ws, rfl, _⟩ := h
    rfl
  · obtain ⟨bs, wa, ws, rfl, tw, ok, hb, h3, q⟩ := h
    refine ⟨_, (pss_cons (ps_set (i := 2) sc_right.nd rfl (by first | exact .inl rfl | exact .inr rfl) (pe_call (ok_gate T) (hr.mono (by decide)) (by rfl) T.g_gate T.F_gate.kp T.b_gate .nil pass0 (pa_cons (pv 0) (pa_cons (pe_lc (own := [("_law_word_here", 7)]) (by rfl) sc_right.nd (pi_tup (pv 1)) (blkOk_by (own := [("_law_word_here", 7)]) (N := ["_law_table_here", "_law_words", "_law_first", "_law_last", "_law_due", "_law_turn", "_law_found", "_law_word_here"]) (sc := defScope s_right) (by decide +kernel)) (fun _ _ _ _ _ => (pg_name (i := 7) sc_right.nd rfl (by first | exact .inl rfl | exact .inr rfl))) (fun _ _ _ _ _ => pts_nil) (fun _ _ _ _ _ => (pe_ix (show IxR _ (rIxT K) from ix_tup) (pv 7) pe_int (fun _ _ => rfl)))) pa_nil)))) (pss_cons (ps_set (i := 3) sc_right.nd rfl (by first | exact .inl rfl | exact .inr rfl) (pe_call (ok_gate T) (hr.mono (by decide)) (by rfl) T.g_gate T.F_gate.kp T.b_gate .nil pass0 (pa_cons (pv 0) (pa_cons (pe_lc (own := [("_law_word_here", 7)]) (by rfl) sc_right.nd (pi_tup (pv 1)) (blkOk_by (own := [("_law_word_here", 7)]) (N := ["_law_table_here", "_law_words", "_law_first", "_law_last", "_law_due", "_law_turn", "_law_found", "_law_word_here"]) (sc := defScope s_right) (by decide +kernel)) (fun _ _ _ _ _ => (pg_name (i := 7) sc_right.nd rfl (by first | exact .inl rfl | exact .inr rfl))) (fun _ _ _ _ _ => pts_nil) (fun _ _ _ _ _ => (pe_ix (show IxR _ (rIxT K) from ix_tup) (pv 7) pe_int (fun _ _ => rfl)))) pa_nil)))) (pss_cons (ps_set (i := 4) sc_right.nd rfl (by first | exact .inl rfl | exact .inr rfl) (pe_tup (pa_cons (pv 2) (pa_cons (pv 3) (pa_cons (pe_call (ok_l_goes_fro T) (hr.mono (by decide)) (by rfl) T.g_l_goes_fro T.F_l_goes_fro.kp T.b_l_goes_fro .nil pass0 (pa_cons (pv 0) (pa_cons (pv 1) pa_nil))) pa_nil))))) (pss_cons (ps_for PassesOwn.never rfl (pi_range1 (by rfl) T.m_range (pa_cons pe_int pa_nil)) (pg_name (i := 5) sc_right.nd rfl (by first | exact .inl rfl | exact .inr rfl)) (pss_cons (ps_set (i := 6) sc_right.nd rfl (by first | exact .inl rfl | exact .inr rfl) (pe_call (ok_gate_word T) (hr.mono (by decide)) (by rfl) T.g_gate_word T.F_gate_word.kp T.b_gate_word .nil pass0 (pa_cons (pv 0) (pa_cons (pv 1) pa_nil)))) (pss_one (ps_if (pw_or (pt_not (pt_val (pe_callB call_isi (by rfl) T.m_isinstance (by decide +kernel) (pa_cons (pv 6) (pa_cons (pe_bltn (v := .ty "tuple") (u := .type "tuple") (by rfl) T.m_tuple (by decide +kernel) rfl) pa_nil))))) (pw_or1 (pt_cmpR op_ne (pe_callB (call_repr nothing hr.units) (by rfl) T.m_repr (by decide +kernel) (pa_cons (pv 6) pa_nil)) (pe_callB (call_repr nothing hr.units) (by rfl) T.m_repr (by decide +kernel) (pa_cons (pv 4) pa_nil)) (nomark _)))).pt (pss_one (ps_ret pe_bl)) pss_nil)))) (pss_one (ps_ret pe_bl)))))), ?_⟩
    obtain ⟨wa', xs, e, hwa, tws⟩ := tw.tup_inv
    cases e
    have lx : xs.length = ws.length := by rw [tws.length, List.length_map]
    refine ⟨.str (tabOf bs), rfl, .ref wa, rfl, wa, rfl, ⟨_, SqT.of hwa⟩, fun D nD => ?_⟩
    refine lc_tup (K := K) (a := wa) (xs := xs) (fun j H' => Same H (hd1 D H') ∧ H' D = some (.lst (((ws.map (·.1)).take j).map V.int))) ⟨hd1_of (same_upd nD) nD, upd_same⟩ (fun j H' _ hP => SqT.of (hd1_le _ _ (hP.1 _ _ hwa))) ?_ ?_
    · rintro j v H1 hv ⟨s1, h1⟩
      obtain ⟨x, a, hx, rfl, ha⟩ := words_at tws hv
      refine ⟨rfl, .ref a, rfl, a, _, 0, .int x.1, rfl, rfl, SqT.of (hd1_le _ _ (s1 _ _ ha)), rfl, _, h1, ?_, s1.trans hd1_upd, ?_⟩
      · rw [List.length_map, List.length_take, List.length_map]
        exact Nat.lt_of_lt_of_le (show min j ws.length < 64 by omega) (by decide)
      · rw [upd_same, List.take_add_one, List.getElem?_map, hx, List.map_append]
        rfl
    rintro H1 ⟨s1, h1⟩
    have s01 : Same H H1 := fun b o e => hd1_le _ _ (s1 _ _ e)
    rw [lx, List.take_of_length_le (by rw [List.length_map]; exact Nat.le_refl _)] at h1
    refine ⟨bs, D, _, rfl, SqL.of h1, fun u hu => ?_, by rw [List.length_map]; exact hb, by rw [List.length_map]; exact h3, ?_⟩
    · obtain ⟨x, hx, rfl⟩ := List.mem_map.mp hu
      exact (ok x hx).1
    refine ⟨.str (tabOf bs), rfl, .ref wa, rfl, wa, rfl, ⟨_, SqT.of (s01 _ _ hwa)⟩, fun D2 nD2 => ?_⟩
    refine lc_tup (K := K) (a := wa) (xs := xs) (fun j H' => Same H1 (hd1 D2 H') ∧ H' D2 = some (.lst (((ws.map (·.2.1)).take j).map V.int))) ⟨hd1_of (same_upd nD2) nD2, upd_same⟩ (fun j H' _ hP => SqT.of (hd1_le _ _ (hP.1 _ _ (s01 _ _ hwa)))) ?_ ?_
    · rintro j v H2 hv ⟨s2, h2⟩
      obtain ⟨x, a, hx, rfl, ha⟩ := words_at tws hv
      refine ⟨rfl, .ref a, rfl, a, _, 1, .int x.2.1, rfl, rfl, SqT.of (hd1_le _ _ (s2 _ _ (s01 _ _ ha))), rfl, _, h2, ?_, s2.trans hd1_upd, ?_⟩
      · rw [List.length_map, List.length_take, List.length_map]
        exact Nat.lt_of_lt_of_le (show min j ws.length < 64 by omega) (by decide)
      · rw [upd_same, List.take_add_one, List.getElem?_map, hx, List.map_append]
        rfl
    rintro H2 ⟨s2, h2⟩
    have s12 : Same H1 H2 := fun b o e => hd1_le _ _ (s2 _ _ e)
    rw [lx, List.take_of_length_le (by rw [List.length_map]; exact Nat.le_refl _)] at h2
    refine ⟨bs, D2, _, rfl, SqL.of h2, fun u hu => ?_, by rw [List.length_map]; exact hb, by rw [List.length_map]; exact h3, ?_⟩
    · obtain ⟨x, hx, rfl⟩ := List.mem_map.mp hu
      exact (ok x hx).2
    have sA := s01.trans s12
    refine ⟨.int (gateM bs (ws.map (·.1))), rfl, .int (gateM bs (ws.map (·.2.1))), rfl, .str (tabOf bs), rfl, .ref wa, rfl, bs, wa, ws, rfl, tw.same sA, ok, hb, h3, fun H3 s3 => ?_⟩
    refine ⟨sl3, fun du ndu => ?_⟩
    have s4 := same_upd (o := .tup [.int (gateM bs (ws.map (·.1))), .int (gateM bs (ws.map (·.2.1))), .bl (froL bs ws)]) ndu
    have hdu : (upd H3 du (.tup [.int (gateM bs (ws.map (·.1))), .int (gateM bs (ws.map (·.2.1))), .bl (froL bs ws)])) du = some (.tup [.int (gateM bs (ws.map (·.1))), .int (gateM bs (ws.map (·.2.1))), .bl (froL bs ws)]) := upd_same
    have sB := (sA.trans s3).trans s4
    revert hdu sB
    generalize upd H3 du (.tup [.int (gateM bs (ws.map (·.1))), .int (gateM bs (ws.map (·.2.1))), .bl (froL bs ws)]) = H4
    intro hdu sB
    refine ⟨2, rfl, by decide, by decide, for_range (n := 2) (fun i σ H' => ∃ y5 y6, σ = [some (.str (tabOf bs)), some (.ref wa), some (.int (gateM bs (ws.map (·.1)))), some (.int (gateM bs (ws.map (·.2.1)))), some (.ref du), y5, y6, none] ∧ Same H4 H') ⟨_, _, rfl, Same.refl _⟩ ?_ ?_⟩
    · rintro i σ H5 hi ⟨y5, y6, rfl, s5⟩
      refine ⟨.str (tabOf bs), rfl, .ref wa, rfl, bs, wa, ws, rfl, tw.same (sB.trans s5), ok, hb, h3, fun r H6 s6 h6 => ?_⟩
      rw [fro_same bs ws ok] at h6
      have fe := word_fine (c := froL bs ws) (gate01 bs (ws.map (·.1))) (gate01 bs (ws.map (·.2.1)))
      obtain ⟨able, _, _, deep⟩ := fine_iff.mp fe
      have fits := fine_fits fe (by decide)
      have sh : ∀ a, H6 a = some (.tup [.int (gateM bs (ws.map (·.1))), .int (gateM bs (ws.map (·.2.1))), .bl (froL bs ws)]) → Sh H6 (.ref a) (.tuple [.int (gateM bs (ws.map (·.1))), .int (gateM bs (ws.map (·.2.1))), .bool (froL bs ws)]) := fun a ha => .tup ha (.cons (.int _) (.cons (.int _) (.cons (.bl _) .nil)))
      refine ⟨.ref r, rfl, _, _, _, _, true, rfl, .ty _, .base (.tup h6), kit_ty (by decide +kernel), true, rfl, iteF ?_⟩
      refine ⟨.ref r, rfl, _, _, rfl, sh r h6, able, fits, by omega, .ref du, rfl, _, _, rfl, sh du (s6 _ _ (s5 _ _ hdu)), able, fits, by omega, rfl, false, ?_, iteF ?_⟩
      · rw [decide_eq_true rfl]
        rfl
      · exact ⟨_, _, rfl, s5.trans s6⟩
    · rintro σ H5 ⟨y5, y6, rfl, s5⟩
      exact q H5 (sB.trans s5)
def sp_law (K : PySem.W.Frag) : Sp := fun vs H Q _ => ∃ (a : Addr) (ns : List Int), vs = [.ref a] ∧ SqL K H a (ns.map V.int) ∧ ns.length ≤ 63 ∧ ∀ H', Q (.bl true) H'
theorem ok_law (T : Tx K mg) : FnG P w K mg base CX0 6 T.f_law T.fd_law ["_law_script"] (sp_law K) := by
  refine okG0 T.F_law sc_law (fun vs H Q E h => ?_) (fun cdv A outer s H vs Q E nothing hr h => ?_)
  · obtain ⟨a, ns, rfl, _⟩ := h
    rfl
  · obtain ⟨a, ns, rfl, hS, hlen, q⟩ := h
    refine ⟨_, (pss_cons (ps_set (i := 1) sc_law.nd rfl (by first | exact .inl rfl | exact .inr rfl) (pe_call (ok_deck T) (hr.mono (by decide)) (by rfl) T.g_deck T.F_deck.kp T.b_deck .nil pass0 (pa_cons (pv 0) pa_nil))) (pss_cons (ps_for PassesOwn.never rfl (pi_range1 (by rfl) T.m_range (pa_cons pe_int pa_nil)) (pg_name (i := 2) sc_law.nd rfl (by first | exact .inl rfl | exact .inr rfl)) (pss_cons (ps_set (i := 3) sc_law.nd rfl (by first | exact .inl rfl | exact .inr rfl) (pe_op op_add pe_int (pe_call (ok_draw T) (hr.mono (by decide)) (by rfl) T.g_draw T.F_draw.kp T.b_draw .nil pass0 (pa_cons (pv 1) (pa_cons pe_int pa_nil))))) (pss_cons (ps_set (i := 4) sc_law.nd rfl (by first | exact .inl rfl | exact .inr rfl) (pe_call (ok_table T) (hr.mono (by decide)) (by rfl) T.g_table T.F_table.kp T.b_table .nil pass0 (pa_cons (pv 1) (pa_cons (pv 3) pa_nil)))) (pss_cons (ps_set (i := 5) sc_law.nd rfl (by first | exact .inl rfl | exact .inr rfl) (pe_callTy call_tuple_of (by rfl) T.m_tuple (by decide +kernel) (pa_cons (pe_lc (own := [("_law_k", 6)]) (by rfl) sc_law.nd (pi_range1 (by rfl) T.m_range (pa_cons (pv 3) pa_nil)) (blkOk_by (own := [("_law_k", 6)]) (N := ["_law_script", "_law_deck_here", "_law_turn", "_law_size", "_law_table_here", "_law_words", "_law_k"]) (sc := defScope s_law) (by decide +kernel)) (fun _ _ _ _ _ => (pg_name (i := 6) sc_law.nd rfl (by first | exact .inl rfl | exact .inr rfl))) (fun _ _ _ _ _ => pts_nil) (fun _ _ _ _ _ => (pe_call (ok_word T) (hr.mono (by decide)) (by rfl) T.g_word T.F_word.kp T.b_word .nil pass0 (pa_cons (pv 1) pa_nil)))) pa_nil))) (pss_one (ps_if (pt_not (pt_val (pe_callG (ok_right T) nothing (hr.mono (by decide)) (by rfl) T.g_right T.F_right.kp T.b_right .nil pass0 (pa_cons (pv 4) (pa_cons (pv 5) pa_nil))))) (pss_one (ps_ret pe_bl)) pss_nil)))))) (pss_one (ps_ret pe_bl)))), ?_⟩
    refine ⟨.ref a, rfl, a, ns, rfl, hS, hlen, fun H1 d l s1 D1 => ?_⟩
    refine ⟨10, rfl, by decide, by decide, for_range (n := 10) (fun i σ H' => ∃ y2 y3 y4 y5, σ = [some (.ref a), some (.ref d), y2, y3, y4, y5, none] ∧ Deck H' d l) ⟨none, none, none, none, rfl, D1⟩ ?_ ?_⟩
    · rintro i σ H2 hi ⟨y2, y3, y4, y5, rfl, D2⟩
      refine ⟨.ref d, rfl, d, l, 3, rfl, D2, by decide, by decide, fun H3 u D3 f3 u0 u1 => ⟨_, _, rfl, rfl, ?_⟩⟩
      obtain ⟨n, hn, n3⟩ : ∃ n : Nat, (1 + u) = (n : Int) ∧ (n = 1 ∨ n = 2 ∨ n = 3) := ⟨(1 + u).toNat, by omega, by omega⟩
      dsimp only
      rw [hn]
      refine ⟨.ref d, rfl, .int n, rfl, d, l, n, rfl, D3, n3, fun H4 bs D4 lb => ?_⟩
      refine ⟨.int n, rfl, n, rfl, by omega, by omega, fun L nL => ?_⟩
      have oL := D4.out (Same.refl H4) nL
      refine lc_range (n := (n : Int).toNat) (fun j H' => Deck H' d l ∧ ∃ acc ws, H' L = some (.lst acc) ∧ TkAll (hid [d, l, L] H') acc (ws.map wD) ∧ (∀ x ∈ ws, Wok x) ∧ ws.length = j) ⟨D4.new nL, [], [], upd_same, .nil, (fun x hx => by cases hx), rfl⟩ ?_ ?_
      · rintro j H5 hj ⟨D5, acc, ws, hL, ta, okw, lw⟩
        refine ⟨rfl, ?_⟩
        refine ⟨.ref d, rfl, d, l, rfl, D5, fun H6 r x D6 f6 hr' okx => ?_⟩
        have hL6 := f6 L _ (fun k => oL (by rw [k]; simp)) (fun k => oL (by rw [k]; simp)) hL
        have hj3 : j < 3 := by omega
        have la := ta.length
        rw [List.length_map] at la
        refine ⟨acc, hL6, Nat.lt_of_lt_of_le (show acc.length < 64 by omega) (by decide), ?_, acc ++ [.ref r], ws ++ [x], upd_same, ?_, fun y hy => ?_, by rw [List.length_append, lw]; rfl⟩
        · obtain ⟨ne, cs, z, q1, q2, rr⟩ := D6
          exact ⟨ne, cs, z, by rw [upd_ne (fun k => oL (by rw [← k]; simp))]; exact q1, by rw [upd_ne (fun k => oL (by rw [← k]; simp))]; exact q2, rr⟩
        · have su := hid_upd (as := [d, l, L]) (H := H6) (p := L) (o := .lst (acc ++ [.ref r])) (by simp)
          have nrL : r ≠ L := ne_of hr' hL6 (by intro z; cases z)
          have or : r ∉ [d, l, L] := fun z => by
            obtain ⟨ne, cs, zz, q1, q2, rr⟩ := D6
            rcases List.mem_cons.mp z with z | z
            · rw [z, q1] at hr'; cases hr'
            · rcases List.mem_cons.mp z with z | z
              · rw [z, q2] at hr'; cases hr'
              · exact nrL (List.mem_singleton.mp z)
          rw [List.map_append]
          refine ((ta.same (hid_fr f6 (by simp) (by simp))).same su).append (.cons (.tup ?_ (.cons (.int _) (.cons (.int _) (.cons (.bl _) .nil)))) .nil)
          rw [hid_at or, upd_ne nrL]
          exact hr'
        · rcases List.mem_append.mp hy with z | z
          · exact okw y z
          · rw [List.mem_singleton.mp z]
            exact okx
      rintro H5 ⟨D5, acc, ws, hL, ta, okw, lw⟩
      have lw' : ws.length = n := by rw [lw]; omega
      refine ⟨L, acc, rfl, .inl ⟨SqL.of hL, fun wa nwa => ?_⟩⟩
      have sw := same_upd (o := .tup acc) nwa
      refine ⟨.str (tabOf bs), rfl, .ref wa, rfl, bs, wa, ws, rfl, .tup upd_same (ta.same (hid_le.trans sw)), okw, by rw [lw']; exact lb, by omega, fun H6 s6 => ?_⟩
      refine ⟨true, rfl, iteF ?_⟩
      exact ⟨_, _, _, _, rfl, (D5.same sw).same s6⟩
    · rintro σ H2 ⟨y2, y3, y4, y5, rfl, D2⟩
      exact q H2
end
theorem all_mk {l : PySem.W.OpenLaw} {w : World} {K : PySem.W.Frag} {h : Heap} {mg : Str → Option Value} {fa f1 f2 f3 f4 f5 f6 f7 f8 f9 f10 f11 f12 f13 f14 f15 : Addr} (X : K.In h) (G : h.Ns mainGlobals mg) (hfa : mg "law" = some (.ref fa))
    {od1 an1 od2 an2 od3 an3 od4 an4 od5 an5 od6 an6 od7 an7 od8 an8 od9 an9 od10 an10 od11 an11 od12 an12 od13 an13 od14 an14 od15 an15 : Option Addr} {sl1 sl2 sl3 sl4 sl5 sl6 sl7 sl8 sl9 sl10 sl11 sl12 sl13 sl14 sl15 : Array (Option Value)} {oc1 kV1 dc1 pm1 cd1 ct1 oc2 kV2 dc2 pm2 cd2 ct2 oc3 kV3 dc3 pm3 cd3 ct3 oc4 kV4 dc4 pm4 cd4 ct4 oc5 kV5 dc5 pm5 cd5 ct5 oc6 kV6 dc6 pm6 cd6 ct6 oc7 kV7 dc7 pm7 cd7 ct7 oc8 kV8 dc8 pm8 cd8 ct8 oc9 kV9 dc9 pm9 cd9 ct9 oc10 kV10 dc10 pm10 cd10 ct10 oc11 kV11 dc11 pm11 cd11 ct11 oc12 kV12 dc12 pm12 cd12 ct12 oc13 kV13 dc13 pm13 cd13 ct13 oc14 kV14 dc14 pm14 cd14 ct14 oc15 kV15 dc15 pm15 cd15 ct15 : Value}
    (a1 : PySem.W.nsIn K mainGlobals "choices_of" = some (some (.ref f1))) (l1 : K.lookup f1 = some ⟨oc1, od1, .func (PySem.W.fnOf "choices_of" "choices_of" (defArgs s_choices_of) (defBody s_choices_of) (defScope s_choices_of) .none kV1 dc1 pm1 an1 cd1 ct1), sl1⟩) (c1 : PySem.W.codeIn K cd1 "choices_of" = true) (k1 : PySem.W.keepIn K (.ref f1) = true)
    (a2 : PySem.W.nsIn K mainGlobals "table_worth" = some (some (.ref f2))) (l2 : K.lookup f2 = some ⟨oc2, od2, .func (PySem.W.fnOf "table_worth" "table_worth" (defArgs s_table_worth) (defBody s_table_worth) (defScope s_table_worth) .none kV2 dc2 pm2 an2 cd2 ct2), sl2⟩) (c2 : PySem.W.codeIn K cd2 "table_worth" = true) (k2 : PySem.W.keepIn K (.ref f2) = true)
    (a3 : PySem.W.nsIn K mainGlobals "pairs_of" = some (some (.ref f3))) (l3 : K.lookup f3 = some ⟨oc3, od3, .func (PySem.W.fnOf "pairs_of" "pairs_of" (defArgs s_pairs_of) (defBody s_pairs_of) (defScope s_pairs_of) .none kV3 dc3 pm3 an3 cd3 ct3), sl3⟩) (c3 : PySem.W.codeIn K cd3 "pairs_of" = true) (k3 : PySem.W.keepIn K (.ref f3) = true)
    (a4 : PySem.W.nsIn K mainGlobals "gate_word" = some (some (.ref f4))) (l4 : K.lookup f4 = some ⟨oc4, od4, .func (PySem.W.fnOf "gate_word" "gate_word" (defArgs s_gate_word) (defBody s_gate_word) (defScope s_gate_word) .none kV4 dc4 pm4 an4 cd4 ct4), sl4⟩) (c4 : PySem.W.codeIn K cd4 "gate_word" = true) (k4 : PySem.W.keepIn K (.ref f4) = true)
    (a5 : PySem.W.nsIn K mainGlobals "goes_fro" = some (some (.ref f5))) (l5 : K.lookup f5 = some ⟨oc5, od5, .func (PySem.W.fnOf "goes_fro" "goes_fro" (defArgs s_goes_fro) (defBody s_goes_fro) (defScope s_goes_fro) .none kV5 dc5 pm5 an5 cd5 ct5), sl5⟩) (c5 : PySem.W.codeIn K cd5 "goes_fro" = true) (k5 : PySem.W.keepIn K (.ref f5) = true)
    (a6 : PySem.W.nsIn K mainGlobals "pair_by" = some (some (.ref f6))) (l6 : K.lookup f6 = some ⟨oc6, od6, .func (PySem.W.fnOf "pair_by" "pair_by" (defArgs s_pair_by) (defBody s_pair_by) (defScope s_pair_by) .none kV6 dc6 pm6 an6 cd6 ct6), sl6⟩) (c6 : PySem.W.codeIn K cd6 "pair_by" = true) (k6 : PySem.W.keepIn K (.ref f6) = true)
    (a7 : PySem.W.nsIn K mainGlobals "_law_deck" = some (some (.ref f7))) (l7 : K.lookup f7 = some ⟨oc7, od7, .func (PySem.W.fnOf "_law_deck" "_law_deck" (defArgs s_deck) (defBody s_deck) (defScope s_deck) .none kV7 dc7 pm7 an7 cd7 ct7), sl7⟩) (c7 : PySem.W.codeIn K cd7 "_law_deck" = true) (k7 : PySem.W.keepIn K (.ref f7) = true)
    (a8 : PySem.W.nsIn K mainGlobals "_law_draw" = some (some (.ref f8))) (l8 : K.lookup f8 = some ⟨oc8, od8, .func (PySem.W.fnOf "_law_draw" "_law_draw" (defArgs s_draw) (defBody s_draw) (defScope s_draw) .none kV8 dc8 pm8 an8 cd8 ct8), sl8⟩) (c8 : PySem.W.codeIn K cd8 "_law_draw" = true) (k8 : PySem.W.keepIn K (.ref f8) = true)
    (a9 : PySem.W.nsIn K mainGlobals "_law_word" = some (some (.ref f9))) (l9 : K.lookup f9 = some ⟨oc9, od9, .func (PySem.W.fnOf "_law_word" "_law_word" (defArgs s_word) (defBody s_word) (defScope s_word) .none kV9 dc9 pm9 an9 cd9 ct9), sl9⟩) (c9 : PySem.W.codeIn K cd9 "_law_word" = true) (k9 : PySem.W.keepIn K (.ref f9) = true)
    (a10 : PySem.W.nsIn K mainGlobals "_law_table" = some (some (.ref f10))) (l10 : K.lookup f10 = some ⟨oc10, od10, .func (PySem.W.fnOf "_law_table" "_law_table" (defArgs s_table) (defBody s_table) (defScope s_table) .none kV10 dc10 pm10 an10 cd10 ct10), sl10⟩) (c10 : PySem.W.codeIn K cd10 "_law_table" = true) (k10 : PySem.W.keepIn K (.ref f10) = true)
    (a11 : PySem.W.nsIn K mainGlobals "_law_gate" = some (some (.ref f11))) (l11 : K.lookup f11 = some ⟨oc11, od11, .func (PySem.W.fnOf "_law_gate" "_law_gate" (defArgs s_gate) (defBody s_gate) (defScope s_gate) .none kV11 dc11 pm11 an11 cd11 ct11), sl11⟩) (c11 : PySem.W.codeIn K cd11 "_law_gate" = true) (k11 : PySem.W.keepIn K (.ref f11) = true)
    (a12 : PySem.W.nsIn K mainGlobals "_law_waves" = some (some (.ref f12))) (l12 : K.lookup f12 = some ⟨oc12, od12, .func (PySem.W.fnOf "_law_waves" "_law_waves" (defArgs s_waves) (defBody s_waves) (defScope s_waves) .none kV12 dc12 pm12 an12 cd12 ct12), sl12⟩) (c12 : PySem.W.codeIn K cd12 "_law_waves" = true) (k12 : PySem.W.keepIn K (.ref f12) = true)
    (a13 : PySem.W.nsIn K mainGlobals "_law_goes_fro" = some (some (.ref f13))) (l13 : K.lookup f13 = some ⟨oc13, od13, .func (PySem.W.fnOf "_law_goes_fro" "_law_goes_fro" (defArgs s_l_goes_fro) (defBody s_l_goes_fro) (defScope s_l_goes_fro) .none kV13 dc13 pm13 an13 cd13 ct13), sl13⟩) (c13 : PySem.W.codeIn K cd13 "_law_goes_fro" = true) (k13 : PySem.W.keepIn K (.ref f13) = true)
    (a14 : PySem.W.nsIn K mainGlobals "_law_right" = some (some (.ref f14))) (l14 : K.lookup f14 = some ⟨oc14, od14, .func (PySem.W.fnOf "_law_right" "_law_right" (defArgs s_right) (defBody s_right) (defScope s_right) .none kV14 dc14 pm14 an14 cd14 ct14), sl14⟩) (c14 : PySem.W.codeIn K cd14 "_law_right" = true) (k14 : PySem.W.keepIn K (.ref f14) = true)
    (a15 : PySem.W.nsIn K mainGlobals "law" = some (some (.ref f15))) (l15 : K.lookup f15 = some ⟨oc15, od15, .func (PySem.W.fnOf "law" "law" (defArgs s_law) (defBody s_law) (defScope s_law) .none kV15 dc15 pm15 an15 cd15 ct15), sl15⟩) (c15 : PySem.W.codeIn K cd15 "law" = true) (k15 : PySem.W.keepIn K (.ref f15) = true)
    (z_int : PySem.W.nsIn K mainGlobals "int" = some none)
    (z_isinstance : PySem.W.nsIn K mainGlobals "isinstance" = some none)
    (z_list : PySem.W.nsIn K mainGlobals "list" = some none)
    (z_range : PySem.W.nsIn K mainGlobals "range" = some none)
    (z_repr : PySem.W.nsIn K mainGlobals "repr" = some none)
    (z_set : PySem.W.nsIn K mainGlobals "set" = some none)
    (z_sorted : PySem.W.nsIn K mainGlobals "sorted" = some none)
    (z_str : PySem.W.nsIn K mainGlobals "str" = some none)
    (z_sum : PySem.W.nsIn K mainGlobals "sum" = some none)
    (z_tuple : PySem.W.nsIn K mainGlobals "tuple" = some none) :
    ∃ fd : FuncData, (∀ (s : Shared) (v : Value), BindsTo s fd ⟨[v], []⟩ [("_law_script", v)]) ∧ ∀ base : Heap, K.In base → base.Ns mainGlobals mg → FnG l.prog w K mg base CX0 6 fa fd ["_law_script"] (sp_law K) := by
  have e := hfa.symm.trans (PySem.W.mg_of X G a15)
  cases e
  have F1 := fun_mk (st := s_choices_of) l1 c1 k1
  have b1 := F1.binds (ps := ["lists"]) fun _ _ _ _ _ _ us hl => match us, hl with | [_], _ => rfl
  have F2 := fun_mk (st := s_table_worth) l2 c2 k2
  have b2 := F2.binds (ps := ["table", "worths"]) fun _ _ _ _ _ _ us hl => match us, hl with | [_, _], _ => rfl
  have F3 := fun_mk (st := s_pairs_of) l3 c3 k3
  have b3 := F3.binds (ps := ["word"]) fun _ _ _ _ _ _ us hl => match us, hl with | [_], _ => rfl
  have F4 := fun_mk (st := s_gate_word) l4 c4 k4
  have b4 := F4.binds (ps := ["table", "words"]) fun _ _ _ _ _ _ us hl => match us, hl with | [_, _], _ => rfl
  have F5 := fun_mk (st := s_goes_fro) l5 c5 k5
  have b5 := F5.binds (ps := ["table", "words", "first", "last"]) fun _ _ _ _ _ _ us hl => match us, hl with | [_, _, _, _], _ => rfl
  have F6 := fun_mk (st := s_pair_by) l6 c6 k6
  have b6 := F6.binds (ps := ["table", "pairs"]) fun _ _ _ _ _ _ us hl => match us, hl with | [_, _], _ => rfl
  have F7 := fun_mk (st := s_deck) l7 c7 k7
  have b7 := F7.binds (ps := ["_law_script"]) fun _ _ _ _ _ _ us hl => match us, hl with | [_], _ => rfl
  have F8 := fun_mk (st := s_draw) l8 c8 k8
  have b8 := F8.binds (ps := ["_law_deck_here", "_law_most"]) fun _ _ _ _ _ _ us hl => match us, hl with | [_, _], _ => rfl
  have F9 := fun_mk (st := s_word) l9 c9 k9
  have b9 := F9.binds (ps := ["_law_deck_here"]) fun _ _ _ _ _ _ us hl => match us, hl with | [_], _ => rfl
  have F10 := fun_mk (st := s_table) l10 c10 k10
  have b10 := F10.binds (ps := ["_law_deck_here", "_law_size"]) fun _ _ _ _ _ _ us hl => match us, hl with | [_, _], _ => rfl
  have F11 := fun_mk (st := s_gate) l11 c11 k11
  have b11 := F11.binds (ps := ["_law_table_here", "_law_worths"]) fun _ _ _ _ _ _ us hl => match us, hl with | [_, _], _ => rfl
  have F12 := fun_mk (st := s_waves) l12 c12 k12
  have b12 := F12.binds (ps := ["_law_word_here"]) fun _ _ _ _ _ _ us hl => match us, hl with | [_], _ => rfl
  have F13 := fun_mk (st := s_l_goes_fro) l13 c13 k13
  have b13 := F13.binds (ps := ["_law_table_here", "_law_words"]) fun _ _ _ _ _ _ us hl => match us, hl with | [_, _], _ => rfl
  have F14 := fun_mk (st := s_right) l14 c14 k14
  have b14 := F14.binds (ps := ["_law_table_here", "_law_words"]) fun _ _ _ _ _ _ us hl => match us, hl with | [_, _], _ => rfl
  have F15 := fun_mk (st := s_law) l15 c15 k15
  have b15 := F15.binds (ps := ["_law_script"]) fun _ _ _ _ _ _ us hl => match us, hl with | [_], _ => rfl
  let T : Tx K mg := { f_choices_of := _, fd_choices_of := _, F_choices_of := F1, g_choices_of := PySem.W.mg_of X G a1, b_choices_of := b1, f_table_worth := _, fd_table_worth := _, F_table_worth := F2, g_table_worth := PySem.W.mg_of X G a2, b_table_worth := b2, f_pairs_of := _, fd_pairs_of := _, F_pairs_of := F3, g_pairs_of := PySem.W.mg_of X G a3, b_pairs_of := b3, f_gate_word := _, fd_gate_word := _, F_gate_word := F4, g_gate_word := PySem.W.mg_of X G a4, b_gate_word := b4, f_goes_fro := _, fd_goes_fro := _, F_goes_fro := F5, g_goes_fro := PySem.W.mg_of X G a5, b_goes_fro := b5, f_pair_by := _, fd_pair_by := _, F_pair_by := F6, g_pair_by := PySem.W.mg_of X G a6, b_pair_by := b6, f_deck := _, fd_deck := _, F_deck := F7, g_deck := PySem.W.mg_of X G a7, b_deck := b7, f_draw := _, fd_draw := _, F_draw := F8, g_draw := PySem.W.mg_of X G a8, b_draw := b8, f_word := _, fd_word := _, F_word := F9, g_word := PySem.W.mg_of X G a9, b_word := b9, f_table := _, fd_table := _, F_table := F10, g_table := PySem.W.mg_of X G a10, b_table := b10, f_gate := _, fd_gate := _, F_gate := F11, g_gate := PySem.W.mg_of X G a11, b_gate := b11, f_waves := _, fd_waves := _, F_waves := F12, g_waves := PySem.W.mg_of X G a12, b_waves := b12, f_l_goes_fro := _, fd_l_goes_fro := _, F_l_goes_fro := F13, g_l_goes_fro := PySem.W.mg_of X G a13, b_l_goes_fro := b13, f_right := _, fd_right := _, F_right := F14, g_right := PySem.W.mg_of X G a14, b_right := b14, f_law := _, fd_law := _, F_law := F15, g_law := PySem.W.mg_of X G a15, b_law := b15, m_int := PySem.W.mg_none_of X G z_int, m_isinstance := PySem.W.mg_none_of X G z_isinstance, m_list := PySem.W.mg_none_of X G z_list, m_range := PySem.W.mg_none_of X G z_range, m_repr := PySem.W.mg_none_of X G z_repr, m_set := PySem.W.mg_none_of X G z_set, m_sorted := PySem.W.mg_none_of X G z_sorted, m_str := PySem.W.mg_none_of X G z_str, m_sum := PySem.W.mg_none_of X G z_sum, m_tuple := PySem.W.mg_none_of X G z_tuple }
  exact ⟨_, fun s v => .of_eq rfl, fun base _ _ => ok_law T⟩
end Gk
open PySem PySem.W PyProof.Rows
set_option maxRecDepth 100000 in
set_option maxHeartbeats 0 in
theorem PySem.Challenge.cw_glitchnet_k18_gate_words_by_all_waves_holds : PySem.Challenge.rw_glitchnet_k18_gate_words_by_all_waves.Holds := by
  w_on; o_law; k_head; (case hw => w_witness2)
  k_fill
  refine Gk.walk_G (l := PySem.Challenge.rw_glitchnet_k18_gate_words_by_all_waves) (n := 63) (k := 6) (x := "_law_script") (CX := fun _ => L2.CX0) (sp := fun w => Gk.sp_law _) rfl (by decide) rfl ⟨rfl, by decide, by decide⟩ (fun w h Y => PySem.W.kIn_of Y) ?F (fun _ _ a ns hl _ hS => ⟨a, ns, rfl, hS, hl, fun _ => rfl⟩) (fun _ _ _ _ _ h => h)
  case F =>
    intro w mg fa h KX G hmg
    refine' Gk.all_mk KX G hmg ?a1 ?l1 ?c1 ?k1 ?a2 ?l2 ?c2 ?k2 ?a3 ?l3 ?c3 ?k3 ?a4 ?l4 ?c4 ?k4 ?a5 ?l5 ?c5 ?k5 ?a6 ?l6 ?c6 ?k6 ?a7 ?l7 ?c7 ?k7 ?a8 ?l8 ?c8 ?k8 ?a9 ?l9 ?c9 ?k9 ?a10 ?l10 ?c10 ?k10 ?a11 ?l11 ?c11 ?k11 ?a12 ?l12 ?c12 ?k12 ?a13 ?l13 ?c13 ?k13 ?a14 ?l14 ?c14 ?k14 ?a15 ?l15 ?c15 ?k15 ?z_int ?z_isinstance ?z_list ?z_range ?z_repr ?z_set ?z_sorted ?z_str ?z_sum ?z_tuple
    (case a1 => k_is)
    (case l1 => k_is)
    (case c1 => k_is)
    (case k1 => k_is)
    (case a2 => k_is)
    (case l2 => k_is)
    (case c2 => k_is)
    (case k2 => k_is)
    (case a3 => k_is)
    (case l3 => k_is)
    (case c3 => k_is)
    (case k3 => k_is)
    (case a4 => k_is)
    (case l4 => k_is)
    (case c4 => k_is)
    (case k4 => k_is)
    (case a5 => k_is)
    (case l5 => k_is)
    (case c5 => k_is)
    (case k5 => k_is)
    (case a6 => k_is)
    (case l6 => k_is)
    (case c6 => k_is)
    (case k6 => k_is)
    (case a7 => k_is)
    (case l7 => k_is)
    (case c7 => k_is)
    (case k7 => k_is)
    (case a8 => k_is)
    (case l8 => k_is)
    (case c8 => k_is)
    (case k8 => k_is)
    (case a9 => k_is)
    (case l9 => k_is)
    (case c9 => k_is)
    (case k9 => k_is)
    (case a10 => k_is)
    (case l10 => k_is)
    (case c10 => k_is)
    (case k10 => k_is)
    (case a11 => k_is)
    (case l11 => k_is)
    (case c11 => k_is)
    (case k11 => k_is)
    (case a12 => k_is)
    (case l12 => k_is)
    (case c12 => k_is)
    (case k12 => k_is)
    (case a13 => k_is)
    (case l13 => k_is)
    (case c13 => k_is)
    (case k13 => k_is)
    (case a14 => k_is)
    (case l14 => k_is)
    (case c14 => k_is)
    (case k14 => k_is)
    (case a15 => k_is)
    (case l15 => k_is)
    (case c15 => k_is)
    (case k15 => k_is)
    (case z_int => k_is)
    (case z_isinstance => k_is)
    (case z_list => k_is)
    (case z_range => k_is)
    (case z_repr => k_is)
    (case z_set => k_is)
    (case z_sorted => k_is)
    (case z_str => k_is)
    (case z_sum => k_is)
    (case z_tuple => k_is)
