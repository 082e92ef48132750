import PyProof.Rows.All
import Wide.All
import OpenK.AllK
import Wide.FinOn
import HandS.ForMost
import HandS.IsInst
import HandS.TupLe
import HandS.More
import HandS.Codes
import HandS.Conv
import HandS.Deep
import HandS.Style
import HandS.TupMul
import PyProof.ReprLen
import PyProof.ReprRoads
import PySem.Challenge.RW_glitchnet_k14_what_is_a_word
set_option Elab.async false
set_option linter.all false
set_option maxRecDepth 100000
namespace Gk
open PySem PySem.Spec PyProof.Rows L2
/-! ### the text -/
def topS (i : Nat) : Stmt := PySem.Challenge.pw_glitchnet_k14_what_is_a_word.main.body.getD i (.Pass ⟨0, 0, 0, 0⟩)
abbrev s_is_whole : Stmt := topS 1
abbrev s_is_worth : Stmt := topS 2
abbrev s_is_word : Stmt := topS 4
abbrev s_deck : Stmt := topS 6
abbrev s_draw : Stmt := topS 7
abbrev s_odd : Stmt := topS 8
abbrev s_thing : Stmt := topS 9
abbrev s_due : Stmt := topS 10
abbrev s_law : Stmt := topS 11
theorem sc_is_whole : FnScope ["thing"] ["thing"] (defScope s_is_whole) := ⟨rfl, rfl, rfl, by decide +kernel, rfl, by decide +kernel, by decide +kernel⟩
theorem sc_is_worth : FnScope ["thing"] ["thing"] (defScope s_is_worth) := ⟨rfl, rfl, rfl, by decide +kernel, rfl, by decide +kernel, by decide +kernel⟩
theorem sc_is_word : FnScope ["thing", "first", "last", "fro"] ["thing"] (defScope s_is_word) := ⟨rfl, rfl, rfl, by decide +kernel, rfl, by decide +kernel, by decide +kernel⟩
theorem sc_deck : FnScope ["_law_script", "_law_last"] ["_law_script"] (defScope s_deck) := ⟨rfl, rfl, rfl, by decide +kernel, rfl, by decide +kernel, by decide +kernel⟩
theorem sc_draw : FnScope ["_law_deck_here", "_law_most", "_law_cell", "_law_number"] ["_law_deck_here", "_law_most"] (defScope s_draw) := ⟨rfl, rfl, rfl, by decide +kernel, rfl, by decide +kernel, by decide +kernel⟩
theorem sc_odd : FnScope ["_law_deck_here", "_law_some"] ["_law_deck_here"] (defScope s_odd) := ⟨rfl, rfl, rfl, by decide +kernel, rfl, by decide +kernel, by decide +kernel⟩
theorem sc_thing : FnScope ["_law_deck_here", "_law_way", "_law_word", "_law_at"] ["_law_deck_here"] (defScope s_thing) := ⟨rfl, rfl, rfl, by decide +kernel, rfl, by decide +kernel, by decide +kernel⟩
theorem sc_due : FnScope ["_law_thing_here", "_law_one"] ["_law_thing_here"] (defScope s_due) := ⟨rfl, rfl, rfl, by decide +kernel, rfl, by decide +kernel, by decide +kernel⟩
theorem sc_law : FnScope ["_law_script", "_law_deck_here", "_law_things", "_law_thing_here", "_law_kept", "_law_turn", "_law_told", "_law_number"] ["_law_script"] (defScope s_law) := ⟨rfl, rfl, rfl, by decide +kernel, rfl, by decide +kernel, by decide +kernel⟩
structure Tx (K : PySem.W.Frag) (mg : Str → Option Value) where
  f_is_whole : Addr
  fd_is_whole : FuncData
  F_is_whole : Fun K "is_whole" "is_whole" s_is_whole f_is_whole fd_is_whole
  g_is_whole : mg "is_whole" = some (.ref f_is_whole)
  b_is_whole : Binds K fd_is_whole ["thing"] []
  f_is_worth : Addr
  fd_is_worth : FuncData
  F_is_worth : Fun K "is_worth" "is_worth" s_is_worth f_is_worth fd_is_worth
  g_is_worth : mg "is_worth" = some (.ref f_is_worth)
  b_is_worth : Binds K fd_is_worth ["thing"] []
  f_is_word : Addr
  fd_is_word : FuncData
  F_is_word : Fun K "is_word" "is_word" s_is_word f_is_word fd_is_word
  g_is_word : mg "is_word" = some (.ref f_is_word)
  b_is_word : Binds K fd_is_word ["thing"] []
  f_deck : Addr
  fd_deck : FuncData
  F_deck : Fun K "_law_deck" "_law_deck" s_deck f_deck fd_deck
  g_deck : mg "_law_deck" = some (.ref f_deck)
  b_deck : Binds K fd_deck ["_law_script"] []
  f_draw : Addr
  fd_draw : FuncData
  F_draw : Fun K "_law_draw" "_law_draw" s_draw f_draw fd_draw
  g_draw : mg "_law_draw" = some (.ref f_draw)
  b_draw : Binds K fd_draw ["_law_deck_here", "_law_most"] []
  f_odd : Addr
  fd_odd : FuncData
  F_odd : Fun K "_law_odd" "_law_odd" s_odd f_odd fd_odd
  g_odd : mg "_law_odd" = some (.ref f_odd)
  b_odd : Binds K fd_odd ["_law_deck_here"] []
  f_thing : Addr
  fd_thing : FuncData
  F_thing : Fun K "_law_thing" "_law_thing" s_thing f_thing fd_thing
  g_thing : mg "_law_thing" = some (.ref f_thing)
  b_thing : Binds K fd_thing ["_law_deck_here"] []
  f_due : Addr
  fd_due : FuncData
  F_due : Fun K "_law_due" "_law_due" s_due f_due fd_due
  g_due : mg "_law_due" = some (.ref f_due)
  b_due : Binds K fd_due ["_law_thing_here"] []
  f_law : Addr
  fd_law : FuncData
  F_law : Fun K "law" "law" s_law f_law fd_law
  g_law : mg "law" = some (.ref f_law)
  b_law : Binds K fd_law ["_law_script"] []
  m_bool : mg "bool" = none
  m_int : mg "int" = none
  m_isinstance : mg "isinstance" = none
  m_len : mg "len" = none
  m_list : mg "list" = none
  m_range : mg "range" = none
  m_repr : mg "repr" = none
  m_sum : mg "sum" = none
  m_tuple : mg "tuple" = none
/-! ### heaps -/
theorem same_upd {H : Hp} {p : Addr} {o : HO} (h : H p = none) : Same H (upd H p o) := fun b x e => by
  rw [upd_ne (ne_of_none e h)]
  exact e
def Fr (d l : Addr) (H H' : Hp) : Prop := ∀ b o, b ≠ d → b ≠ l → H b = some o → H' b = some o
theorem Fr.trans {d l : Addr} {H H1 H2 : Hp} (a : Fr d l H H1) (b : Fr d l H1 H2) : Fr d l H H2 := fun c o h1 h2 h => b c o h1 h2 (a c o h1 h2 h)
theorem Fr.refl {d l : Addr} {H : Hp} : Fr d l H H := fun _ _ _ _ h => h
theorem Fr.new {d l p : Addr} {H : Hp} {o : HO} (h : H p = none) : Fr d l H (upd H p o) := fun b x _ _ e => same_upd h b x e
theorem Fr.of {d l : Addr} {H H' : Hp} (h : Same H H') : Fr d l H H' := fun b x _ _ e => h b x e
theorem Fr.d {d l : Addr} {H : Hp} {o : HO} : Fr d l H (upd H d o) := fun b x h1 _ e => by rw [upd_ne h1]; exact e
theorem Fr.l {d l : Addr} {H : Hp} {o : HO} : Fr d l H (upd H l o) := fun b x _ h2 e => by rw [upd_ne h2]; exact e
def Deck (H : Hp) (d l : Addr) : Prop := d ≠ l ∧ ∃ (cs : List Int) (z : Int), H d = some (.lst [.ref l, .int z]) ∧ H l = some (.lst (cs.map V.int)) ∧ cs.length ≤ 63 ∧ 0 ≤ z ∧ z < 4294967296
theorem Deck.same {H H' : Hp} {d l : Addr} (D : Deck H d l) (s : Same H H') : Deck H' d l := by
  obtain ⟨ne, cs, z, hd, hl, r⟩ := D
  exact ⟨ne, cs, z, s _ _ hd, s _ _ hl, r⟩
theorem Deck.new {H : Hp} {d l p : Addr} {o : HO} (D : Deck H d l) (h : H p = none) : Deck (upd H p o) d l := D.same (same_upd h)
theorem Deck.ne_new {H : Hp} {d l p : Addr} (D : Deck H d l) (h : H p = none) : p ≠ d ∧ p ≠ l := by
  obtain ⟨ne, cs, z, hd, hl, r⟩ := D
  exact ⟨(ne_of_none hd h).symm, (ne_of_none hl h).symm⟩
theorem p29 : (0 : Int) < 2147483629 := by decide
theorem p47 : (0 : Int) < 2147483647 := by decide
theorem p87 : (0 : Int) < 2147483587 := by decide
theorem sl1 : 1 ≤ sizeLine := by decide
theorem sl2 : 2 ≤ sizeLine := by decide
theorem sl3 : 3 ≤ sizeLine := by decide
theorem sl4 : 4 ≤ sizeLine := by decide
theorem seqIx0 {α : Type} (x : α) (xs : List α) : seqIndex? 0 (x :: xs).length = some 0 := by
  refine (ixN_seq (n := (x :: xs).length) (i := 0) (j := 0) ?_).1
  unfold ixN
  rw [if_pos (by decide), if_pos (by rw [List.length_cons]; omega)]
  rfl
theorem dpInts {K : PySem.W.Frag} {H : Hp} : ∀ cs : List Int, DpAll K H (cs.map V.int) (cs.map PyData.int)
  | [] => .nil
  | c :: r => .cons (.int c) (dpInts r)
theorem shInts (ns : List Int) : SeqAt.shaped (.list (ns.map PyData.int)) = true := by
  unfold SeqAt.shaped
  rw [Bool.and_eq_true]
  refine ⟨?_, ?_⟩
  · simp only [PyData.canLay0, canLayAll_ints]
  · simp only [PyData.depth, depthAll_ints]
    decide
theorem at_pick {xs : List V} {j : Int} (h0 : 0 ≤ j) (h1 : j < xs.length) : ∃ x, atI xs j = some x ∧ x ∈ xs := by
  obtain ⟨k, rfl⟩ : ∃ k : Nat, j = (k : Int) := ⟨j.toNat, (Int.toNat_of_nonneg h0).symm⟩
  have hk : k < xs.length := by omega
  exact ⟨xs[k], atI_nat (List.getElem?_eq_getElem hk), List.getElem_mem hk⟩
theorem units65 {k : Nat} {A : Around} (r : Room k A) : A.units + 65 < cLine := by have := r.un; omega
def rLenK (K : PySem.W.Frag) : List V → Hp → VK → Prop := fun xs H Q => ∃ p ys, xs = [.ref p] ∧ (SqL K H p ys ∨ SqT K H p ys) ∧ Q (.int ys.length) H
def rTupK (K : PySem.W.Frag) : List V → Hp → VK → Prop := fun xs H Q => ∃ p ys, xs = [.ref p] ∧ ((SqL K H p ys ∧ ∀ l, H l = none → Q (.ref l) (upd H l (.tup ys))) ∨ (SqT K H p ys ∧ Q (.ref p) H))
def rLstK (K : PySem.W.Frag) : List V → Hp → VK → Prop := fun xs H Q => ∃ p ys, xs = [.ref p] ∧ (SqL K H p ys ∨ SqT K H p ys) ∧ ∀ l, H l = none → Q (.ref l) (upd H l (.lst ys))
/-- joining ways behind a test, behind an expression -/
def tCutT (t : TT) : TT := fun σ H Q => ∃ Mid : Bool → Hp → Prop, t σ H Mid ∧ ∀ b H1, Mid b H1 → Q b H1
theorem pt_cut {X : Cx} {e : Expr} {t : TT} (h : PT X e t) : PT X e (tCutT t) := ⟨fun pins s σ H Q I hw => by
  obtain ⟨Mid, h1, q⟩ := hw
  exact thn (h.run pins s σ H _ I h1) fun c s1 ⟨H1, I1, m⟩ => ⟨H1, I1, q _ _ m⟩⟩
def tCutE (t : TE) : TE := fun σ H Q => ∃ Mid : VK, t σ H Mid ∧ ∀ v H1, Mid v H1 → Q v H1
theorem pe_cut {X : Cx} {e : Expr} {t : TE} (h : PE X e t) : PE X e (tCutE t) := ⟨fun pins s σ H Q I hw => by
  obtain ⟨Mid, h1, q⟩ := hw
  exact thn (h.run pins s σ H _ I h1) fun u s1 ⟨v, H1, I1, r, m⟩ => ⟨v, H1, I1, r, q _ _ m⟩⟩

/-! ### defs called where nothing is being shown (so that repr tells what stands there) -/
structure FnG (P : Program) (w : World) (K : PySem.W.Frag) (mg : Str → Option Value) (bs : Heap) (CX : CXT) (k : Nat) (f : Addr) (fd : FuncData) (ps : List Str) (sp : Sp) : Prop where
  many : ∀ vs H Q E, sp vs H Q E → vs.length = ps.length
  go : ∀ A : Around, A.guards = some [] → Room k A → ∀ (fr : List Env) (s : Shared) (H : Hp) (ar : Args) (us : List Value) (vs : List V) (Q : VK) (E : XK), Env0 P w K mg bs A fr s H → BindsTo s fd ar (ps.zip us) → Vals vs us → sp vs H Q E → codeAny (model P w) A (.call (.ref f) ar) (CR CX fr P w H s Q E) s
theorem FnG.of {P : Program} {w : World} {K : PySem.W.Frag} {mg : Str → Option Value} {bs : Heap} {CX : CXT} {k : Nat} {f : Addr} {fd : FuncData} {ps : List Str} {sp : Sp} (F : FnOk P w K mg bs CX k f fd ps sp) : FnG P w K mg bs CX k f fd ps sp :=
  ⟨F.len, fun A _ room fr s H ar us vs Q E e0 b r h => F.run A fr s H ar us vs Q E room e0 b r h⟩
theorem okG {CX : CXT} {P : Program} {w : World} {K : PySem.W.Frag} {mg : Str → Option Value} {bs : Heap} {x qual : Str} {st : Stmt} {f : Addr} {fd : FuncData} {N ps : List Str} {k : Nat} {sp : Sp} (F : Fun K x qual st f fd) (S : FnScope N ps (defScope st))
    (many : ∀ vs H Q E, sp vs H Q E → vs.length = ps.length)
    (body : ∀ (cdv : Value) (A : Around) (fr : List Env) (s : Shared) (H : Hp) (vs : List V) (Q : VK) (E : XK), A.guards = some [] → Room k (A.deeper (envOfC qual (defScope st) s.heap.objs.size f cdv)) → sp vs H Q E →
      ∃ t, PSs (cxOf CX P w K mg bs N qual (defScope st) f cdv A fr s H E) (defBody st) t ∧ t ⟨fun _ H' => Q .non H', Q, fun _ _ => False, fun _ _ => False⟩ (start N vs) H) : FnG P w K mg bs CX (k + 1) f fd ps sp := by
  obtain ⟨oc, od, kV, doc, pm, an, cdv, ct, osl, rfl, lk, code⟩ := F.ex
  refine ⟨many, fun A nothing room fr s H ar us vs Q E e0 bound rel told => ?_⟩
  have stays : ∀ b o, bs.get? b = some o → s.heap.get? b = some o := fun b o z => (e0.bs b o z).1
  have inK : K.In s.heap := e0.mod.kin.keeps stays
  have places : ∀ y ∈ ps.zip us, (defScope st).names.lookup y.1 = some .local ∨ ((defScope st).names.lookup y.1 = some .cell ∧ ((cellsFrom (s.heap.objs.size + 1) (defScope st).names []).lookup y.1).isSome = true) := by
    rintro ⟨n, v⟩ hy
    exact (S.par n (List.of_mem_zip hy).1).imp id fun c => ⟨c, PySem.W.cellsFrom_some _ _ _ (Or.inl c)⟩
  refine codeAny_call_function room.depth (inK _ _ lk) rfl S.co S.gen rfl (PySem.W.codeRec_of inK code) (bound _ _ _ _
    (wpAny_newFunctionEnv_cells S.kind places fun env he s1 made => ?_))
  subst he
  obtain ⟨t, runs, holds⟩ := body cdv A fr s H vs Q E nothing (room.deeper _) told
  refine ⟨(e0.mod.nolimit.keeps stays).keeps made.toInCall.keep, codeAny_func (wpAny_mono (runs.run [] s1 (start N vs) H _ (inv_start S room.hd e0 (many _ _ _ _ told) rel made) holds) (fun fl s2 z => ?_) fun _ _ z => z)⟩
  match fl, z with
  | .ret _, ⟨v, _, H', J, rv, q⟩ => exact ⟨v, H', J.os, J.bare, J.base, J.hok, rv, q⟩
  | .next, ⟨_, H', J, q⟩ => exact ⟨V.non, H', J.os, J.bare, J.base, J.hok, rfl, q⟩
  | .brk, ⟨_, _, _, q⟩ => exact q.elim
  | .cont, ⟨_, _, _, q⟩ => exact q.elim
theorem okG0 {P : Program} {w : World} {K : PySem.W.Frag} {mg : Str → Option Value} {bs : Heap} {x qual : Str} {st : Stmt} {f : Addr} {fd : FuncData} {N ps : List Str} {k : Nat} {sp : Sp} (F : Fun K x qual st f fd) (S : FnScope N ps (defScope st))
    (many : ∀ vs H Q E, sp vs H Q E → vs.length = ps.length)
    (body : ∀ (cdv : Value) (A : Around) (fr : List Env) (s : Shared) (H : Hp) (vs : List V) (Q : VK) (E : XK), A.guards = some [] → Room k (A.deeper (envOfC qual (defScope st) s.heap.objs.size f cdv)) → sp vs H Q E →
      ∃ t, PSs (cxOf CX0 P w K mg bs N qual (defScope st) f cdv A fr s H E).nox (defBody st) t ∧ t ⟨fun _ H' => Q .non H', Q, fun _ _ => False, fun _ _ => False⟩ (start N vs) H) : FnG P w K mg bs CX0 (k + 1) f fd ps sp :=
  okG F S many fun cdv A fr s H vs Q E g r h => by
    obtain ⟨t, p, q⟩ := body cdv A fr s H vs Q E g r h
    exact ⟨t, p.nox, q⟩
section
variable {X : Cx} {CX : CXT} {k : Nat} {f : Addr} {fd : FuncData} {ps : List Str} {sp : Sp} {ds : List Value} {dvs : List V} {E : XK}
theorem runG {pins : List (Addr × Obj)} {σ : L2.St} {H : Hp} {s : Shared} {Q : VK} {us : List Value} {vs : List V} (F : FnG X.prog X.w X.K X.mg X.base CX k f fd ps sp) (nothing : X.A.guards = some []) (room : Room k X.A) (hb : Binds X.K fd ps ds)
    (hd : Vals dvs ds) (out : Passes CX X E) (I : Inv X pins σ H s) (r : Vals vs us) (told : sp (vs ++ dvs) H Q E) : wpAny (model X.prog X.w) X.A (call (.ref f) us) (EP X pins σ Q) X.xe s := by
  have rel : Vals (vs ++ dvs) (us ++ ds) := r.append hd
  have size : (us ++ ds).length = ps.length := rel.length ▸ F.many _ _ _ _ told
  refine wpAny_call (codeAny_mono (F.go X.A nothing room X.stack s H _ _ _ Q E I.env0 (hb s us I.kIn size) rel told) fun res s2 z => ?_)
  match res, z with
  | .error e, z => exact out pins σ H s e s2 I z
  | .ok (.ret u), z => exact I.after z
  | .ok .next, z => exact z.elim
  | .ok .brk, z => exact z.elim
  | .ok .cont, z => exact z.elim
theorem pe_callG {x : Str} {p pos : Pos} {e : Expr} {es : List Expr} {t : TA} (F : FnG X.prog X.w X.K X.mg X.base CX k f fd ps sp) (nothing : X.A.guards = some []) (room : Room k X.A) (hg : Gl X x) (hm : X.mg x = some (.ref f)) (kp : PySem.W.keepIn X.K (.ref f) = true)
    (hb : Binds X.K fd ps ds) (hd : Vals dvs ds) (out : Passes CX X E) (ha : PA X (e :: es) t) (nd : (x == ("__debug__" : Str)) = false := by decide) (he : starEach (e :: es) X.env = (false, eval e X.env) :: starEach es X.env := by rfl)
    (hpl : (backTo pos (starEach es X.env)).any (·.1) = false := by rfl) : PE X (.Call (.Name x p) (e :: es) [] pos) (tCall sp dvs E t) := by
  refine ⟨fun pins s σ H Q I told => wpAny_Call_Name_kw (ld_glob I hg hm ?_ nd)⟩
  refine PySem.W.callWith_K (h₀ := X.base) I.ok.mod.kin kp (thn (ha.run pos pins s σ H _ I told) ?_) he hpl
  rintro us s1 ⟨vs, H1, J, r, q⟩
  exact ⟨J.kIn, runG F nothing room hb hd out J r q⟩
end
/-! ### what is shown by repr: plain data, whose lists and dicts were made by the law -/
def kD : Key → PyData
  | .inl i => .int i
  | .inr x => .str x
mutual
inductive Sh (H : Hp) : V → PyData → Prop
  | non : Sh H .non .none
  | bl (b : Bool) : Sh H (.bl b) (.bool b)
  | int (i : Int) : Sh H (.int i) (.int i)
  | str (x : Str) : Sh H (.str x) (.str x)
  | lst {a : Addr} {xs : List V} {ds : List PyData} : H a = some (.lst xs) → a ≠ sysModules → ShAll H xs ds → Sh H (.ref a) (.list ds)
  | tup {a : Addr} {xs : List V} {ds : List PyData} : H a = some (.tup xs) → ShAll H xs ds → Sh H (.ref a) (.tuple ds)
  | dic {a : Addr} {kvs : List (Key × V)} {ds : List PyData} : H a = some (.dK kvs) → ShAll H (kvs.map (·.2)) ds → Sh H (.ref a) (.dict ((kvs.map fun kv => kD kv.1).zip ds))
inductive ShAll (H : Hp) : List V → List PyData → Prop
  | nil : ShAll H [] []
  | cons {v : V} {vs : List V} {d : PyData} {ds : List PyData} : Sh H v d → ShAll H vs ds → ShAll H (v :: vs) (d :: ds)
end
theorem ShAll.length {H : Hp} : ∀ {vs : List V} {ds : List PyData}, ShAll H vs ds → vs.length = ds.length
  | _, _, .nil => rfl
  | _, _, .cons _ t => by rw [List.length_cons, List.length_cons, t.length]
mutual
theorem Sh.same {H H' : Hp} (s : Same H H') : ∀ {v : V} {d : PyData}, Sh H v d → Sh H' v d
  | _, _, .non => .non
  | _, _, .bl b => .bl b
  | _, _, .int i => .int i
  | _, _, .str x => .str x
  | _, _, .lst h n t => .lst (s _ _ h) n (t.same s)
  | _, _, .tup h t => .tup (s _ _ h) (t.same s)
  | _, _, .dic h t => .dic (s _ _ h) (t.same s)
theorem ShAll.same {H H' : Hp} (s : Same H H') : ∀ {vs : List V} {ds : List PyData}, ShAll H vs ds → ShAll H' vs ds
  | _, _, .nil => .nil
  | _, _, .cons h t => .cons (h.same s) (t.same s)
end
/-- the name of the class of such data -/
def tyD : PyData → String
  | .none => "NoneType"
  | .bool _ => "bool"
  | .int _ => "int"
  | .str _ => "str"
  | .list _ => "list"
  | .tuple _ => "tuple"
  | .dict _ => "dict"
theorem Sh.ty {K : PySem.W.Frag} {H : Hp} {v : V} {d : PyData} (h : Sh H v d) : TyX K H v (.type (tyD d)) := by
  cases h with
  | non => exact .base .non
  | bl b => exact .base (.bl b)
  | int i => exact .base (.int i)
  | str x => exact .base (.str x)
  | lst h _ _ => exact .base (.lst h)
  | tup h _ => exact .base (.tup h)
  | dic h _ => exact .base (.dK h)
section
variable {X : Cx} {pins : List (Addr × Obj)} {σ : L2.St} {H : Hp} {s : Shared}
theorem pairs_keys {P : Program} {w : World} {h : Heap} : ∀ {es : List DictEntry} {kvs : List (Key × Value)}, Pairs (mixKind P w) es kvs → ReadsAll h (es.map (·.key)) (kvs.map fun kv => kD kv.1) []
  | _, _, .nil => .nil
  | _, _, .cons (kv := kv) hk _ t => by
    have r := pairs_keys (h := h) t
    rcases keyIs_shape (k := kv.1) hk with ⟨i, u, e1, e2⟩ | ⟨x, u, e1, e2⟩
    · rw [List.map_cons, List.map_cons, e1, e2]
      exact ReadsAll.cons (as := []) (.int i u) r
    · rw [List.map_cons, List.map_cons, e1, e2]
      exact ReadsAll.cons (as := []) (.str x u) r
theorem pairs_vals {P : Program} {w : World} : ∀ {es : List DictEntry} {kvs : List (Key × Value)}, Pairs (mixKind P w) es kvs → es.map (·.val) = kvs.map (·.2)
  | _, _, .nil => rfl
  | _, _, .cons _ hv t => by rw [List.map_cons, List.map_cons, hv, pairs_vals t]
theorem kv_rel : ∀ {kvs : List (Key × V)} {vs : List (Key × Value)}, KV kvs vs → kvs.map (·.1) = vs.map (·.1) ∧ Vals (kvs.map (·.2)) (vs.map (·.2))
  | _, _, .nil => ⟨rfl, .nil⟩
  | _, _, .cons h t => by
    obtain ⟨a, b⟩ := kv_rel t
    exact ⟨by rw [List.map_cons, List.map_cons, a, h.1], .cons h.2 b⟩
mutual
theorem Sh.reads (I : Inv X pins σ H s) : ∀ (v : V) (d : PyData) (u : Value), Sh H v d → RelV v u → ∃ as, Reads s.heap u d as ∧ sysModules ∉ as
  | _, _, _, .non, r => by cases r; exact ⟨_, .none, List.not_mem_nil⟩
  | _, _, _, .bl b, r => by cases r; exact ⟨_, .bool b, List.not_mem_nil⟩
  | _, _, _, .int i, r => by obtain ⟨t, rfl⟩ := r; exact ⟨_, .int i t, List.not_mem_nil⟩
  | _, _, _, .str x, r => by obtain ⟨t, rfl⟩ := r; exact ⟨_, .str x t, List.not_mem_nil⟩
  | _, _, _, .lst (a := a) (xs := xs) h n t, r => by
    cases r
    obtain ⟨_, its, c, rv, ho⟩ := (show ObjOk X.prog X.w H s.heap a (.lst xs) from I.hok a _ h)
    obtain ⟨as, q, m⟩ := ShAll.reads I _ _ its t rv
    exact ⟨_, .list ho rfl rfl (by simpa using q), fun z => (List.mem_cons.mp z).elim (fun e => n e.symm) m⟩
  | _, _, _, .tup (a := a) (xs := xs) h t, r => by
    cases r
    obtain ⟨_, its, rv, o, ho, hc, c, hd⟩ := (show ObjOk X.prog X.w H s.heap a (.tup xs) from I.hok a _ h)
    obtain ⟨as, q, m⟩ := ShAll.reads I _ _ its t rv
    exact ⟨_, .tuple ho hc hd (by simpa using q), m⟩
  | _, _, _, .dic (a := a) (kvs := kvs) (ds := ds) h t, r => by
    cases r
    obtain ⟨_, low, vs, rel, o, es, ep, ho, hx, hd, _, hp, _⟩ := (show ObjOk X.prog X.w H s.heap a (.dK kvs) from I.hok a _ h)
    obtain ⟨rk, rv⟩ := kv_rel rel
    obtain ⟨as, q, m⟩ := ShAll.reads I _ _ (vs.map (·.2)) t rv
    have k1 : (kvs.map fun kv => kD kv.1) = vs.map fun kv => kD kv.1 := by
      have := congrArg (List.map kD) rk
      rw [List.map_map, List.map_map] at this
      exact this
    have ln : (kvs.map fun kv => kD kv.1).length = ds.length := by
      have := t.length
      rw [List.length_map] at this
      rw [List.length_map, this]
    refine ⟨_, .dict (as := []) (bs := as) ho hx.1 hd ?_ ?_, ?_⟩
    · rw [List.map_fst_zip (Nat.le_of_eq ln), k1]
      exact pairs_keys hp
    · rw [List.map_snd_zip (Nat.le_of_eq ln.symm), pairs_vals hp]
      exact q
    · intro z
      rcases List.mem_cons.mp z with e | e
      · exact absurd low (by rw [← e]; simp)
      · exact m e
theorem ShAll.reads (I : Inv X pins σ H s) : ∀ (vs : List V) (ds : List PyData) (us : List Value), ShAll H vs ds → Vals vs us → ∃ as, ReadsAll s.heap us ds as ∧ sysModules ∉ as
  | _, _, _, .nil, r => by cases r; exact ⟨_, .nil, List.not_mem_nil⟩
  | _, _, _, .cons h t, r => by
    cases r with
    | cons r1 r2 =>
      obtain ⟨as, q1, m1⟩ := Sh.reads I _ _ _ h r1
      obtain ⟨bs, q2, m2⟩ := ShAll.reads I _ _ _ t r2
      exact ⟨_, .cons q1 q2, fun z => (List.mem_append.mp z).elim m1 m2⟩
end
end
def rRepr : List V → Hp → VK → Prop := fun xs H Q => ∃ x d, xs = [x] ∧ Sh H x d ∧ d.showable = true ∧ d.shown.length ≤ sizeLine ∧ d.depth ≤ 50 ∧ Q (.str d.shown) H
theorem call_repr {X : Cx} (nothing : X.A.guards = some []) (hu : X.A.units + 64 < cLine) : CallR X (.builtin "repr") rRepr := by
  intro pins s σ H xs us Q I r h
  obtain ⟨x, d, rfl, sh, able, fits, deep, q⟩ := h
  cases r with
  | @cons _ u _ _ r1 r2 =>
    cases r2
    obtain ⟨as, rd, low⟩ := Sh.reads I _ _ _ sh r1
    have fin : ∀ h' t tk, (∀ b o, s.heap.get? b = some o → h'.get? b = some o) → EP X pins σ Q (.str d.shown t) { s with heap := h', toks := tk } := fun h' t tk kept => ⟨.str d.shown, H, I.kept kept, ⟨t, rfl⟩, q⟩
    cases sh with
    | non => cases r1; exact PySem.P.repr_of_none (fin _ _ _ fun _ _ z => z)
    | bl b => cases r1; exact PySem.P.repr_of_bool (fin _ _ _ fun _ _ z => z)
    | int i => obtain ⟨t, rfl⟩ := r1; exact PySem.P.repr_of_int (of_decide_eq_true able) (fin _ _ _ fun _ _ z => z)
    | str x => obtain ⟨t, rfl⟩ := r1; exact PySem.P.repr_of_str (fin _ _ _ fun _ _ z => z) fits
    | lst _ _ _ => cases r1; exact repr_of_reads' rd able (fun _ => low) nothing (by omega) (fun _ _ z => z) fin fits
    | tup _ _ => cases r1; exact repr_of_reads' rd able (fun _ => low) nothing (by omega) (fun _ _ z => z) fin fits
    | dic _ _ => cases r1; exact repr_of_reads' rd able (fun _ => low) nothing (by omega) (fun _ _ z => z) fin fits
/-- a display's list is none of the interpreter's own -/
def tLstN (t : TA) : TE := fun σ H Q => t σ H fun xs H1 => xs.length ≤ sizeLine ∧ ∀ p, H1 p = none → p ≠ sysModules → Q (.ref p) (upd H1 p (.lst xs))
theorem pe_lstN {X : Cx} {es : List Expr} {t : TA} {pos : Pos} (h : PA X es t) : PE X (.List es pos) (tLstN t) := by
  refine ⟨fun pins s σ H Q I told => wpAny_List_spliced (thn (h.run pos pins s σ H _ I told) ?_)⟩
  rintro us s1 ⟨xs, H1, J, r, small, q⟩
  have free : H1 s1.heap.objs.size = none := J.hok.fresh (Nat.le_refl _)
  refine ⟨by rw [← r.length]; exact small, .ref s1.heap.objs.size, upd H1 s1.heap.objs.size (.lst xs), J.laid (t' := s1.toks) (fun b u z => Heap.get?_push_of_some _ z) (Nat.le_refl _) ⟨small, us, 0, r, Heap.get?_push_size _ rfl⟩, rfl, q _ free (Nat.ne_of_gt J.big)⟩
/-! ### the end of a law whose defs are called where nothing is being shown -/
theorem law_G {P : Program} {w : World} {K : PySem.W.Frag} {mg mb : Str → Option Value} {CX : CXT} {k : Nat} {fa a : Addr} {fd : FuncData} {x : Str} {sp : Sp} {s : Shared} {vs : List Value} {ns : List Int}
    (inK : K.In s.heap) (gl : s.heap.Ns mainGlobals mg) (bl : s.heap.Ns builtinsNs mb) (boot : ∀ y : Str, y ≠ "__name__" → mb y = bootBuiltins y) (lim : s.heap.NoLimit) (ng : s.gens = #[])
    (at_ : s.heap.get? a = some { cls := .type "list", data := .seq vs.toArray }) (are : IntsAre vs ns) (small : ns.length ≤ sizeLine) (room : Room k callerA)
    (F : ∀ bs : Heap, K.In bs → bs.Ns mainGlobals mg → FnG P w K mg bs CX k fa fd [x] sp) (bound : ∀ (s : Shared) (u : Value), BindsTo s fd ⟨[u], []⟩ [(x, u)])
    (told : ∀ H : Hp, Only H → SqL K H a (ns.map V.int) → sp [.ref a] H (fun v _ => v = .bl true) fun _ _ _ => False)
    (noX : ∀ H e s', CX [] H s (fun _ _ _ => False) e s' → False) :
    codeAny (model P w) callerA (.call (.ref fa) ⟨[.ref a], []⟩) (fun r s' => r = .ok (.ret (.bool true)) ∧ OldK s.heap s'.heap ∧ s'.os = s.os ∧ AllBare s'.gens) s := by
  have main : ∀ H : Hp, Only H → SqL K H a (ns.map V.int) → HOk P w H s.heap → (∀ b, H b ≠ none → b = a) → (H a ≠ none → K.lookup a = none) →
      codeAny (model P w) callerA (.call (.ref fa) ⟨[.ref a], []⟩) (fun r s' => r = .ok (.ret (.bool true)) ∧ OldK s.heap s'.heap ∧ s'.os = s.os ∧ AllBare s'.gens) s := by
    intro H only list ok alone out
    have seen : ∀ {b : Addr} {o : Obj}, s.heap.get? b = some o → H b = none → (hidT s.heap H).get? b = some o := fun z n => hidT_get z n
    have dict : ∀ {b : Addr} {o : Obj} {es : Array DictEntry} {ep : Nat}, s.heap.get? b = some o → o.data = .dict es ep → H b = none := by
      intro b o es ep z dz
      refine Classical.byContradiction fun some_ => ?_
      have eb := alone b some_
      rw [eb, at_] at z
      cases z
      cases (show Data.seq vs.toArray _ = Data.dict es ep from dz)
    have names : ∀ {b : Addr} {m : Str → Option Value}, s.heap.Ns b m → (hidT s.heap H).Ns b m := by
      rintro b m ⟨o, es, ep, z, dz, rest⟩
      exact ⟨o, es, ep, seen z (dict z dz), dz, rest⟩
    have inB : K.In (hidT s.heap H) := by
      intro b o z
      refine seen (inK b o z) (Classical.byContradiction fun some_ => ?_)
      have eb := alone b some_
      subst eb
      rw [out some_] at z
      cases z
    obtain ⟨ml, l1, l2⟩ := lim
    have mod : Mod K mg (hidT s.heap H) := ⟨inB, names gl, ⟨mb, names bl, boot⟩, ⟨ml, names l1, l2⟩⟩
    have env : Env0 P w K mg (hidT s.heap H) callerA [] s H := { frames := rfl, mod := mod, bs := fun b o z => of_hidT z, bsz := Nat.le_of_eq (hidT_size _ _), funs := trivial, frf := (fun b hb => by cases (show b ∈ ([] : List Addr) from hb)), hok := ok, bare := .of_eq ng }
    refine codeAny_mono ((F _ inB (names gl)).go callerA rfl room [] s H _ [.ref a] [.ref a] _ _ env (bound s (.ref a)) (.cons rfl .nil) (told H only list)) fun r s2 z => ?_
    match r, z with
    | .error e, z => exact (noX H e s2 z).elim
    | .ok .next, z => exact z.elim
    | .ok .brk, z => exact z.elim
    | .ok .cont, z => exact z.elim
    | .ok (.ret u), ⟨v, H2, os, bare, un, ok2, rel, q⟩ =>
      cases (show v = V.bl true from q)
      cases (show u = Value.bool true from rel)
      refine ⟨rfl, OldK.of_keep fun b o z => ?_, os, bare⟩
      by_cases hb : H b = none
      · exact un.keep b o z hb (fun m => by cases (show b ∈ ([] : List Addr) from m)) (fun m => by cases m)
      · rcases only b with n | ⟨ob, xs, f⟩
        · exact absurd n hb
        · have o1 := (ok b _ f).1
          have o2 := (ok2 b _ (un.frzs b ob _ f)).1
          rw [z] at o1
          rw [Option.some.inj o1]
          exact o2
  have rel := vals_ints are
  cases hk : K.lookup a with
  | some o =>
    have z := inK a o hk
    rw [at_] at z
    cases z
    exact main (fun _ => none) (fun _ => .inl rfl) (.inr ⟨_, vs.toArray, _, hk, rfl, rfl, rfl, by rw [List.size_toArray, are.length]; exact small, by simpa using rel⟩) (fun b u z => by cases z) (fun b z => absurd rfl z) fun z => absurd rfl z
  | none =>
    have on : ∀ b : Addr, b = a → (if b = a then some (HO.frz { cls := .type "list", data := .seq vs.toArray } (.lst (ns.map V.int))) else none) = some (HO.frz { cls := .type "list", data := .seq vs.toArray } (.lst (ns.map V.int))) := fun b e => if_pos e
    refine main (fun b => if b = a then some (.frz { cls := .type "list", data := .seq vs.toArray } (.lst (ns.map V.int))) else none) (fun b => ?_) (.inl (.inr ⟨_, on a rfl⟩)) (fun b u z => ?_) (fun b z => ?_) fun _ => hk
    · rcases Classical.em (b = a) with e | e
      · exact .inr ⟨_, _, on b e⟩
      · exact .inl (if_neg e)
    · rcases Classical.em (b = a) with e | e
      · have := (on b e).symm.trans z
        cases this
        subst e
        exact ⟨at_, by rw [List.length_map]; exact small, vs, _, rel, at_⟩
      · have := (if_neg e).symm.trans z
        cases this
    · exact Classical.byContradiction fun e => z (if_neg e)
theorem walk_G {l : PySem.W.OpenLaw} {n k : Nat} {q : Program} {loose : List Str} {XP : (Str → Option Value) → Heap → Prop} {YP : World → Heap → Prop} {d : DefRec} {K : Params → PySem.W.Frag} {CX : World → CXT} {sp : World → Sp} {x : Str}
    (most : l.most = some n) (small : n ≤ sizeLine) (nodef : d.params.defaults = []) (room : Room k callerA) (inK : ∀ (w : World) (h : Heap), YP w h → (K w.params).In h)
    (F : ∀ (w : World) (mg : Str → Option Value) (fa : Addr) (h : Heap), (K w.params).In h → h.Ns mainGlobals mg → mg d.name = some (.ref fa) →
      ∃ fd : FuncData, (∀ (s : Shared) (u : Value), BindsTo s fd ⟨[u], []⟩ [(x, u)]) ∧ ∀ bs : Heap, (K w.params).In bs → bs.Ns mainGlobals mg → FnG l.prog w (K w.params) mg bs (CX w) k fa fd [x] (sp w))
    (told : ∀ (w : World) (H : Hp) (a : Addr) (ns : List Int), ns.length ≤ n → Only H → SqL (K w.params) H a (ns.map V.int) → sp w [.ref a] H (fun v _ => v = .bl true) fun _ _ _ => False)
    (noX : ∀ (w : World) (H : Hp) (s : Shared) (e : Value) (s' : Shared), CX w [] H s (fun _ _ _ => False) e s' → False) :
    PySem.W.WalkO q loose XP YP l.row.toRowW d [] (fun f vs => PySem.call f vs) := by
  refine Att.attach_call most nodef fun w s₀ s₁ mg mb fa o pm cd doc a vs ns G Y ho hd hcd hmg hobj hints hlen hg => ?_
  obtain ⟨fd, bound, FG⟩ := F w mg fa _ (inK w _ Y) G.T.g hmg
  exact law_G (inK w _ Y) G.T.g G.T.b G.T.builtins G.T.nolimit hg hobj hints (Nat.le_trans hlen small) room FG bound (fun H only list => told w H a ns hlen only list) fun H e s2 => noX w H s₁ e s2

section
variable {P : Program} {w : World} {K : PySem.W.Frag} {mg : Str → Option Value} {base : Heap}
/-! ### sizes of what is shown -/
def fineB (n m : Nat) (d : PyData) : Bool := d.showable && (d.leavesShort 200 && (decide (d.weight ≤ n) && decide (d.depth ≤ m)))
theorem fine_iff {n m : Nat} {d : PyData} : fineB n m d = true ↔ d.showable = true ∧ d.leavesShort 200 = true ∧ d.weight ≤ n ∧ d.depth ≤ m := by
  unfold fineB
  rw [Bool.and_eq_true, Bool.and_eq_true, Bool.and_eq_true, decide_eq_true_eq, decide_eq_true_eq]
theorem fine_mono {n m n' m' : Nat} {d : PyData} (h : fineB n m d = true) (a : n ≤ n') (b : m ≤ m') : fineB n' m' d = true := by
  obtain ⟨h1, h2, h3, h4⟩ := fine_iff.mp h
  exact fine_iff.mpr ⟨h1, h2, Nat.le_trans h3 a, Nat.le_trans h4 b⟩
theorem fine_fits {n m : Nat} {d : PyData} (h : fineB n m d = true) (hn : n ≤ 50000) : d.shown.length ≤ sizeLine := by
  obtain ⟨_, h2, h3, _⟩ := fine_iff.mp h
  have := PyData.shown_le 200 (by decide) d h2
  have e : sizeLine = 16777216 := by decide
  rw [e]
  omega
theorem fine_all {n m : Nat} : ∀ {ds : List PyData}, (∀ d ∈ ds, fineB n m d = true) → PyData.showableAll ds = true ∧ PyData.leavesShortAll 200 ds = true ∧ PyData.weightAll ds ≤ ds.length * (n + 1) ∧ PyData.depthAll ds ≤ m
  | [], _ => ⟨rfl, rfl, Nat.zero_le _, Nat.zero_le _⟩
  | d :: r, h => by
    obtain ⟨a1, a2, a3, a4⟩ := fine_iff.mp (h d (List.mem_cons_self ..))
    obtain ⟨b1, b2, b3, b4⟩ := fine_all (ds := r) fun x hx => h x (List.mem_cons_of_mem _ hx)
    refine ⟨?_, ?_, ?_, ?_⟩
    · unfold PyData.showableAll
      rw [a1, b1]
      rfl
    · unfold PyData.leavesShortAll
      rw [a2, b2]
      rfl
    · unfold PyData.weightAll
      rw [List.length_cons, Nat.succ_mul]
      omega
    · unfold PyData.depthAll
      omega
theorem fine_tup {n m k : Nat} {ds : List PyData} (h : ∀ d ∈ ds, fineB n m d = true) (hk : ds.length ≤ k) : fineB (k * (n + 1)) (m + 1) (.tuple ds) = true := by
  obtain ⟨b1, b2, b3, b4⟩ := fine_all h
  refine fine_iff.mpr ⟨b1, b2, ?_, ?_⟩
  · show PyData.weightAll ds ≤ _
    exact Nat.le_trans b3 (Nat.mul_le_mul_right _ hk)
  · show PyData.depthAll ds + 1 ≤ _
    omega
theorem fine_lst {n m k : Nat} {ds : List PyData} (h : ∀ d ∈ ds, fineB n m d = true) (hk : ds.length ≤ k) : fineB (k * (n + 1)) (m + 1) (.list ds) = true := by
  obtain ⟨b1, b2, b3, b4⟩ := fine_all h
  refine fine_iff.mpr ⟨b1, b2, ?_, ?_⟩
  · show PyData.weightAll ds ≤ _
    exact Nat.le_trans b3 (Nat.mul_le_mul_right _ hk)
  · show PyData.depthAll ds + 1 ≤ _
    omega
/-! ### heaps without some places -/
def hid (as : List Addr) (H : Hp) : Hp := fun b => if b ∈ as then none else H b
theorem hid_at {as : List Addr} {H : Hp} {b : Addr} (h : b ∉ as) : hid as H b = H b := if_neg h
theorem hid_in {as : List Addr} {H : Hp} {b : Addr} (h : b ∈ as) : hid as H b = none := if_pos h
theorem hid_le {as : List Addr} {H : Hp} : Same (hid as H) H := fun b o e => by
  by_cases h : b ∈ as
  · rw [hid_in h] at e; cases e
  · rw [hid_at h] at e; exact e
theorem hid_sub {as bs : List Addr} {H : Hp} (h : ∀ b ∈ bs, b ∈ as) : Same (hid as H) (hid bs H) := fun b o e => by
  by_cases ha : b ∈ as
  · rw [hid_in ha] at e; cases e
  · rw [hid_at ha] at e
    rw [hid_at (fun z => ha (h b z))]
    exact e
theorem hid_same {as : List Addr} {H H' : Hp} (s : Same H H') : Same (hid as H) (hid as H') := fun b o e => by
  by_cases ha : b ∈ as
  · rw [hid_in ha] at e; cases e
  · rw [hid_at ha] at e ⊢
    exact s _ _ e
theorem hid_fr {as : List Addr} {d l : Addr} {H H' : Hp} (f : Fr d l H H') (hd : d ∈ as) (hl : l ∈ as) : Same (hid as H) (hid as H') := fun b o e => by
  by_cases ha : b ∈ as
  · rw [hid_in ha] at e; cases e
  · rw [hid_at ha] at e ⊢
    exact f _ _ (fun z => ha (z ▸ hd)) (fun z => ha (z ▸ hl)) e
theorem hid_upd {as : List Addr} {H : Hp} {p : Addr} {o : HO} (h : p ∈ as) : Same (hid as H) (hid as (upd H p o)) := fun b x e => by
  by_cases ha : b ∈ as
  · rw [hid_in ha] at e; cases e
  · rw [hid_at ha] at e ⊢
    rw [upd_ne (show b ≠ p from fun z => ha (by rw [z]; exact h))]
    exact e
theorem ShAll.get {H : Hp} : ∀ {xs : List V} {ds : List PyData} {j : Nat} {x : V}, ShAll H xs ds → xs[j]? = some x → ∃ d, ds[j]? = some d ∧ Sh H x d
  | _, _, _, _, .nil, h => by simp at h
  | _, _, 0, _, .cons (d := d) a _, h => by
    cases (Option.some.inj h)
    exact ⟨d, rfl, a⟩
  | _, _, j + 1, _, .cons _ t, h => t.get h
theorem ShAll.append {H : Hp} : ∀ {xs ys : List V} {ds es : List PyData}, ShAll H xs ds → ShAll H ys es → ShAll H (xs ++ ys) (ds ++ es)
  | _, _, _, _, .nil, t => t
  | _, _, _, _, .cons a r, t => .cons a (r.append t)
theorem ShAll.take {H : Hp} : ∀ {xs : List V} {ds : List PyData} (n : Nat), ShAll H xs ds → ShAll H (xs.take n) (ds.take n)
  | _, _, 0, _ => by rw [List.take_zero, List.take_zero]; exact .nil
  | _, _, n + 1, .nil => .nil
  | _, _, n + 1, .cons a r => .cons a (r.take n)
theorem ShAll.drop {H : Hp} : ∀ {xs : List V} {ds : List PyData} (n : Nat), ShAll H xs ds → ShAll H (xs.drop n) (ds.drop n)
  | _, _, 0, h => h
  | _, _, n + 1, .nil => .nil
  | _, _, n + 1, .cons _ r => r.drop n
theorem ShAll.set {H : Hp} {y : V} {e : PyData} (h : Sh H y e) : ∀ {xs : List V} {ds : List PyData} (j : Nat), ShAll H xs ds → ShAll H (xs.set j y) (ds.set j e)
  | _, _, _, .nil => .nil
  | _, _, 0, .cons _ r => .cons h r
  | _, _, j + 1, .cons a r => .cons a (ShAll.set h j r)
theorem ShAll.erase {H : Hp} : ∀ {xs : List V} {ds : List PyData} (j : Nat), ShAll H xs ds → ShAll H (xs.eraseIdx j) (ds.eraseIdx j)
  | _, _, _, .nil => .nil
  | _, _, 0, .cons _ r => r
  | _, _, j + 1, .cons a r => .cons a (r.erase j)
theorem Deck.out {H H' : Hp} {d l p : Addr} (D : Deck H d l) (s : Same H H') (n : H' p = none) : p ∉ [d, l] := by
  obtain ⟨a, b⟩ := (D.same s).ne_new n
  intro h
  rcases List.mem_cons.mp h with h | h
  · exact a h
  · rcases List.mem_cons.mp h with h | h
    · exact b h
    · cases h
theorem upd2_same {H : Hp} {p : Addr} {o o' : HO} (h : H p = none) : Same H (upd (upd H p o) p o') := fun b x e => by
  rw [upd_ne (ne_of_none e h), upd_ne (ne_of_none e h)]
  exact e
theorem at_some {xs : List V} {j : Int} (h0 : 0 ≤ j) (h1 : j < xs.length) : ∃ (k : Nat) (x : V), k < xs.length ∧ xs[k]? = some x ∧ atI xs j = some x ∧ ixN xs.length j = some k ∧ j = (k : Int) := by
  obtain ⟨k, rfl⟩ : ∃ k : Nat, j = (k : Int) := ⟨j.toNat, (Int.toNat_of_nonneg h0).symm⟩
  have hk : k < xs.length := by omega
  refine ⟨k, xs[k], hk, List.getElem?_eq_getElem hk, atI_nat (List.getElem?_eq_getElem hk), ?_, rfl⟩
  unfold ixN
  rw [if_pos h0, if_pos h1]
  rfl

/-! ### the deck -/
def sp_deck (K : PySem.W.Frag) : Sp := fun vs H Q _ => ∃ (a : Addr) (ns : List Int), vs = [.ref a] ∧ SqL K H a (ns.map V.int) ∧ ns.length ≤ 63 ∧ ∀ H' d l, Same H H' → Deck H' d l → Q (.ref d) H'
theorem cut63 {ns : List Int} (h : ns.length ≤ 63) : cutV (ns.map V.int) none (some 63) = ns.map V.int := by
  unfold cutV
  have e : HT.sIx (ns.map V.int).length (ns.map V.int).length (some 63) = min 63 (ns.map V.int).length := HT.sIx_nat _ _ 63
  rw [HT.sIx_none, e, List.length_map, List.drop_zero]
  apply List.take_of_length_le
  rw [List.length_map]
  omega
theorem ok_deck (T : Tx K mg) : FnOk P w K mg base CX0 1 T.f_deck T.fd_deck ["_law_script"] (sp_deck K) := by
  refine T.F_deck.ok sc_deck (fun vs H Q E h => ?_) (fun cdv A outer s H vs Q E hr h => ?_)
  · obtain ⟨a, ns, rfl, _⟩ := h
    rfl
  · obtain ⟨a, ns, rfl, hS, hlen, q⟩ := h
    refine ⟨_, (pss_cons (ps_set (i := 1) sc_deck.nd rfl (by first | exact .inl rfl | exact .inr rfl) (pe_op op_add pe_int (pe_op op_mod (pe_callB (cr_sum rfl) (by rfl) T.m_sum (by decide +kernel) (pa_cons (pe_slice sl_list (pv 0) po_none (po_some pe_int)) pa_nil)) pe_int))) (pss_one (ps_ret (pe_lst (pa_cons (pe_callTy call_list_of (by rfl) T.m_list (by decide +kernel) (pa_cons (pe_slice sl_list (pv 0) po_none (po_some pe_int)) pa_nil)) (pa_cons (pv 1) pa_nil)))))), ?_⟩
    refine ⟨.ref a, rfl, 63, rfl, a, _, rfl, hS, fun c nc => ?_⟩
    rw [cut63 hlen]
    have s1 : Same H (upd H c (.lst (ns.map V.int))) := same_upd nc
    refine ⟨c, ns, rfl, SqL.of upd_same, _, _, rfl, rfl, p29, _, _, rfl, rfl, ?_⟩
    refine ⟨.ref a, rfl, 63, rfl, a, _, rfl, s1.seq hS, fun c2 nc2 => ?_⟩
    rw [cut63 hlen]
    refine ⟨c2, _, rfl, .inl (SqL.of upd_same), fun l nl => ?_⟩
    refine ⟨_, rfl, sl2, fun d nd => ?_⟩
    have nld : l ≠ d := fun e => by rw [← e, upd_same] at nd; cases nd
    refine q _ d l (((s1.trans (same_upd nc2)).trans (same_upd nl)).trans (same_upd nd)) ⟨nld.symm, ns, _, upd_same, (by rw [upd_ne nld, upd_same]), hlen, ?_, ?_⟩
    · have := Int.emod_nonneg ns.sum (show (2147483629 : Int) ≠ 0 by decide)
      omega
    · have := Int.emod_lt_of_pos ns.sum (show (0 : Int) < 2147483629 by decide)
      omega
/-! ### a draw -/
def sp_draw (K : PySem.W.Frag) : Sp := fun vs H Q _ => ∃ (d l : Addr) (m : Int), vs = [.ref d, .int m] ∧ Deck H d l ∧ 0 < m ∧ m < 1073741824 ∧ ∀ H' v, Deck H' d l → Fr d l H H' → 0 ≤ v → v < m → Q (.int v) H'
theorem ok_draw (T : Tx K mg) : FnOk P w K mg base CX0 1 T.f_draw T.fd_draw ["_law_deck_here", "_law_most"] (sp_draw K) := by
  refine T.F_draw.ok sc_draw (fun vs H Q E h => ?_) (fun cdv A outer s H vs Q E hr h => ?_)
  · obtain ⟨d, l, m, rfl, _⟩ := h
    rfl
  · obtain ⟨d, l, m, rfl, D, hm0, hm1, q⟩ := h
    obtain ⟨ne, cs, z, hd, hl, hcs, hz0, hz1⟩ := D
    refine ⟨_, (pss_cons (ps_if (pt_cmpR (op_eqD hr.units) (pe_ix ix_list (pv 0) pe_int (fun _ _ => rfl)) (pe_lst pa_nil) (nomark _)) (pss_cons (ps_asg (pe_op op_mod (pe_op op_add (pe_op op_add (pe_op op_mul (pe_ix ix_list (pv 0) pe_int (fun _ _ => rfl)) (pe_ix ix_list (pv 0) pe_int (fun _ _ => rfl))) (pe_op op_mul pe_int (pe_ix ix_list (pv 0) pe_int (fun _ _ => rfl)))) pe_int) pe_int) (pg_sub (pv 0) pe_int set_list)) (pss_cons (ps_asg (pe_op op_mod (pe_op op_add (pe_op op_add (pe_op op_mul (pe_ix ix_list (pv 0) pe_int (fun _ _ => rfl)) (pe_ix ix_list (pv 0) pe_int (fun _ _ => rfl))) (pe_op op_mul pe_int (pe_ix ix_list (pv 0) pe_int (fun _ _ => rfl)))) pe_int) pe_int) (pg_sub (pv 0) pe_int set_list)) (pss_one (ps_ret (pe_op op_mod (pe_op op_fdiv (pe_ix ix_list (pv 0) pe_int (fun _ _ => rfl)) pe_int) (pv 1)))))) pss_nil) (pss_cons (ps_set (i := 2) sc_draw.nd rfl (by first | exact .inl rfl | exact .inr rfl) (pe_bm PySem.F.plainAttrs_list PySem.F.slot_list_pop PySem.F.type_list_pop mt_popAt (pe_ix ix_list (pv 0) pe_int (fun _ _ => rfl)) (pa_cons pe_int pa_nil))) (pss_cons (ps_if (pt_cmpR op_ge (pv 2) (pe_op op_pow pe_int pe_int) (nomark _)) (pss_cons (ps_expr (pe_bm PySem.F.plainAttrs_list PySem.F.slot_list_insert PySem.F.type_list_insert mt_insert (pe_ix ix_list (pv 0) pe_int (fun _ _ => rfl)) (pa_cons pe_int (pa_cons (pe_op op_fdiv (pv 2) (pv 1)) pa_nil)))) (pss_one (ps_ret (pe_op op_mod (pv 2) (pv 1))))) pss_nil) (pss_cons (ps_asg (pe_op op_mod (pe_op op_add (pe_ix ix_list (pv 0) pe_int (fun _ _ => rfl)) pe_int) pe_int) (pg_sub (pv 0) pe_int set_list)) (pss_cons (ps_set (i := 3) sc_draw.nd rfl (by first | exact .inl rfl | exact .inr rfl) (pe_op op_mod (pe_op op_add (pe_op op_mul (pe_op op_mod (pv 2) pe_int) pe_int) (pe_ix ix_list (pv 0) pe_int (fun _ _ => rfl))) pe_int)) (pss_one (ps_ret (pe_op op_mod (pe_op op_fdiv (pe_op op_mod (pe_op op_add (pe_op op_mul (pv 3) (pv 3)) (pe_op op_mul pe_int (pv 3))) pe_int) pe_int) (pv 1))))))))), ?_⟩
    -- if deck[0] == []
    refine ⟨.ref d, rfl, d, _, 0, .ref l, rfl, rfl, SqL.of hd, rfl, Nat.zero_le _, fun p np => ?_⟩
    have fr1 : Fr d l H (upd H p (.lst [])) := Fr.new np
    have hd1 : (upd H p (.lst [])) d = some (.lst [.ref l, .int z]) := same_upd np _ _ hd
    have hl1 : (upd H p (.lst [])) l = some (.lst (cs.map V.int)) := same_upd np _ _ hl
    refine ⟨.list (cs.map .int), .list [], .lst (SqL.of hl1) (dpInts cs), .lst (SqL.of upd_same) .nil, shInts cs, rfl, _, rfl, ?_⟩
    revert fr1 hd1 hl1
    generalize upd H p (.lst []) = H1
    intro fr1 hd1 hl1
    cases cs with
    | nil =>
      refine iteT ?_
      -- two stores
      refine ⟨.ref d, rfl, d, _, 1, .int z, rfl, rfl, SqL.of hd1, rfl, .ref d, rfl, d, _, 1, .int z, rfl, rfl, SqL.of hd1, rfl, z, z, rfl, rfl, .inl ⟨by omega, by omega⟩, .ref d, rfl, d, _, 1, .int z, rfl, rfl, SqL.of hd1, rfl, 48271, z, rfl, rfl, .inl ⟨by decide, by decide⟩, _, _, rfl, rfl, _, _, rfl, rfl, _, _, rfl, rfl, p47, .ref d, rfl, d, _, 1, 1, rfl, rfl, hd1, rfl, ?_⟩
      dsimp only
      have y0 := Int.emod_nonneg (z * z + 48271 * z + 11) (show (2147483647 : Int) ≠ 0 by decide)
      have y1 := Int.emod_lt_of_pos (z * z + 48271 * z + 11) (show (0 : Int) < 2147483647 by decide)
      revert y0 y1
      generalize (z * z + 48271 * z + 11) % 2147483647 = y
      intro y0 y1
      have hd2 : (upd H1 d (.lst [.ref l, .int y])) d = some (.lst [.ref l, .int y]) := upd_same
      have hl2 : (upd H1 d (.lst [.ref l, .int y])) l = some (.lst []) := by rw [upd_ne ne.symm]; exact hl1
      have fr2 : Fr d l H (upd H1 d (.lst [.ref l, .int y])) := fr1.trans Fr.d
      refine ⟨.ref d, rfl, d, _, 1, .int y, rfl, rfl, SqL.of hd2, rfl, .ref d, rfl, d, _, 1, .int y, rfl, rfl, SqL.of hd2, rfl, y, y, rfl, rfl, .inl ⟨by omega, by omega⟩, .ref d, rfl, d, _, 1, .int y, rfl, rfl, SqL.of hd2, rfl, 69621, y, rfl, rfl, .inl ⟨by decide, by decide⟩, _, _, rfl, rfl, _, _, rfl, rfl, _, _, rfl, rfl, p29, .ref d, rfl, d, _, 1, 1, rfl, rfl, hd2, rfl, ?_⟩
      dsimp only
      have x0 := Int.emod_nonneg (y * y + 69621 * y + 7) (show (2147483629 : Int) ≠ 0 by decide)
      have x1 := Int.emod_lt_of_pos (y * y + 69621 * y + 7) (show (0 : Int) < 2147483629 by decide)
      revert x0 x1
      generalize (y * y + 69621 * y + 7) % 2147483629 = x
      intro x0 x1
      refine ⟨.ref d, rfl, d, _, 1, .int x, rfl, rfl, SqL.of upd_same, rfl, _, _, rfl, rfl, ⟨by decide, by decide⟩, .int m, rfl, _, _, rfl, rfl, hm0, ?_⟩
      exact q _ _ ⟨ne, [], x, upd_same, (by rw [upd_ne ne.symm]; exact hl2), hcs, by omega, by omega⟩ (fr2.trans Fr.d) (Int.emod_nonneg _ (by omega)) (Int.emod_lt_of_pos _ hm0)
    | cons c r =>
      refine iteF ?_
      -- cell = deck[0].pop(0)
      refine ⟨.ref d, rfl, d, _, 0, .ref l, rfl, rfl, SqL.of hd1, rfl, .inl ⟨rfl, _, SqL.of hl1⟩, l, _, 0, 0, .int c, rfl, rfl, hl1, by decide, by decide, seqIx0 _ _, rfl, ?_⟩
      have hd2 : (upd H1 l (.lst (r.map V.int))) d = some (.lst [.ref l, .int z]) := by rw [upd_ne ne]; exact hd1
      have hl2 : (upd H1 l (.lst (r.map V.int))) l = some (.lst (r.map V.int)) := upd_same
      have fr2 : Fr d l H (upd H1 l (.lst (r.map V.int))) := fr1.trans Fr.l
      have hr63 : r.length + 1 ≤ 63 := hcs
      -- if cell >= 10 ** 18
      refine ⟨.int c, rfl, _, _, rfl, rfl, ⟨by decide, by decide, by decide⟩, _, _, rfl, rfl, _, rfl, ite2 (fun _ => ?_) (fun _ => ?_)⟩
      · refine ⟨.ref d, rfl, d, _, 0, .ref l, rfl, rfl, SqL.of hd2, rfl, .inl ⟨rfl, _, SqL.of hl2⟩, .int c, rfl, .int m, rfl, _, _, rfl, rfl, ⟨hm0, hm1⟩, l, _, 0, _, rfl, rfl, hl2, ?_, by decide, by decide, ?_⟩
        · rw [List.length_map]
          exact Nat.lt_of_lt_of_le (show r.length < 64 by omega) (by decide)
        · refine ⟨.int c, rfl, .int m, rfl, _, _, rfl, rfl, hm0, ?_⟩
          refine q _ _ ⟨ne, c / m :: r, z, (by rw [upd_ne ne]; exact hd2), ?_, hr63, hz0, hz1⟩ (fr2.trans Fr.l) (Int.emod_nonneg _ (by omega)) (Int.emod_lt_of_pos _ hm0)
          rw [upd_same]
          simp
      · refine ⟨.ref d, rfl, d, _, 1, .int z, rfl, rfl, SqL.of hd2, rfl, _, _, rfl, rfl, _, _, rfl, rfl, p29, .ref d, rfl, d, _, 1, 1, rfl, rfl, hd2, rfl, ?_⟩
        dsimp only
        have y0 := Int.emod_nonneg (z + 69621) (show (2147483629 : Int) ≠ 0 by decide)
        have y1 := Int.emod_lt_of_pos (z + 69621) (show (0 : Int) < 2147483629 by decide)
        revert y0 y1
        generalize (z + 69621) % 2147483629 = y
        intro y0 y1
        have u0 := Int.emod_nonneg c (show (2147483647 : Int) ≠ 0 by decide)
        have u1 := Int.emod_lt_of_pos c (show (0 : Int) < 2147483647 by decide)
        refine ⟨.int c, rfl, _, _, rfl, rfl, p47, c % 2147483647, 48271, rfl, rfl, .inl ⟨by omega, by omega⟩, .ref d, rfl, d, _, 1, .int y, rfl, rfl, SqL.of upd_same, rfl, _, _, rfl, rfl, _, _, rfl, rfl, p29, ?_⟩
        dsimp only
        have v0 := Int.emod_nonneg (c % 2147483647 * 48271 + y) (show (2147483629 : Int) ≠ 0 by decide)
        have v1 := Int.emod_lt_of_pos (c % 2147483647 * 48271 + y) (show (0 : Int) < 2147483629 by decide)
        revert v0 v1
        generalize (c % 2147483647 * 48271 + y) % 2147483629 = v
        intro v0 v1
        refine ⟨.int v, rfl, .int v, rfl, v, v, rfl, rfl, .inl ⟨by omega, by omega⟩, .int v, rfl, 16807, v, rfl, rfl, .inl ⟨by decide, by decide⟩, _, _, rfl, rfl, _, _, rfl, rfl, p87, _, _, rfl, rfl, ⟨by decide, by decide⟩, .int m, rfl, _, _, rfl, rfl, hm0, ?_⟩
        exact q _ _ ⟨ne, r, y, upd_same, (by rw [upd_ne ne.symm]; exact hl2), by omega, by omega, by omega⟩ (fr2.trans Fr.d) (Int.emod_nonneg _ (by omega)) (Int.emod_lt_of_pos _ hm0)

/-! ### kinds of data -/
def isIntD : PyData → Bool
  | .int _ => true
  | .bool _ => true
  | _ => false
def isBoolD : PyData → Bool
  | .bool _ => true
  | _ => false
def isTupD : PyData → Bool
  | .tuple _ => true
  | _ => false
def isStrD : PyData → Bool
  | .str _ => true
  | _ => false
theorem kitInt : ∀ d : PyData, kitB (tyD d) "int" = some (isIntD d)
  | .none => (by decide +kernel : kitB "NoneType" "int" = some false)
  | .bool _ => (by decide +kernel : kitB "bool" "int" = some true)
  | .int _ => (by decide +kernel : kitB "int" "int" = some true)
  | .str _ => (by decide +kernel : kitB "str" "int" = some false)
  | .list _ => (by decide +kernel : kitB "list" "int" = some false)
  | .tuple _ => (by decide +kernel : kitB "tuple" "int" = some false)
  | .dict _ => (by decide +kernel : kitB "dict" "int" = some false)
theorem kitBool : ∀ d : PyData, kitB (tyD d) "bool" = some (isBoolD d)
  | .none => (by decide +kernel : kitB "NoneType" "bool" = some false)
  | .bool _ => (by decide +kernel : kitB "bool" "bool" = some true)
  | .int _ => (by decide +kernel : kitB "int" "bool" = some false)
  | .str _ => (by decide +kernel : kitB "str" "bool" = some false)
  | .list _ => (by decide +kernel : kitB "list" "bool" = some false)
  | .tuple _ => (by decide +kernel : kitB "tuple" "bool" = some false)
  | .dict _ => (by decide +kernel : kitB "dict" "bool" = some false)
theorem kitTup : ∀ d : PyData, kitB (tyD d) "tuple" = some (isTupD d)
  | .none => (by decide +kernel : kitB "NoneType" "tuple" = some false)
  | .bool _ => (by decide +kernel : kitB "bool" "tuple" = some false)
  | .int _ => (by decide +kernel : kitB "int" "tuple" = some false)
  | .str _ => (by decide +kernel : kitB "str" "tuple" = some false)
  | .list _ => (by decide +kernel : kitB "list" "tuple" = some false)
  | .tuple _ => (by decide +kernel : kitB "tuple" "tuple" = some true)
  | .dict _ => (by decide +kernel : kitB "dict" "tuple" = some false)
theorem kitStr : ∀ d : PyData, kitB (tyD d) "str" = some (isStrD d)
  | .none => (by decide +kernel : kitB "NoneType" "str" = some false)
  | .bool _ => (by decide +kernel : kitB "bool" "str" = some false)
  | .int _ => (by decide +kernel : kitB "int" "str" = some false)
  | .str _ => (by decide +kernel : kitB "str" "str" = some true)
  | .list _ => (by decide +kernel : kitB "list" "str" = some false)
  | .tuple _ => (by decide +kernel : kitB "tuple" "str" = some false)
  | .dict _ => (by decide +kernel : kitB "dict" "str" = some false)
def wholeD : PyData → Bool
  | .int _ => true
  | _ => false
def worthD : PyData → Bool
  | .int i => decide (0 ≤ i) && decide (i ≤ 1)
  | _ => false
theorem whole_of : ∀ {d : PyData}, isIntD d = true → wholeD d = !isBoolD d
  | .int _, _ => rfl
  | .bool _, _ => rfl
  | .none, h => by cases h
  | .str _, h => by cases h
  | .list _, h => by cases h
  | .tuple _, h => by cases h
  | .dict _, h => by cases h
theorem whole_not : ∀ {d : PyData}, ¬ isIntD d = true → wholeD d = false
  | .int _, h => absurd rfl h
  | .bool _, h => absurd rfl h
  | .none, _ => rfl
  | .str _, _ => rfl
  | .list _, _ => rfl
  | .tuple _, _ => rfl
  | .dict _, _ => rfl
theorem whole_int : ∀ {d : PyData}, wholeD d = true → ∃ i, d = .int i
  | .int i, _ => ⟨i, rfl⟩
  | .bool _, h => by cases h
  | .none, h => by cases h
  | .str _, h => by cases h
  | .list _, h => by cases h
  | .tuple _, h => by cases h
  | .dict _, h => by cases h
theorem worth_not : ∀ {d : PyData}, ¬ wholeD d = true → worthD d = false
  | .int _, h => absurd rfl h
  | .bool _, _ => rfl
  | .none, _ => rfl
  | .str _, _ => rfl
  | .list _, _ => rfl
  | .tuple _, _ => rfl
  | .dict _, _ => rfl
theorem tup_of : ∀ {d : PyData}, isTupD d = true → ∃ ds, d = .tuple ds
  | .tuple ds, _ => ⟨ds, rfl⟩
  | .bool _, h => by cases h
  | .none, h => by cases h
  | .str _, h => by cases h
  | .list _, h => by cases h
  | .int _, h => by cases h
  | .dict _, h => by cases h
def sp_is_whole (K : PySem.W.Frag) : Sp := fun vs H Q _ => ∃ (v : V) (d : PyData), vs = [v] ∧ Sh H v d ∧ Q (.bl (wholeD d)) H
theorem ok_is_whole (T : Tx K mg) : FnOk P w K mg base CX0 1 T.f_is_whole T.fd_is_whole ["thing"] (sp_is_whole K) := by
  refine T.F_is_whole.ok sc_is_whole (fun vs H Q E h => ?_) (fun cdv A outer s H vs Q E hr h => ?_)
  · obtain ⟨v, d, rfl, _⟩ := h
    rfl
  · obtain ⟨v, d, rfl, sh, q⟩ := h
    refine ⟨_, (pss_one (ps_ret (pe_and (pe_callB call_isi (by rfl) T.m_isinstance (by decide +kernel) (pa_cons (pv 0) (pa_cons (pe_bltn (v := .ty "int") (u := .type "int") (by rfl) T.m_int (by decide +kernel) rfl) pa_nil))) (pe_one (pe_not (pe_callB call_isi (by rfl) T.m_isinstance (by decide +kernel) (pa_cons (pv 0) (pa_cons (pe_bltn (v := .ty "bool") (u := .type "bool") (by rfl) T.m_bool (by decide +kernel) rfl) pa_nil)))))))), ?_⟩
    refine ⟨v, rfl, _, _, _, _, _, rfl, .ty _, sh.ty, kit_ty (kitInt d), _, rfl, ite2 (fun e => ?_) (fun e => ?_)⟩
    · refine ⟨v, rfl, _, _, _, _, _, rfl, .ty _, sh.ty, kit_ty (kitBool d), _, rfl, ?_⟩
      rw [← whole_of e]
      exact q
    · rw [whole_not e] at q
      exact q

def sp_is_worth (K : PySem.W.Frag) : Sp := fun vs H Q _ => ∃ (v : V) (d : PyData), vs = [v] ∧ Sh H v d ∧ Q (.bl (worthD d)) H
theorem ok_is_worth (T : Tx K mg) : FnOk P w K mg base CX0 2 T.f_is_worth T.fd_is_worth ["thing"] (sp_is_worth K) := by
  refine T.F_is_worth.ok sc_is_worth (fun vs H Q E h => ?_) (fun cdv A outer s H vs Q E hr h => ?_)
  · obtain ⟨v, d, rfl, _⟩ := h
    rfl
  · obtain ⟨v, d, rfl, sh, q⟩ := h
    refine ⟨_, (pss_one (ps_ret (pe_and (pe_call (ok_is_whole T) (hr.mono (by decide)) (by rfl) T.g_is_whole T.F_is_whole.kp T.b_is_whole .nil pass0 (pa_cons (pv 0) pa_nil)) (pe_one (pe_chain op_le op_le pe_int (pv 0) pe_int))))), ?_⟩
    refine ⟨v, rfl, v, d, rfl, sh, _, rfl, ite2 (fun e => ?_) (fun e => ?_)⟩
    · obtain ⟨i, rfl⟩ := whole_int e
      cases sh
      replace q : Q (.bl (decide (0 ≤ i) && decide (i ≤ 1))) H := q
      refine ⟨.int i, rfl, 0, i, rfl, rfl, _, rfl, ite2 (fun e1 => ?_) (fun e1 => ?_)⟩
      · refine ⟨i, 1, rfl, rfl, ?_⟩
        rw [e1, Bool.true_and] at q
        exact q
      · rw [Bool.eq_false_iff.mpr e1, Bool.false_and] at q
        exact q
    · rw [worth_not e] at q
      exact q

end
end Gk

set_option Elab.async false
set_option linter.all false
set_option maxRecDepth 100000
namespace Gk
open PySem PySem.Spec PyProof.Rows L2
def isWordD : PyData → Bool
  | .tuple [x, y, z] => worthD x && (worthD y && isBoolD z)
  | _ => false
theorem word_len : ∀ {ds : List PyData}, ds.length ≠ 3 → isWordD (.tuple ds) = false
  | [], _ => rfl
  | [_], _ => rfl
  | [_, _], _ => rfl
  | [_, _, _], h => absurd rfl h
  | _ :: _ :: _ :: _ :: _, _ => rfl
theorem word_not : ∀ {d : PyData}, ¬ isTupD d = true → isWordD d = false
  | .tuple _, h => absurd rfl h
  | .bool _, _ => rfl
  | .none, _ => rfl
  | .str _, _ => rfl
  | .list _, _ => rfl
  | .int _, _ => rfl
  | .dict _, _ => rfl
theorem three {α : Type} : ∀ {xs : List α}, xs.length = 3 → ∃ x y z, xs = [x, y, z]
  | [x, y, z], _ => ⟨x, y, z, rfl⟩
  | [], h => by cases h
  | [_], h => by cases h
  | [_, _], h => by cases h
  | _ :: _ :: _ :: _ :: _, h => by simp at h
theorem notT {b : Bool} (h : (!b) = true) : ¬ b = true := by cases b <;> simp_all
theorem notF {b : Bool} (h : ¬ (!b) = true) : b = true := by cases b <;> simp_all
section
variable {P : Program} {w : World} {K : PySem.W.Frag} {mg : Str → Option Value} {base : Heap}
def sp_is_word (K : PySem.W.Frag) : Sp := fun vs H Q _ => ∃ (v : V) (d : PyData), vs = [v] ∧ Sh H v d ∧ Q (.bl (isWordD d)) H
theorem ok_is_word (T : Tx K mg) : FnOk P w K mg base CX0 3 T.f_is_word T.fd_is_word ["thing"] (sp_is_word K) := by
  refine T.F_is_word.ok sc_is_word (fun vs H Q E h => ?_) (fun cdv A outer s H vs Q E hr h => ?_)
  · obtain ⟨v, d, rfl, _⟩ := h
    rfl
  · obtain ⟨v, d, rfl, sh, q⟩ := h
    refine ⟨_, (pss_cons (ps_if (pw_or (pt_not (pt_val (pe_callB call_isi (by rfl) T.m_isinstance (by decide +kernel) (pa_cons (pv 0) (pa_cons (pe_bltn (v := .ty "tuple") (u := .type "tuple") (by rfl) T.m_tuple (by decide +kernel) rfl) pa_nil))))) (pw_or1 (pt_cmpR op_ne (pe_callB call_len_seq (by rfl) T.m_len PySem.boot_len (pa_cons (pv 0) pa_nil)) pe_int (nomark _)))).pt (pss_one (ps_ret pe_bl)) pss_nil) (pss_cons (ps_asg (pv 0) (pg_tup rfl (pgs_cons (pg_name (i := 1) sc_is_word.nd rfl (by first | exact .inl rfl | exact .inr rfl)) (pgs_cons (pg_name (i := 2) sc_is_word.nd rfl (by first | exact .inl rfl | exact .inr rfl)) (pgs_cons (pg_name (i := 3) sc_is_word.nd rfl (by first | exact .inl rfl | exact .inr rfl)) pgs_nil))))) (pss_one (ps_ret (pe_and (pe_call (ok_is_worth T) (hr.mono (by decide)) (by rfl) T.g_is_worth T.F_is_worth.kp T.b_is_worth .nil pass0 (pa_cons (pv 1) pa_nil)) (pe_and (pe_call (ok_is_worth T) (hr.mono (by decide)) (by rfl) T.g_is_worth T.F_is_worth.kp T.b_is_worth .nil pass0 (pa_cons (pv 2) pa_nil)) (pe_one (pe_callB call_isi (by rfl) T.m_isinstance (by decide +kernel) (pa_cons (pv 3) (pa_cons (pe_bltn (v := .ty "bool") (u := .type "bool") (by rfl) T.m_bool (by decide +kernel) rfl) pa_nil)))))))))), ?_⟩
    refine ⟨v, rfl, _, _, _, _, _, rfl, .ty _, sh.ty, kit_ty (kitTup d), _, rfl, ite2 (fun e => ?_) (fun e => ?_)⟩
    · rw [word_not (notT e)] at q
      exact iteT q
    · obtain ⟨ds, rfl⟩ := tup_of (notF e)
      cases sh with
      | @tup a xs _ h t =>
        refine ⟨.ref a, rfl, a, xs, rfl, .inr (SqT.of h), rfl, _, rfl, ite2 (fun e => ?_) (fun e => ?_)⟩
        · have n : ds.length ≠ 3 := fun z => by
            rw [t.length, z] at e
            cases e
          rw [word_len n] at q
          exact q
        · have n : xs.length = 3 := by
            have := of_decide_eq_true (notF e)
            have := V.int.inj this
            omega
          obtain ⟨x, y, z, rfl⟩ := three n
          obtain ⟨dx, dy, dz, rfl⟩ := three (t.length ▸ n)
          cases t with
          | cons hx t => cases t with
            | cons hy t => cases t with
              | cons hz t =>
                replace q : Q (.bl (worthD dx && (worthD dy && isBoolD dz))) H := q
                refine ⟨.ref a, rfl, a, _, rfl, SqT.of h, rfl, _, _, rfl, _, _, rfl, _, _, rfl, rfl, ?_⟩
                refine ⟨x, rfl, x, dx, rfl, hx, _, rfl, ite2 (fun e => ?_) (fun e => ?_)⟩
                · rw [e, Bool.true_and] at q
                  refine ⟨y, rfl, y, dy, rfl, hy, _, rfl, ite2 (fun e => ?_) (fun e => ?_)⟩
                  · rw [e, Bool.true_and] at q
                    exact ⟨z, rfl, _, _, _, _, _, rfl, .ty _, hz.ty, kit_ty (kitBool dz), q⟩
                  · rw [Bool.eq_false_iff.mpr e, Bool.false_and] at q
                    exact q
                · rw [Bool.eq_false_iff.mpr e, Bool.false_and] at q
                  exact q
def sp_due (K : PySem.W.Frag) : Sp := fun vs H Q _ => ∃ (v : V) (d : PyData), vs = [v] ∧ Sh H v d ∧ ∀ H', Same H H' → Q (.bl (isWordD d)) H'
theorem cut2 (x y z : V) : cutV [x, y, z] none (some 2) = [x, y] := by
  unfold cutV
  have e : HT.sIx ([x, y, z] : List V).length ([x, y, z] : List V).length (some 2) = 2 := HT.sIx_nat _ _ 2
  rw [HT.sIx_none, e]
  rfl
theorem ok_due (T : Tx K mg) : FnOk P w K mg base CX0 1 T.f_due T.fd_due ["_law_thing_here"] (sp_due K) := by
  refine T.F_due.ok sc_due (fun vs H Q E h => ?_) (fun cdv A outer s H vs Q E hr h => ?_)
  · obtain ⟨v, d, rfl, _⟩ := h
    rfl
  · obtain ⟨v, d, rfl, sh, q⟩ := h
    refine ⟨_, (pss_cons (ps_if (pw_or (pt_not (pt_val (pe_callB call_isi (by rfl) T.m_isinstance (by decide +kernel) (pa_cons (pv 0) (pa_cons (pe_bltn (v := .ty "tuple") (u := .type "tuple") (by rfl) T.m_tuple (by decide +kernel) rfl) pa_nil))))) (pw_or (pt_cmpR op_ne (pe_callB call_len_seq (by rfl) T.m_len PySem.boot_len (pa_cons (pv 0) pa_nil)) pe_int (nomark _)) (pw_or1 (pt_not (pt_val (pe_callB call_isi (by rfl) T.m_isinstance (by decide +kernel) (pa_cons (pe_ix ix_tup (pv 0) pe_int (fun _ _ => rfl)) (pa_cons (pe_bltn (v := .ty "bool") (u := .type "bool") (by rfl) T.m_bool (by decide +kernel) rfl) pa_nil)))))))).pt (pss_one (ps_ret pe_bl)) pss_nil) (pss_cons (ps_for PassesOwn.never rfl (pi_tup (pe_slice sl_tup (pv 0) po_none (po_some pe_int))) (pg_name (i := 1) sc_due.nd rfl (by first | exact .inl rfl | exact .inr rfl)) (pss_one (ps_if (pw_or (pt_val (pe_callB call_isi (by rfl) T.m_isinstance (by decide +kernel) (pa_cons (pv 1) (pa_cons (pe_bltn (v := .ty "bool") (u := .type "bool") (by rfl) T.m_bool (by decide +kernel) rfl) pa_nil)))) (pw_or (pt_not (pt_val (pe_callB call_isi (by rfl) T.m_isinstance (by decide +kernel) (pa_cons (pv 1) (pa_cons (pe_bltn (v := .ty "int") (u := .type "int") (by rfl) T.m_int (by decide +kernel) rfl) pa_nil))))) (pw_or (pt_cmpR op_lt (pv 1) pe_int (nomark _)) (pw_or1 (pt_cmpR op_gt (pv 1) pe_int (nomark _)))))).pt (pss_one (ps_ret pe_bl)) pss_nil))) (pss_one (ps_ret pe_bl)))), ?_⟩
    refine ⟨v, rfl, _, _, _, _, _, rfl, .ty _, sh.ty, kit_ty (kitTup d), _, rfl, ite2 (fun e => ?_) (fun e => ?_)⟩
    · have q := q H (Same.refl H)
      rw [word_not (notT e)] at q
      exact iteT q
    · obtain ⟨ds, rfl⟩ := tup_of (notF e)
      cases sh with
      | @tup a xs _ h t =>
        refine ⟨.ref a, rfl, a, xs, rfl, .inr (SqT.of h), rfl, _, rfl, ite2 (fun e => ?_) (fun e => ?_)⟩
        · have n : ds.length ≠ 3 := fun z => by
            rw [t.length, z] at e
            cases e
          have q := q H (Same.refl H)
          rw [word_len n] at q
          exact iteT q
        · have n : xs.length = 3 := by
            have := of_decide_eq_true (notF e)
            have := V.int.inj this
            omega
          obtain ⟨x, y, z, rfl⟩ := three n
          obtain ⟨dx, dy, dz, rfl⟩ := three (t.length ▸ n)
          cases t with
          | cons hx t => cases t with
            | cons hy t => cases t with
              | cons hz t =>
                replace q : ∀ H', Same H H' → Q (.bl (worthD dx && (worthD dy && isBoolD dz))) H' := q
                refine ⟨.ref a, rfl, a, _, 2, z, rfl, rfl, SqT.of h, rfl, _, _, _, _, _, rfl, .ty _, hz.ty, kit_ty (kitBool dz), _, rfl, ite2 (fun e => ?_) (fun e => ?_)⟩
                · have q := q H (Same.refl H)
                  rw [Bool.eq_false_iff.mpr (notT e), Bool.and_false, Bool.and_false] at q
                  exact q
                · rw [notF e, Bool.and_true] at q
                  refine ⟨.ref a, rfl, 2, rfl, a, _, rfl, SqT.of h, (fun k => by have := k.2; rw [show HT.sIx ([x, y, z] : List V).length ([x, y, z] : List V).length (some 2) = 2 from HT.sIx_nat _ _ 2] at this; cases this), fun p np => ?_⟩
                  rw [cut2]
                  have s1 := same_upd (o := .tup [x, y]) np
                  have hall : ShAll (upd H p (.tup [x, y])) [x, y] [dx, dy] := .cons (hx.same s1) (.cons (hy.same s1) .nil)
                  refine ⟨p, rfl, ⟨_, SqT.of upd_same⟩, for_tup (K := K) (a := p) (xs := [x, y]) (fun i σ H' => ∃ y1, σ = [some (.ref a), y1] ∧ H' = upd H p (.tup [x, y]) ∧ ∀ j d, j < i → ([dx, dy] : List PyData)[j]? = some d → worthD d = true) ⟨none, rfl, rfl, fun j d hj => absurd hj (Nat.not_lt_zero _)⟩ (fun i σ H' _ ⟨_, _, e, _⟩ => by rw [e]; exact SqT.of upd_same) ?_ ?_⟩
                  · rintro i u σ H' hu ⟨y1, rfl, rfl, so⟩
                    obtain ⟨du, hdu, su⟩ := hall.get hu
                    have bad : worthD du = false → Q (.bl false) (upd H p (.tup [x, y])) := fun wf => by
                      have q := q _ s1
                      have : (worthD dx && worthD dy) = false := by
                        rcases i with _ | _ | i
                        · cases Option.some.inj hdu; rw [wf]; rfl
                        · cases Option.some.inj hdu; rw [wf, Bool.and_false]
                        · simp at hdu
                      rw [this] at q
                      exact q
                    refine ⟨u, rfl, _, _, _, _, _, rfl, .ty _, su.ty, kit_ty (kitBool du), _, rfl, ite2 (fun e => ?_) (fun e => ?_)⟩
                    · refine iteT (bad ?_)
                      cases du <;> first | rfl | cases e
                    · refine ⟨u, rfl, _, _, _, _, _, rfl, .ty _, su.ty, kit_ty (kitInt du), _, rfl, ite2 (fun e1 => ?_) (fun e1 => ?_)⟩
                      · refine iteT (bad (worth_not fun z => notT e1 ?_))
                        obtain ⟨i, rfl⟩ := whole_int z
                        rfl
                      · have hw : wholeD du = true := by
                          rw [whole_of (notF e1), Bool.eq_false_iff.mpr e]
                          rfl
                        obtain ⟨n, rfl⟩ := whole_int hw
                        cases su
                        refine ⟨.int n, rfl, n, 0, rfl, rfl, _, rfl, ite2 (fun e => ?_) (fun e => ?_)⟩
                        · have h0 := of_decide_eq_true e
                          refine iteT (bad ?_)
                          show (decide (0 ≤ n) && decide (n ≤ 1)) = false
                          rw [decide_eq_false (show ¬ 0 ≤ n by omega)]
                          rfl
                        · have h0 : ¬ n < 0 := fun z => e (decide_eq_true z)
                          refine ⟨.int n, rfl, n, 1, rfl, rfl, _, rfl, ite2 (fun e => ?_) (fun e => ?_)⟩
                          · have h1 : 1 < n := of_decide_eq_true e
                            refine bad ?_
                            show (decide (0 ≤ n) && decide (n ≤ 1)) = false
                            rw [decide_eq_false (show ¬ n ≤ 1 by omega), Bool.and_false]
                          · have h1 : ¬ 1 < n := fun z => e (decide_eq_true z)
                            refine ⟨_, rfl, rfl, fun j d hj hd => ?_⟩
                            by_cases hji : j < i
                            · exact so j d hji hd
                            · have : j = i := by omega
                              subst this
                              cases Option.some.inj (hd.symm.trans hdu)
                              show (decide (0 ≤ n) && decide (n ≤ 1)) = true
                              rw [decide_eq_true (show 0 ≤ n by omega), decide_eq_true (show n ≤ 1 by omega)]
                              rfl
                  · rintro σ H' ⟨y1, rfl, rfl, so⟩
                    have q := q _ s1
                    rw [so 0 dx (show 0 < 2 by decide) rfl, so 1 dy (show 1 < 2 by decide) rfl] at q
                    exact q
end
end Gk

set_option Elab.async false
set_option linter.all false
set_option maxRecDepth 100000
namespace Gk
open PySem PySem.Spec PyProof.Rows L2
/-- tuple * int, the int from 1 on: by 1 it is the tuple itself -/
theorem tuple_mul1 (l : Addr) (items : Array Value) (n : Nat) (dd : Option Addr) (sl : Array (Option Value)) (u : Tok) :
    Meets (Builtin.«tuple.__mul__» ⟨[.ref l, .int 1 u], []⟩) (fun _ R s => s.heap.get? l = some { cls := .type "tuple", dict := dd, data := .seq items n, slots := sl } ∧ R (.ok (.ret (Value.ref l))) s) :=
  .of_wp fun prog w A R s h => by
    obtain ⟨hp, g, d, tk, os⟩ := s
    obtain ⟨hl, h⟩ := h
    have f1 := AutoSeq1.idx_int
    have c1 : (items.isEmpty || (1 : Int) == 1) = true := by simp
    wp_walk using wpAny_loadPart' hl
    repeat (first
      | (refine wpAny_ite_false (decide_eq_false (by decide)) ?_; wp_walk using wpAny_loadPart' hl)
      | (refine wpAny_ite_true (decide_eq_true c1) ?_; wp_walk using wpAny_loadPart' hl))
    exact ⟨_, rfl, h⟩
def rRepT1 (K : PySem.W.Frag) : R2 := fun x y H Q => ∃ l k xs, x = .ref l ∧ y = .int k ∧ SqT K H l xs ∧ xs ≠ [] ∧ 1 ≤ k ∧ k ≤ 1000 ∧ xs.length ≤ 1000 ∧ (k = 1 → Q (.ref l) H) ∧ (2 ≤ k → ∀ p, H p = none → Q (.ref p) (upd H p (.tup (List.replicate k.toNat xs).flatten)))
theorem op_repT1 {X : Cx} : OpR X (binaryOp .Mult) (rRepT1 X.K) := by
  intro pins s σ H x y v u Q I rx ry h
  obtain ⟨l, k, xs, ex, ey, hT, full, one, most, few, q1, q2⟩ := h
  by_cases hk : k = 1
  · subst hk
    subst ex ey
    cases rx
    obtain ⟨tk, rfl⟩ := ry
    obtain ⟨its, r, ⟨ob, hob, hcl, c, hdt⟩, _⟩ := I.tuple hT
    obtain ⟨cls, dd, data, sl⟩ := ob
    cases (show cls = Value.type "tuple" from hcl)
    cases (show data = Data.seq its.toArray c from hdt)
    exact wpAny_binaryOp_repeat_ref (T := "tuple") (U := "int") (by decide) ⟨_, hob, rfl⟩ (fun z => typeIs_int z 1 tk) noFill_tuple_mul F.fills_int_mul F.slot_int_rmul repeat_tuple F.slot_int_index.lookup
      (call_meets F.slot_int_rmul (typeIs_int s 1 tk) F.entry_int_rmul (F.args_int_rmul_2 _ _) (int_rmul_tuple 1 tk l its.toArray c dd sl) ⟨hob, rfl, ⟨_, hob, rfl⟩,
        call_meets F.slot_tuple_mul ⟨_, hob, rfl⟩ F.entry_tuple_mul (F.args_tuple_mul_2 _ _) (tuple_mul1 l its.toArray c dd sl tk) ⟨hob, ⟨.ref l, H, I, rfl, q1 rfl⟩⟩⟩)
  · exact op_repT pins s σ H x y v u Q I rx ry ⟨l, k, xs, ex, ey, hT, full, by omega, most, few, q2 (by omega)⟩
section
variable {P : Program} {w : World} {K : PySem.W.Frag} {mg : Str → Option Value} {base : Heap}
def odds : List PyData := [.none, .bool true, .bool false, .int 0, .int 1, .int (-1), .int 2, .str "0", .str "1", .str "", .str "up", .tuple [.int 0], .list [.int 0], .tuple [], .dict [], .int (10 ^ 39), .int (-(10 ^ 39)), .dict [(.int 0, .int 1)]]
theorem odds_fine : odds.all (fineB 200 5) = true := by decide +kernel
def sp_odd (K : PySem.W.Frag) : Sp := fun vs H Q _ => ∃ (d l : Addr), vs = [.ref d] ∧ Deck H d l ∧ ∀ H' v e, Deck H' d l → Fr d l H H' → (∀ as, d ∈ as → l ∈ as → (∀ b ∈ as, H b ≠ none) → Sh (hid as H') v e) → fineB 200 5 e = true → Q v H'
theorem ok_odd (T : Tx K mg) : FnOk P w K mg base CX0 2 T.f_odd T.fd_odd ["_law_deck_here"] (sp_odd K) := by
  refine T.F_odd.ok sc_odd (fun vs H Q E h => ?_) (fun cdv A outer s H vs Q E hr h => ?_)
  · obtain ⟨d, l, rfl, _⟩ := h
    rfl
  · obtain ⟨d, l, rfl, D, q⟩ := h
    refine ⟨_, (pss_cons (ps_set (i := 1) sc_odd.nd rfl (by first | exact .inl rfl | exact .inr rfl) (pe_lst (pa_cons pe_non (pa_cons pe_bl (pa_cons pe_bl (pa_cons pe_int (pa_cons pe_int (pa_cons (pe_un un_neg pe_int) (pa_cons pe_int (pa_cons pe_str (pa_cons pe_str (pa_cons pe_str (pa_cons pe_str (pa_cons (pe_tup (pa_cons pe_int pa_nil)) (pa_cons (pe_lstN (pa_cons pe_int pa_nil)) (pa_cons (pe_tup pa_nil) (pa_cons pe_dnewK (pa_cons (pe_op op_pow pe_int pe_int) (pa_cons (pe_un un_neg (pe_op op_pow pe_int pe_int)) (pa_cons (pe_disp (pps_cons pe_int pe_int pps_nil) (by rfl) (by rfl) (fun z => by cases z) (by decide)) pa_nil)))))))))))))))))))) (pss_one (ps_ret (pe_ix ix_list (pv 1) (pe_call (ok_draw T) (hr.mono (by decide)) (by rfl) T.g_draw T.F_draw.kp T.b_draw .nil pass0 (pa_cons (pv 0) (pa_cons pe_int pa_nil))) (fun _ _ => rfl))))), ?_⟩
    refine ⟨1, rfl, sl1, fun t1 n1 => ⟨sl1, fun t2 n2 m2 => ⟨Nat.zero_le _, fun t3 n3 => fun t4 n4 => ⟨_, _, rfl, rfl, ⟨by decide, by decide, by decide⟩, _, _, rfl, rfl, ⟨by decide, by decide, by decide⟩, _, rfl, fun t5 n5 => ⟨upd_same, [(.inl 0, .int 1)], rfl, by decide, ?_⟩⟩⟩⟩⟩
    have e1 := same_upd (o := .tup [.int 0]) n1
    have e2 := same_upd (o := .lst [.int 0]) n2
    have e3 := same_upd (o := .tup []) n3
    have e4 := same_upd (o := .dK []) n4
    have e5 := upd2_same (o := .dK []) (o' := .dK (mergeK [] [(.inl 0, .int 1)])) n5
    refine ⟨by show 18 ≤ sizeLine; decide, fun ls nls => ?_⟩
    have e6 := same_upd (o := .lst [.non, .bl true, .bl false, .int 0, .int 1, .int (-1), .int 2, .str "0", .str "1", .str "", .str "up", .ref t1, .ref t2, .ref t3, .ref t4, .int (10 ^ 39), .int (-(10 ^ 39)), .ref t5]) nls
    have s2 := e1.trans e2
    have s3 := s2.trans e3
    have s4 := s3.trans e4
    have s5 := s4.trans e5
    have sA := s5.trans e6
    have g1 := e6 _ _ (e5 _ _ (e4 _ _ (e3 _ _ (e2 _ _ (upd_same (H := H) (a := t1) (o := .tup [.int 0]))))))
    have g2 := e6 _ _ (e5 _ _ (e4 _ _ (e3 _ _ (upd_same (a := t2) (o := .lst [.int 0])))))
    have g3 := e6 _ _ (e5 _ _ (e4 _ _ (upd_same (a := t3) (o := .tup []))))
    have g4 := e6 _ _ (e5 _ _ (upd_same (a := t4) (o := .dK [])))
    have g5 := e6 _ _ (upd_same (a := t5) (o := .dK (mergeK [] [(.inl 0, .int 1)])))
    have g6 := upd_same (H := upd (upd (upd (upd (upd (upd H t1 (.tup [.int 0])) t2 (.lst [.int 0])) t3 (.tup [])) t4 (.dK [])) t5 (.dK [])) t5 (.dK (mergeK [] [(.inl 0, .int 1)]))) (a := ls) (o := .lst [.non, .bl true, .bl false, .int 0, .int 1, .int (-1), .int 2, .str "0", .str "1", .str "", .str "up", .ref t1, .ref t2, .ref t3, .ref t4, .int (10 ^ 39), .int (-(10 ^ 39)), .ref t5])
    have m3 := s2.free n3
    have m4 := s3.free n4
    have m5 := s4.free n5
    have m2' := e1.free n2
    have o6 := D.out s5 nls
    generalize hH : upd _ ls _ = H6
    replace sA : Same H H6 := by rw [← hH]; exact sA
    replace g1 : H6 t1 = some (.tup [.int 0]) := by rw [← hH]; exact g1
    replace g2 : H6 t2 = some (.lst [.int 0]) := by rw [← hH]; exact g2
    replace g3 : H6 t3 = some (.tup []) := by rw [← hH]; exact g3
    replace g4 : H6 t4 = some (.dK []) := by rw [← hH]; exact g4
    replace g5 : H6 t5 = some (.dK [(.inl 0, .int 1)]) := by rw [← hH]; exact g5
    replace g6 : H6 ls = some (.lst [.non, .bl true, .bl false, .int 0, .int 1, .int (-1), .int 2, .str "0", .str "1", .str "", .str "up", .ref t1, .ref t2, .ref t3, .ref t4, .int (10 ^ 39), .int (-(10 ^ 39)), .ref t5]) := by rw [← hH]; exact g6
    have sh : ∀ as : List Addr, (∀ b ∈ as, H b ≠ none) → ShAll (hid as H6) [.non, .bl true, .bl false, .int 0, .int 1, .int (-1), .int 2, .str "0", .str "1", .str "", .str "up", .ref t1, .ref t2, .ref t3, .ref t4, .int (10 ^ 39), .int (-(10 ^ 39)), .ref t5] odds := fun as no => by
      have h1 : hid as H6 t1 = some (.tup [.int 0]) := by rw [hid_at (fun z => no _ z n1)]; exact g1
      have h2 : hid as H6 t2 = some (.lst [.int 0]) := by rw [hid_at (fun z => no _ z m2')]; exact g2
      have h3 : hid as H6 t3 = some (.tup []) := by rw [hid_at (fun z => no _ z m3)]; exact g3
      have h4 : hid as H6 t4 = some (.dK []) := by rw [hid_at (fun z => no _ z m4)]; exact g4
      have h5 : hid as H6 t5 = some (.dK [(.inl 0, .int 1)]) := by rw [hid_at (fun z => no _ z m5)]; exact g5
      have d4 : Sh (hid as H6) (.ref t4) (.dict []) := .dic h4 .nil
      have d5 : Sh (hid as H6) (.ref t5) (.dict [(.int 0, .int 1)]) := .dic (ds := [.int 1]) h5 (.cons (.int 1) .nil)
      exact .cons .non (.cons (.bl _) (.cons (.bl _) (.cons (.int _) (.cons (.int _) (.cons (.int _) (.cons (.int _) (.cons (.str _) (.cons (.str _) (.cons (.str _) (.cons (.str _)
          (.cons (.tup h1 (.cons (.int 0) .nil)) (.cons (.lst h2 m2 (.cons (.int 0) .nil)) (.cons (.tup h3 .nil) (.cons d4 (.cons (.int _) (.cons (.int _) (.cons d5 .nil)))))))))))))))))
    refine ⟨.ref ls, rfl, .ref d, rfl, d, l, 18, rfl, D.same sA, by decide, by decide, fun H7 v D7 fr7 v0 v1 => ?_⟩
    have nls2 : ls ≠ d ∧ ls ≠ l := ⟨fun z => o6 (by rw [z]; simp), fun z => o6 (by rw [z]; simp)⟩
    obtain ⟨k, x, hk, hx, ha, _, _⟩ := at_some (xs := [.non, .bl true, .bl false, .int 0, .int 1, .int (-1), .int 2, .str "0", .str "1", .str "", .str "up", .ref t1, .ref t2, .ref t3, .ref t4, .int (10 ^ 39), .int (-(10 ^ 39)), .ref t5]) v0 v1
    obtain ⟨e, he, _⟩ := (sh [] fun b hb => by cases hb).get hx
    refine ⟨ls, _, _, x, rfl, rfl, SqL.of (fr7 _ _ nls2.1 nls2.2 g6), ha, ?_⟩
    refine q H7 x e D7 ((Fr.of sA).trans fr7) (fun as hd hl no => ?_) (List.all_eq_true.mp odds_fine e (List.mem_of_getElem? he))
    obtain ⟨e', he', se⟩ := (sh as no).get hx
    cases Option.some.inj (he.symm.trans he')
    exact se.same (hid_fr fr7 hd hl)
/-- the word that is bent: parts that are shown, also without what stood before -/
def WordW (H0 H : Hp) (d l wl : Addr) (n : Nat → Prop) : Prop := Deck H d l ∧ Same (hid [d, l] H0) (hid [d, l] H) ∧ wl ∉ [d, l] ∧ wl ≠ sysModules ∧ H0 wl = none ∧ ∃ xs ds, H wl = some (.lst xs) ∧ (∀ as, d ∈ as → l ∈ as → (∀ b ∈ as, b = wl ∨ H0 b ≠ none) → ShAll (hid as H) xs ds) ∧ (∀ e ∈ ds, fineB 200 5 e = true) ∧ n xs.length
theorem WordW.draw {H0 H H' : Hp} {d l wl : Addr} {n : Nat → Prop} (W : WordW H0 H d l wl n) (D : Deck H' d l) (f : Fr d l H H') : WordW H0 H' d l wl n := by
  obtain ⟨_, s, o, sm, fr, xs, ds, h, sh, fi, hn⟩ := W
  exact ⟨D, s.trans (hid_fr f (by simp) (by simp)), o, sm, fr, xs, ds, f _ _ (fun z => o (by rw [z]; simp)) (fun z => o (by rw [z]; simp)) h, fun as hd hl no => (sh as hd hl no).same (hid_fr f hd hl), fi, hn⟩
theorem WordW.put {H0 H : Hp} {d l wl : Addr} {n m : Nat → Prop} (W : WordW H0 H d l wl n) {ys : List V} {es : List PyData} (sh : ∀ as, d ∈ as → l ∈ as → (∀ b ∈ as, b = wl ∨ H0 b ≠ none) → ShAll (hid as H) ys es) (fi : ∀ e ∈ es, fineB 200 5 e = true) (hm : m ys.length) : WordW H0 (upd H wl (.lst ys)) d l wl m := by
  obtain ⟨D, s, o, sm, fr, xs, ds, h, _, _, _⟩ := W
  have nd : wl ≠ d := fun z => o (by rw [z]; simp)
  have nl : wl ≠ l := fun z => o (by rw [z]; simp)
  refine ⟨?_, fun b x e => ?_, o, sm, fr, ys, es, upd_same, fun as hd hl no => ?_, fi, hm⟩
  · obtain ⟨ne, cs, z, h1, h2, r⟩ := D
    exact ⟨ne, cs, z, by rw [upd_ne nd.symm]; exact h1, by rw [upd_ne nl.symm]; exact h2, r⟩
  · have e' := s _ _ e
    have nb : b ≠ wl := fun z => by rw [z, hid_at o, fr] at e; cases e
    by_cases hb : b ∈ [d, l]
    · rw [hid_in hb] at e'; cases e'
    · rw [hid_at hb] at e' ⊢
      rw [upd_ne nb]
      exact e'
  · have z := sh (wl :: as) (List.mem_cons_of_mem _ hd) (List.mem_cons_of_mem _ hl) fun b hb => (List.mem_cons.mp hb).elim .inl (no b)
    exact (z.same (hid_upd (List.mem_cons_self ..))).same (hid_sub fun b hb => List.mem_cons_of_mem _ hb)
theorem WordW.imp {H0 H : Hp} {d l wl : Addr} {n m : Nat → Prop} (W : WordW H0 H d l wl n) (h : ∀ k, n k → m k) : WordW H0 H d l wl m := by
  obtain ⟨D, s, o, sm, fr, xs, ds, hx, sh, fi, hn⟩ := W
  exact ⟨D, s, o, sm, fr, xs, ds, hx, sh, fi, h _ hn⟩
theorem WordW.occ {H0 H : Hp} {d l wl : Addr} {n : Nat → Prop} (W : WordW H0 H d l wl n) {as : List Addr} (no : ∀ b ∈ as, b = wl ∨ H0 b ≠ none) : ∀ b ∈ as, H b ≠ none := by
  obtain ⟨⟨_, _, _, h1, h2, _⟩, s, _, _, _, xs, ds, hx, _⟩ := W
  intro b hb z
  rcases no b hb with rfl | h0
  · rw [hx] at z; cases z
  · by_cases hdl : b ∈ [d, l]
    · rcases List.mem_cons.mp hdl with rfl | hdl
      · rw [h1] at z; cases z
      · rw [List.mem_singleton.mp hdl, h2] at z; cases z
    · cases hq : H0 b with
      | none => exact h0 hq
      | some o =>
        have := s b o (by rw [hid_at hdl]; exact hq)
        rw [hid_at hdl, z] at this
        cases this
theorem WordW.two {H0 H : Hp} {d l wl : Addr} {n : Nat → Prop} (W : WordW H0 H d l wl n) (D : Deck H0 d l := by assumption) : ∀ b ∈ [d, l], b = wl ∨ H0 b ≠ none := by
  obtain ⟨_, _, _, h1, h2, _⟩ := D
  intro b hb
  refine .inr fun z => ?_
  rcases List.mem_cons.mp hb with rfl | hb
  · rw [h1] at z; cases z
  · rw [List.mem_singleton.mp hb, h2] at z; cases z
def sp_thing (K : PySem.W.Frag) : Sp := fun vs H Q _ => ∃ (d l : Addr), vs = [.ref d] ∧ Deck H d l ∧ ∀ H' v e, Deck H' d l → Same (hid [d, l] H) (hid [d, l] H') → (∀ as, d ∈ as → l ∈ as → (∀ b ∈ as, H b ≠ none) → Sh (hid as H') v e) → fineB 4000 10 e = true → Q v H'
theorem ok_thing (T : Tx K mg) : FnOk P w K mg base CX0 3 T.f_thing T.fd_thing ["_law_deck_here"] (sp_thing K) := by
  refine T.F_thing.ok sc_thing (fun vs H Q E h => ?_) (fun cdv A outer s H vs Q E hr h => ?_)
  · obtain ⟨d, l, rfl, _⟩ := h
    rfl
  · obtain ⟨d, l, rfl, D, q⟩ := h
    refine ⟨_, (pss_cons (ps_set (i := 1) sc_thing.nd rfl (by first | exact .inl rfl | exact .inr rfl) (pe_call (ok_draw T) (hr.mono (by decide)) (by rfl) T.g_draw T.F_draw.kp T.b_draw .nil pass0 (pa_cons (pv 0) (pa_cons pe_int pa_nil)))) (pss_cons (ps_set (i := 2) sc_thing.nd rfl (by first | exact .inl rfl | exact .inr rfl) (pe_lstN (pa_cons (pe_call (ok_draw T) (hr.mono (by decide)) (by rfl) T.g_draw T.F_draw.kp T.b_draw .nil pass0 (pa_cons (pv 0) (pa_cons pe_int pa_nil))) (pa_cons (pe_call (ok_draw T) (hr.mono (by decide)) (by rfl) T.g_draw T.F_draw.kp T.b_draw .nil pass0 (pa_cons (pv 0) (pa_cons pe_int pa_nil))) (pa_cons (pe_cmpR op_eq (pe_call (ok_draw T) (hr.mono (by decide)) (by rfl) T.g_draw T.F_draw.kp T.b_draw .nil pass0 (pa_cons (pv 0) (pa_cons pe_int pa_nil))) pe_int (nomark _)) pa_nil))))) (pss_cons (ps_set (i := 3) sc_thing.nd rfl (by first | exact .inl rfl | exact .inr rfl) (pe_call (ok_draw T) (hr.mono (by decide)) (by rfl) T.g_draw T.F_draw.kp T.b_draw .nil pass0 (pa_cons (pv 0) (pa_cons pe_int pa_nil)))) (C8.pss_cut (ps_if (pt_cmpR op_lt (pv 1) pe_int (nomark _)) (pss_one (ps_asg (pe_call (ok_odd T) (hr.mono (by decide)) (by rfl) T.g_odd T.F_odd.kp T.b_odd .nil pass0 (pa_cons (pv 0) pa_nil)) (pg_sub (pv 2) (pv 3) set_list))) pss_nil) (C8.pss_cut (ps_if (pt_cmpR op_eq (pv 1) pe_int (nomark _)) (pss_one (ps_asg (pe_call (ok_odd T) (hr.mono (by decide)) (by rfl) T.g_odd T.F_odd.kp T.b_odd .nil pass0 (pa_cons (pv 0) pa_nil)) (pg_sub (pv 2) (pe_op op_mod (pe_op op_add (pe_op op_add (pv 3) pe_int) (pe_call (ok_draw T) (hr.mono (by decide)) (by rfl) T.g_draw T.F_draw.kp T.b_draw .nil pass0 (pa_cons (pv 0) (pa_cons pe_int pa_nil)))) pe_int) set_list))) pss_nil) (C8.pss_cut (ps_if (pt_cmpR op_eq (pv 1) pe_int (nomark _)) (pss_one (ps_expr (pe_bm PySem.F.plainAttrs_list PySem.F.slot_list_insert PySem.F.type_list_insert mt_insert (pv 2) (pa_cons (pe_call (ok_draw T) (hr.mono (by decide)) (by rfl) T.g_draw T.F_draw.kp T.b_draw .nil pass0 (pa_cons (pv 0) (pa_cons pe_int pa_nil))) (pa_cons (pe_ix ix_list (pe_lst (pa_cons (pe_ix ix_list (pv 2) (pv 3) (fun _ _ => rfl)) (pa_cons (pe_call (ok_odd T) (hr.mono (by decide)) (by rfl) T.g_odd T.F_odd.kp T.b_odd .nil pass0 (pa_cons (pv 0) pa_nil)) pa_nil))) (pe_call (ok_draw T) (hr.mono (by decide)) (by rfl) T.g_draw T.F_draw.kp T.b_draw .nil pass0 (pa_cons (pv 0) (pa_cons pe_int pa_nil))) (fun _ _ => rfl)) pa_nil))))) pss_nil) (C8.pss_cut (ps_if (pt_cmpR op_eq (pv 1) pe_int (nomark _)) (pss_one (ps_expr (pe_bm PySem.F.plainAttrs_list PySem.F.slot_list_pop PySem.F.type_list_pop mt_popAt (pv 2) (pa_cons (pv 3) pa_nil)))) pss_nil) (pss_cons (ps_if (pt_cmpR op_eq (pv 1) pe_int (nomark _)) (pss_one (ps_ret (pv 2))) pss_nil) (pss_cons (ps_if (pt_cmpR op_eq (pv 1) pe_int (nomark _)) (pss_one (ps_ret (pe_call (ok_odd T) (hr.mono (by decide)) (by rfl) T.g_odd T.F_odd.kp T.b_odd .nil pass0 (pa_cons (pv 0) pa_nil)))) pss_nil) (pss_cons (ps_if (pt_cmpR op_eq (pv 1) pe_int (nomark _)) (pss_one (ps_ret (pe_op op_repT1 (pe_tup (pa_cons (pe_callTy call_tuple_of (by rfl) T.m_tuple (by decide +kernel) (pa_cons (pv 2) pa_nil)) pa_nil)) (pe_op op_add pe_int (pe_call (ok_draw T) (hr.mono (by decide)) (by rfl) T.g_draw T.F_draw.kp T.b_draw .nil pass0 (pa_cons (pv 0) (pa_cons pe_int pa_nil))))))) pss_nil) (pss_one (ps_ret (pe_callTy call_tuple_of (by rfl) T.m_tuple (by decide +kernel) (pa_cons (pv 2) pa_nil)))))))))))))), ?_⟩
    refine ⟨.ref d, rfl, d, l, 11, rfl, D, by decide, by decide, fun H1 way D1 f1 w0 w1 => ?_⟩
    refine ⟨.ref d, rfl, d, l, 2, rfl, D1, by decide, by decide, fun H2 a D2 f2 a0 a1 => ?_⟩
    refine ⟨.ref d, rfl, d, l, 2, rfl, D2, by decide, by decide, fun H3 b D3 f3 b0 b1 => ?_⟩
    refine ⟨.ref d, rfl, d, l, 2, rfl, D3, by decide, by decide, fun H4 c D4 f4 c0 c1 => ?_⟩
    refine ⟨rfl, sl3, fun wl nwl mwl => ?_⟩
    generalize decide (V.int c = V.int 1) = cb
    have f14 := ((f1.trans f2).trans f3).trans f4
    have W5 : WordW H (upd H4 wl (.lst [.int a, .int b, .bl cb])) d l wl (· = 3) := by
      have ow := D4.out (Same.refl H4) nwl
      refine ⟨D4.new nwl, (hid_fr f14 (by simp) (by simp)).trans (hid_same (same_upd nwl)), ow, mwl, ?_, _, [.int a, .int b, .bool cb], upd_same, fun _ _ _ _ => .cons (.int a) (.cons (.int b) (.cons (.bl cb) .nil)), ?_, rfl⟩
      · cases hw : H wl with
        | none => rfl
        | some o =>
          have := f14 wl o (fun z => ow (by rw [z]; simp)) (fun z => ow (by rw [z]; simp)) hw
          rw [nwl] at this
          cases this
      · have small : ∀ i : Int, 0 ≤ i → i < 2 → fineB 200 5 (.int i) = true := fun i h0 h1 => by
          have : i = 0 ∨ i = 1 := by omega
          rcases this with rfl | rfl <;> decide +kernel
        intro e he
        rcases List.mem_cons.mp he with rfl | he
        · exact small a a0 a1
        · rcases List.mem_cons.mp he with rfl | he
          · exact small b b0 b1
          · rcases List.mem_cons.mp he with rfl | he
            · cases cb <;> decide +kernel
            · cases he
    refine ⟨.ref d, rfl, d, l, 3, rfl, W5.1, by decide, by decide, fun H6 at_ D6 f6 t0 t1 => ?_⟩
    have W6 := W5.draw D6 f6
    clear W5 f14 f1 f2 f3 f4 D1 D2 D3 D4 nwl
    -- if way < 4
    refine ⟨fun σ' H' => σ' = [some (.ref d), some (.int way), some (.ref wl), some (.int at_)] ∧ WordW H H' d l wl (· = 3), ?_, ?_⟩
    · refine ⟨.int way, rfl, way, 4, rfl, rfl, _, rfl, ite2 (fun _ => ?_) (fun _ => ?_)⟩
      · refine ⟨.ref d, rfl, d, l, rfl, W6.1, fun H7 v e D7 f7 sv fv => ?_⟩
        have W7 := W6.draw D7 f7
        obtain ⟨_, _, _, _, _, xs, ds, h, sh, fi, hn⟩ := id W7
        obtain ⟨k, _, hk, _, _, ix, _⟩ := at_some (xs := xs) t0 (by rw [hn]; exact t1)
        refine ⟨.ref wl, rfl, .int at_, rfl, wl, xs, at_, k, rfl, rfl, h, ix, rfl, ?_⟩
        exact W7.put (fun as hd hl no => (sh as hd hl no).set (sv as hd hl (W6.occ no)) k) (fun e' he' => (List.mem_or_eq_of_mem_set he').elim (fi e') (fun z => by rw [z]; exact fv)) (by rw [List.length_set]; exact hn)
      · exact ⟨rfl, W6⟩
    rintro σ' H7 ⟨rfl, W7⟩
    -- if way == 3
    refine ⟨fun σ' H' => σ' = [some (.ref d), some (.int way), some (.ref wl), some (.int at_)] ∧ WordW H H' d l wl (· = 3), ?_, ?_⟩
    · refine ⟨.int way, rfl, rfl, _, rfl, ite2 (fun _ => ?_) (fun _ => ?_)⟩
      · refine ⟨.ref d, rfl, d, l, rfl, W7.1, fun H8 v e D8 f8 sv fv => ?_⟩
        have W8 := W7.draw D8 f8
        refine ⟨.ref wl, rfl, .int at_, rfl, _, _, rfl, rfl, .ref d, rfl, d, l, 2, rfl, D8, by decide, by decide, fun H9 u D9 f9 u0 u1 => ?_⟩
        have W9 := W8.draw D9 f9
        obtain ⟨_, _, _, _, _, xs, ds, h, sh, fi, hn⟩ := id W9
        have hn3 : xs.length = 3 := hn
        obtain ⟨k, _, hk, _, _, ix, _⟩ := at_some (xs := xs) (j := (at_ + 1 + u) % 3) (Int.emod_nonneg _ (by decide)) (by rw [hn3]; exact Int.emod_lt_of_pos _ (by decide))
        refine ⟨_, _, rfl, rfl, _, _, rfl, rfl, (show (0 : Int) < 3 by decide), wl, xs, _, k, rfl, rfl, h, ix, rfl, ?_⟩
        exact W9.put (fun as hd hl no => (sh as hd hl no).set ((sv as hd hl (W7.occ no)).same (hid_fr f9 hd hl)) k) (fun e' he' => (List.mem_or_eq_of_mem_set he').elim (fi e') (fun z => by rw [z]; exact fv)) (by rw [List.length_set]; exact hn)
      · exact ⟨rfl, W7⟩
    clear W6 W7 f6 D6
    rintro σ' H7 ⟨rfl, W7⟩
    -- if way == 4
    refine ⟨fun σ' H' => σ' = [some (.ref d), some (.int way), some (.ref wl), some (.int at_)] ∧ WordW H H' d l wl (fun m => m = 3 ∨ (way = 4 ∧ m = 4)), ?_, ?_⟩
    · refine ⟨.int way, rfl, rfl, _, rfl, ite2 (fun e4 => ?_) (fun _ => ?_)⟩
      · have w4 : way = 4 := V.int.inj (of_decide_eq_true e4)
        obtain ⟨_, _, _, _, _, xs0, ds0, h0, _⟩ := id W7
        refine ⟨.ref wl, rfl, .inl ⟨rfl, _, SqL.of h0⟩, ?_⟩
        refine ⟨.ref d, rfl, d, l, 4, rfl, W7.1, by decide, by decide, fun H8 pz D8 f8 p0 p1 => ?_⟩
        have W8 := W7.draw D8 f8
        obtain ⟨_, _, _, _, _, xs, ds, h, sh, fi, hn⟩ := id W8
        have hn3 : xs.length = 3 := hn
        obtain ⟨k, x, hk, hx, ax, _, _⟩ := at_some (xs := xs) t0 (by rw [hn3]; exact t1)
        obtain ⟨ex, hex, _⟩ := (sh [d, l] (by simp) (by simp) W8.two).get hx
        have sx : ∀ as, d ∈ as → l ∈ as → (∀ b ∈ as, b = wl ∨ H b ≠ none) → Sh (hid as H8) x ex := fun as hd hl no => by
          obtain ⟨e', he', sx⟩ := (sh as hd hl no).get hx
          cases Option.some.inj (hex.symm.trans he')
          exact sx
        refine ⟨.ref wl, rfl, .int at_, rfl, wl, _, _, x, rfl, rfl, SqL.of h, ax, ?_⟩
        refine ⟨.ref d, rfl, d, l, rfl, D8, fun H9 v e D9 f9 sv fv => ?_⟩
        have W9 := W8.draw D9 f9
        refine ⟨sl2, fun pl npl => ?_⟩
        have sp_ := same_upd (o := .lst [x, v]) npl
        refine ⟨.ref d, rfl, d, l, 2, rfl, D9.same sp_, by decide, by decide, fun H10 u D10 f10 u0 u1 => ?_⟩
        have W10 := (W9.draw (D9.same sp_) (Fr.of sp_)).draw D10 f10
        have opl := D9.out (Same.refl H9) npl
        have hpl := f10 pl _ (fun z => opl (by rw [z]; simp)) (fun z => opl (by rw [z]; simp)) upd_same
        have hidS : ∀ as, d ∈ as → l ∈ as → Same (hid as H9) (hid as H10) := fun as hd hl => (hid_same sp_).trans (hid_fr f10 hd hl)
        obtain ⟨_, y, _, hy, ay, _, _⟩ := at_some (xs := [x, v]) u0 u1
        have sxy : ∀ as, d ∈ as → l ∈ as → (∀ b ∈ as, b = wl ∨ H b ≠ none) → ShAll (hid as H10) [x, v] [ex, e] := fun as hd hl no =>
          .cons ((sx as hd hl no).same ((hid_fr f9 hd hl).trans (hidS as hd hl))) (.cons ((sv as hd hl (W8.occ no)).same (hidS as hd hl)) .nil)
        obtain ⟨ey, hey, _⟩ := (sxy [d, l] (by simp) (by simp) W8.two).get hy
        have sy : ∀ as, d ∈ as → l ∈ as → (∀ b ∈ as, b = wl ∨ H b ≠ none) → Sh (hid as H10) y ey := fun as hd hl no => by
          obtain ⟨e', he', sy⟩ := (sxy as hd hl no).get hy
          cases Option.some.inj (hey.symm.trans he')
          exact sy
        have fy : fineB 200 5 ey = true := by
          rcases List.mem_cons.mp (List.mem_of_getElem? hey) with rfl | z
          · exact fi _ (List.mem_of_getElem? hex)
          · rcases List.mem_cons.mp z with rfl | z
            · exact fv
            · cases z
        refine ⟨pl, _, _, y, rfl, rfl, SqL.of hpl, ay, ?_⟩
        obtain ⟨_, _, _, _, _, xs2, ds2, h2, sh2, fi2, hn2⟩ := id W10
        have hn2 : xs2.length = 3 := hn2
        refine ⟨wl, xs2, pz, y, rfl, rfl, h2, Nat.lt_of_lt_of_le (show xs2.length < 64 by omega) (by decide), p0, by omega, rfl, ?_⟩
        refine W10.put (fun as hd hl no => (((sh2 as hd hl no).take pz.toNat).append (.cons (sy as hd hl no) .nil)).append ((sh2 as hd hl no).drop pz.toNat)) (fun e' he' => ?_) (.inr ⟨w4, ?_⟩)
        · rcases List.mem_append.mp he' with z | z
          · rcases List.mem_append.mp z with z | z
            · exact fi2 _ (List.mem_of_mem_take z)
            · rw [List.mem_singleton.mp z]
              exact fy
          · exact fi2 _ (List.mem_of_mem_drop z)
        · rw [List.length_append, List.length_append, List.length_take, List.length_drop, List.length_singleton, hn2]
          omega
      · exact ⟨rfl, W7.imp fun m h => .inl h⟩
    clear W7
    rintro σ' H7 ⟨rfl, W7⟩
    -- if way == 5
    refine ⟨fun σ' H' => σ' = [some (.ref d), some (.int way), some (.ref wl), some (.int at_)] ∧ WordW H H' d l wl (fun m => 0 < m ∧ m ≤ 4), ?_, ?_⟩
    · refine ⟨.int way, rfl, rfl, _, rfl, ite2 (fun e5 => ?_) (fun _ => ?_)⟩
      · have w5 : way = 5 := V.int.inj (of_decide_eq_true e5)
        obtain ⟨_, _, _, _, _, xs, ds, h, sh, fi, hn⟩ := id W7
        have hn3 : xs.length = 3 := by
          rcases hn with z | z
          · exact z
          · omega
        obtain ⟨k, x, hk, hx, ax, ix, rfl⟩ := at_some (xs := xs) t0 (by rw [hn3]; exact t1)
        refine ⟨.ref wl, rfl, .inl ⟨rfl, _, SqL.of h⟩, .int (k : Int), rfl, wl, xs, k, k, x, rfl, rfl, h, by omega, by omega, (ixN_seq ix).1, hx, rfl, ?_⟩
        refine W7.put (fun as hd hl no => (sh as hd hl no).erase k) (fun e' he' => fi _ (List.mem_of_mem_eraseIdx he')) ?_
        rw [List.length_eraseIdx_of_lt hk]
        omega
      · exact ⟨rfl, W7.imp fun m h => by omega⟩
    clear W7
    rintro σ' H7 ⟨rfl, W7⟩
    obtain ⟨D7, s7, o7, sm, fr, xs, ds, h, sh, fi, hn⟩ := id W7
    have len4 : ds.length ≤ 4 := by rw [← (sh [d, l] (by simp) (by simp) W7.two).length]; omega
    have occ : ∀ as : List Addr, (∀ b ∈ as, H b ≠ none) → ∀ b ∈ as, H7 b ≠ none := fun as no => W7.occ fun b hb => .inr (no b hb)
    -- if way == 6
    refine ⟨.int way, rfl, rfl, _, rfl, ite2 (fun _ => ?_) (fun _ => ?_)⟩
    · refine ⟨.ref wl, rfl, ?_⟩
      exact q H7 _ _ D7 s7 (fun as hd hl no => .lst (by rw [hid_at (fun z => no _ z fr)]; exact h) sm (sh as hd hl fun b hb => .inr (no b hb))) (fine_mono (fine_lst fi len4) (by decide) (by decide))
    -- if way == 7
    refine ⟨.int way, rfl, rfl, _, rfl, ite2 (fun _ => ?_) (fun _ => ?_)⟩
    · refine ⟨.ref d, rfl, d, l, rfl, D7, fun H8 v e D8 f8 sv fv => ?_⟩
      exact q H8 _ _ D8 (s7.trans (hid_fr f8 (by simp) (by simp))) (fun as hd hl no => sv as hd hl (occ as no)) (fine_mono fv (by decide) (by decide))
    -- if way == 8
    refine ⟨.int way, rfl, rfl, _, rfl, ite2 (fun _ => ?_) (fun _ => ?_)⟩
    · refine ⟨.ref wl, rfl, wl, xs, rfl, .inl ⟨SqL.of h, fun t nt => ?_⟩⟩
      have st := same_upd (o := .tup xs) nt
      refine ⟨sl1, fun p np => ?_⟩
      have sp_ := same_upd (o := .tup [.ref t]) np
      have ot := D7.out (Same.refl H7) nt
      have op := D7.out st np
      refine ⟨.ref d, rfl, d, l, 3, rfl, (D7.same st).same sp_, by decide, by decide, fun H8 u D8 f8 u0 u1 => ?_⟩
      have nt8 := f8 t _ (fun z => ot (by rw [z]; simp)) (fun z => ot (by rw [z]; simp)) (sp_ _ _ upd_same)
      have np8 := f8 p _ (fun z => op (by rw [z]; simp)) (fun z => op (by rw [z]; simp)) upd_same
      have hS : ∀ as, d ∈ as → l ∈ as → Same (hid as H7) (hid as H8) := fun as hd hl => ((hid_same st).trans (hid_same sp_)).trans (hid_fr f8 hd hl)
      have sht : ∀ as, d ∈ as → l ∈ as → (∀ b ∈ as, H b ≠ none) → Sh (hid as H8) (.ref t) (.tuple ds) := fun as hd hl no =>
        .tup (by rw [hid_at (fun z => occ as no _ z nt)]; exact nt8) ((sh as hd hl fun b hb => .inr (no b hb)).same (hS as hd hl))
      have ft := fine_tup fi len4
      refine ⟨_, _, rfl, rfl, p, 1 + u, [.ref t], rfl, rfl, SqT.of np8, (fun z => by cases z), by omega, by omega, by show 1 ≤ 1000; decide, fun _ => ?_, fun k2 r nr => ?_⟩
      · exact q H8 _ _ D8 (s7.trans (hS _ (by simp) (by simp))) (fun as hd hl no => .tup (by rw [hid_at (fun z => occ as no _ z (st.free np))]; exact np8) (.cons (sht as hd hl no) .nil)) (fine_mono (fine_tup (k := 1) (ds := [.tuple ds]) (fun e he => by rw [List.mem_singleton.mp he]; exact ft) (Nat.le_refl _)) (by decide) (by decide))
      · have sr := same_upd (o := .tup (List.replicate (1 + u).toNat [V.ref t]).flatten) nr
        have reps : ∀ (as : List Addr) (n : Nat), d ∈ as → l ∈ as → (∀ b ∈ as, H b ≠ none) → ShAll (hid as (upd H8 r (.tup (List.replicate (1 + u).toNat [V.ref t]).flatten))) (List.replicate n [V.ref t]).flatten (List.replicate n (.tuple ds)) := fun as n hd hl no => by
          induction n with
          | zero => exact .nil
          | succ n ih =>
            rw [List.replicate_succ, List.replicate_succ, List.flatten_cons]
            exact .cons ((sht as hd hl no).same (hid_same sr)) ih
        have nr7 : H7 r = none := by
          cases hz : H7 r with
          | none => rfl
          | some o =>
            have or := D8.out (Same.refl H8) nr
            have := hS [d, l] (by simp) (by simp) r o (by rw [hid_at or]; exact hz)
            rw [hid_at or, nr] at this
            cases this
        refine q _ _ _ (D8.same sr) ((s7.trans (hS _ (by simp) (by simp))).trans (hid_same sr)) (fun as hd hl no => .tup (by rw [hid_at (fun z => occ as no _ z nr7)]; exact upd_same) (reps as _ hd hl no)) (fine_mono (fine_tup (k := 3) (fun e he => by rw [List.eq_of_mem_replicate he]; exact ft) (by rw [List.length_replicate]; omega)) (by decide) (by decide))
    · refine ⟨.ref wl, rfl, wl, xs, rfl, .inl ⟨SqL.of h, fun t nt => ?_⟩⟩
      have st := same_upd (o := .tup xs) nt
      exact q _ _ _ (D7.same st) (s7.trans (hid_same st)) (fun as hd hl no => .tup (by rw [hid_at (fun z => occ as no _ z nt)]; exact upd_same) ((sh as hd hl fun b hb => .inr (no b hb)).same (hid_same st))) (fine_mono (fine_tup fi len4) (by decide) (by decide))
end
end Gk

set_option Elab.async false
set_option linter.all false
set_option maxRecDepth 100000
namespace Gk
open PySem PySem.Spec PyProof.Rows L2
section
variable {P : Program} {w : World} {K : PySem.W.Frag} {mg : Str → Option Value} {base : Heap}
def sp_law (K : PySem.W.Frag) : Sp := fun vs H Q _ => ∃ (a : Addr) (ns : List Int), vs = [.ref a] ∧ SqL K H a (ns.map V.int) ∧ ns.length ≤ 63 ∧ ∀ H', Q (.bl true) H'
theorem word_fine {i : Int} {c : Bool} {x y : Int} (hx : x = 0 ∨ x = 1) (hy : y = 0 ∨ y = 1) : fineB 4000 10 (.tuple [.int x, .int y, .bool c]) = true := by
  rcases hx with rfl | rfl <;> rcases hy with rfl | rfl <;> cases c <;> decide +kernel
theorem ok_law (T : Tx K mg) : FnG P w K mg base CX0 4 T.f_law T.fd_law ["_law_script"] (sp_law K) := by
  refine okG0 T.F_law sc_law (fun vs H Q E h => ?_) (fun cdv A outer s H vs Q E nothing hr h => ?_)
  · obtain ⟨a, ns, rfl, _⟩ := h
    rfl
  · obtain ⟨a, ns, rfl, hS, hlen, q⟩ := h
    refine ⟨_, (pss_cons (ps_set (i := 1) sc_law.nd rfl (by first | exact .inl rfl | exact .inr rfl) (pe_call (ok_deck T) (hr.mono (by decide)) (by rfl) T.g_deck T.F_deck.kp T.b_deck .nil pass0 (pa_cons (pv 0) pa_nil))) (pss_cons (ps_setLc (i := 2) (own := [("_law_number", 7)]) (by rfl) sc_law.nd rfl rfl (sw_true rfl rfl rfl (by decide +kernel)) (pi_range1 (by rfl) T.m_range (pa_cons pe_int pa_nil)) (blkOk_by (own := [("_law_number", 7)]) (N := ["_law_script", "_law_deck_here", "_law_things", "_law_thing_here", "_law_kept", "_law_turn", "_law_told", "_law_number"]) (sc := defScope s_law) (by decide +kernel)) (fun _ _ _ _ _ => (pg_name (i := 7) sc_law.nd rfl (by first | exact .inl rfl | exact .inr rfl))) (fun _ _ _ _ _ => pts_nil) (fun _ _ _ _ _ => (pe_tup (pa_cons (pe_op op_fdiv (pv 7) pe_int) (pa_cons (pe_op op_mod (pe_op op_fdiv (pv 7) pe_int) pe_int) (pa_cons (pe_cmpR op_eq (pe_op op_mod (pv 7) pe_int) pe_int (nomark _)) pa_nil)))))) (pss_cons (ps_set (i := 2) sc_law.nd rfl (by first | exact .inl rfl | exact .inr rfl) (pe_op op_cat (pv 2) (pe_lc (own := [("_law_turn", 5)]) (by rfl) sc_law.nd (pi_range1 (by rfl) T.m_range (pa_cons pe_int pa_nil)) (blkOk_by (own := [("_law_turn", 5)]) (N := ["_law_script", "_law_deck_here", "_law_things", "_law_thing_here", "_law_kept", "_law_turn", "_law_told", "_law_number"]) (sc := defScope s_law) (by decide +kernel)) (fun _ _ _ _ _ => (pg_name (i := 5) sc_law.nd rfl (by first | exact .inl rfl | exact .inr rfl))) (fun _ _ _ _ _ => pts_nil) (fun _ _ _ _ _ => (pe_call (ok_thing T) (hr.mono (by decide)) (by rfl) T.g_thing T.F_thing.kp T.b_thing .nil pass0 (pa_cons (pv 1) pa_nil)))))) (pss_cons (ps_for PassesOwn.never rfl (pi_list (pv 2)) (pg_name (i := 3) sc_law.nd rfl (by first | exact .inl rfl | exact .inr rfl)) (pss_cons (ps_set (i := 4) sc_law.nd rfl (by first | exact .inl rfl | exact .inr rfl) (pe_callB (call_repr nothing hr.units) (by rfl) T.m_repr (by decide +kernel) (pa_cons (pv 3) pa_nil))) (pss_one (ps_for PassesOwn.never rfl (pi_range1 (by rfl) T.m_range (pa_cons pe_int pa_nil)) (pg_name (i := 5) sc_law.nd rfl (by first | exact .inl rfl | exact .inr rfl)) (pss_cons (ps_set (i := 6) sc_law.nd rfl (by first | exact .inl rfl | exact .inr rfl) (pe_call (ok_is_word T) (hr.mono (by decide)) (by rfl) T.g_is_word T.F_is_word.kp T.b_is_word .nil pass0 (pa_cons (pv 3) pa_nil))) (pss_one (ps_if (pw_or (pt_not (pt_val (pe_callB call_isi (by rfl) T.m_isinstance (by decide +kernel) (pa_cons (pv 6) (pa_cons (pe_bltn (v := .ty "bool") (u := .type "bool") (by rfl) T.m_bool (by decide +kernel) rfl) pa_nil))))) (pw_or (pt_cmpR op_ne (pv 6) (pe_call (ok_due T) (hr.mono (by decide)) (by rfl) T.g_due T.F_due.kp T.b_due .nil pass0 (pa_cons (pv 3) pa_nil)) (nomark _)) (pw_or1 (pt_cmpR op_ne (pe_callB (call_repr nothing hr.units) (by rfl) T.m_repr (by decide +kernel) (pa_cons (pv 3) pa_nil)) (pv 4) (nomark _))))).pt (pss_one (ps_ret pe_bl)) pss_nil))))))) (pss_one (ps_ret pe_bl)))))), ?_⟩
    refine ⟨.ref a, rfl, a, ns, rfl, hS, hlen, fun H1 d l s1 D1 => ?_⟩
    refine ⟨8, rfl, by decide, by decide, fun L nL => ?_⟩
    have oL := D1.out (Same.refl H1) nL
    refine lc_range (n := 8) (fun j H' => Same H1 H' ∧ ∃ xs ds, H' L = some (.lst xs) ∧ ShAll (hid [d, l, L] H') xs ds ∧ (∀ e ∈ ds, fineB 4000 10 e = true) ∧ xs.length = j) ⟨same_upd nL, [], [], upd_same, .nil, (fun e he => by cases he), rfl⟩ ?_ ?_
    · rintro j H2 hj ⟨s2, xs, ds, h2, sh, fi, hn⟩
      refine ⟨rfl, ?_⟩
      refine ⟨.int (0 + (j : Int)), rfl, _, _, rfl, rfl, ⟨by decide, by decide⟩, .int (0 + (j : Int)), rfl, _, _, rfl, rfl, ⟨by decide, by decide⟩, _, _, rfl, rfl, (show (0 : Int) < 2 by decide), .int (0 + (j : Int)), rfl, _, _, rfl, rfl, (show (0 : Int) < 2 by decide), rfl, sl3, fun t nt => ?_⟩
      dsimp only
      have x01 : (0 + (j : Int)) / 4 = 0 ∨ (0 + (j : Int)) / 4 = 1 := by omega
      have y01 : (0 + (j : Int)) / 2 % 2 = 0 ∨ (0 + (j : Int)) / 2 % 2 = 1 := by omega
      revert x01 y01
      generalize (0 + (j : Int)) / 4 = x
      generalize (0 + (j : Int)) / 2 % 2 = y
      generalize decide (V.int ((0 + (j : Int)) % 2) = V.int 1) = c
      intro x01 y01
      have st := same_upd (o := .tup [.int x, .int y, .bl c]) nt
      have ntL : t ≠ L := (ne_of_none h2 nt).symm
      refine ⟨xs, st _ _ h2, Nat.lt_of_lt_of_le (show xs.length < 64 by omega) (by decide), fun b o e => ?_, xs ++ [.ref t], ds ++ [.tuple [.int x, .int y, .bool c]], upd_same, ?_, fun e he => ?_, by rw [List.length_append, hn]; rfl⟩
      · rw [upd_ne (ne_of_none e nL)]
        exact st _ _ (s2 _ _ e)
      · have hu := hid_upd (as := [d, l, L]) (H := upd H2 t (.tup [.int x, .int y, .bl c])) (p := L) (o := .lst (xs ++ [.ref t])) (by simp)
        refine (sh.same ((hid_same st).trans hu)).append (.cons (.tup ?_ (.cons (.int x) (.cons (.int y) (.cons (.bl c) .nil)))) .nil)
        have ot := (D1.same s2).out (Same.refl H2) nt
        have o3 : t ∉ [d, l, L] := fun z => by
          rcases List.mem_cons.mp z with z | z
          · exact ot (by rw [z]; simp)
          · rcases List.mem_cons.mp z with z | z
            · exact ot (by rw [z]; simp)
            · exact ntL (List.mem_singleton.mp z)
        rw [hid_at o3, upd_ne ntL, upd_same]
      · rcases List.mem_append.mp he with z | z
        · exact fi e z
        · rw [List.mem_singleton.mp z]
          exact word_fine (i := 0) x01 y01
    · rintro H2 ⟨s2, xs, ds, h2, sh, fi, hn⟩
      have D2 := D1.same s2
      -- things + [..]
      refine ⟨.ref L, rfl, 24, rfl, by decide, by decide, fun M nM => ?_⟩
      have oM := D2.out (Same.refl H2) nM
      refine lc_range (n := 24) (fun j H' => Deck H' d l ∧ Same (hid [d, l] H2) (hid [d, l] H') ∧ ∃ ys es, H' M = some (.lst ys) ∧ ShAll (hid [d, l, M] H') ys es ∧ (∀ e ∈ es, fineB 4000 10 e = true) ∧ ys.length = j) ⟨D2.new nM, hid_same (same_upd nM), [], [], upd_same, .nil, (fun e he => by cases he), rfl⟩ ?_ ?_
      · rintro j H3 hj ⟨D3, s3, ys, es, h3, sh3, fi3, hn3⟩
        refine ⟨rfl, ?_⟩
        refine ⟨.ref d, rfl, d, l, rfl, D3, fun H4 v e D4 s4 sv fv => ?_⟩
        have h4 : H4 M = some (.lst ys) := by
          have := s4 M _ (by rw [hid_at oM]; exact h3)
          rw [hid_at oM] at this
          exact this
        have occ : ∀ b ∈ [d, l, M], H3 b ≠ none := fun b hb z => by
          obtain ⟨_, _, _, q1, q2, _⟩ := D3
          rcases List.mem_cons.mp hb with rfl | hb
          · rw [q1] at z; cases z
          · rcases List.mem_cons.mp hb with rfl | hb
            · rw [q2] at z; cases z
            · rw [List.mem_singleton.mp hb, h3] at z; cases z
        have sM : Same (hid [d, l, M] H3) (hid [d, l, M] H4) := fun b o z => by
          by_cases hb : b ∈ [d, l, M]
          · rw [hid_in hb] at z; cases z
          · have hb2 : b ∉ [d, l] := fun k => hb (by
              rcases List.mem_cons.mp k with rfl | k
              · simp
              · rw [List.mem_singleton.mp k]; simp)
            rw [hid_at hb] at z ⊢
            have := s4 b o (by rw [hid_at hb2]; exact z)
            rw [hid_at hb2] at this
            exact this
        have sv' := sv [d, l, M] (by simp) (by simp) occ
        have hu := hid_upd (as := [d, l, M]) (H := H4) (p := M) (o := .lst (ys ++ [v])) (by simp)
        refine ⟨ys, h4, Nat.lt_of_lt_of_le (show ys.length < 64 by omega) (by decide), ?_, fun b o z => ?_, ys ++ [v], es ++ [e], upd_same, ((sh3.same sM).append (.cons sv' .nil)).same hu, fun e' he' => ?_, by rw [List.length_append, hn3]; rfl⟩
        · obtain ⟨ne, cs, z, q1, q2, r⟩ := D4
          exact ⟨ne, cs, z, by rw [upd_ne (fun k => oM (by rw [← k]; simp))]; exact q1, by rw [upd_ne (fun k => oM (by rw [← k]; simp))]; exact q2, r⟩
        · have z2 := s4 _ _ (s3 _ _ z)
          have nb : b ≠ M := fun k => by
            rw [k, hid_at oM, nM] at z
            cases z
          by_cases hb : b ∈ [d, l]
          · rw [hid_in hb] at z2; cases z2
          · rw [hid_at hb] at z2 ⊢
            rw [upd_ne nb]
            exact z2
        · rcases List.mem_append.mp he' with z | z
          · exact fi3 e' z
          · rw [List.mem_singleton.mp z]
            exact fv
      · rintro H3 ⟨D3, s3, ys, es, h3, sh3, fi3, hn3⟩
        have hL3 : H3 L = some (.lst xs) := by
          have := s3 L _ (by rw [hid_at oL]; exact h2)
          rw [hid_at oL] at this
          exact this
        refine ⟨L, M, xs, ys, rfl, rfl, hL3, h3, ?_, fun la nla => ?_⟩
        · rw [hn, hn3]
          decide
        have sl := same_upd (o := .lst (xs ++ ys)) nla
        have shx : ShAll (upd H3 la (.lst (xs ++ ys))) xs ds := sh.same (((hid_sub (bs := [d, l]) fun b hb => by
          rcases List.mem_cons.mp hb with rfl | hb
          · simp
          · rw [List.mem_singleton.mp hb]; simp).trans s3).trans (hid_le.trans sl))
        have shy : ShAll (upd H3 la (.lst (xs ++ ys))) ys es := sh3.same (hid_le.trans sl)
        have shA := shx.append shy
        have fiA : ∀ e ∈ ds ++ es, fineB 4000 10 e = true := fun e he => (List.mem_append.mp he).elim (fi e) (fi3 e)
        have hla : (upd H3 la (.lst (xs ++ ys))) la = some (.lst (xs ++ ys)) := upd_same
        revert shA hla
        generalize upd H3 la (.lst (xs ++ ys)) = H5
        generalize xs ++ ys = zs
        intro shA hla
        refine ⟨.ref la, rfl, la, rfl, ⟨_, SqL.of hla⟩, for_list (K := K) (a := la) (xs := zs) (fun i σ H' => ∃ y3 y4 y5 y6 y7, σ = [some (.ref a), some (.ref d), some (.ref la), y3, y4, y5, y6, y7] ∧ Same H5 H') ⟨_, _, _, _, _, rfl, Same.refl _⟩ (fun i σ H' _ ⟨_, _, _, _, _, _, z⟩ => SqL.of (z _ _ hla)) ?_ ?_⟩
        · rintro i v σ H6 hv ⟨y3, y4, y5, y6, y7, rfl, s6⟩
          obtain ⟨e, he, sh⟩ := shA.get hv
          have fe := fiA e (List.mem_of_getElem? he)
          obtain ⟨able, _, _, deep⟩ := fine_iff.mp fe
          have fits := fine_fits fe (by decide)
          refine ⟨v, rfl, v, e, rfl, sh.same s6, able, fits, by omega, ?_⟩
          refine ⟨2, rfl, by decide, by decide, for_range (n := 2) (fun j σ H' => ∃ y5 y6 y7, σ = [some (.ref a), some (.ref d), some (.ref la), some v, some (.str e.shown), y5, y6, y7] ∧ Same H5 H') ⟨_, _, _, rfl, s6⟩ ?_ ?_⟩
          · rintro j σ H7 hj ⟨y5, y6, y7, rfl, s7⟩
            refine ⟨v, rfl, v, e, rfl, sh.same s7, ?_⟩
            refine ⟨.bl (isWordD e), rfl, _, _, _, _, true, rfl, .ty _, .base (.bl _), kit_ty (by decide +kernel), true, rfl, iteF ?_⟩
            refine ⟨.bl (isWordD e), rfl, v, rfl, v, e, rfl, sh.same s7, fun H8 s8 => ⟨rfl, false, ?_, iteF ?_⟩⟩
            · rw [decide_eq_true rfl]
              rfl
            refine ⟨v, rfl, v, e, rfl, (sh.same s7).same s8, able, fits, by omega, .str e.shown, rfl, rfl, false, ?_, iteF ?_⟩
            · rw [decide_eq_true rfl]
              rfl
            exact ⟨_, _, _, rfl, s7.trans s8⟩
          · rintro σ H7 ⟨y5, y6, y7, rfl, s7⟩
            exact ⟨_, _, _, _, _, rfl, s7⟩
        · rintro σ H6 ⟨y3, y4, y5, y6, y7, rfl, s6⟩
          exact q H6
end
theorem all_mk {l : PySem.W.OpenLaw} {w : World} {K : PySem.W.Frag} {h : Heap} {mg : Str → Option Value} {fa f1 f2 f3 f4 f5 f6 f7 f8 f9 : Addr} (X : K.In h) (G : h.Ns mainGlobals mg) (hfa : mg "law" = some (.ref fa))
    {od1 an1 od2 an2 od3 an3 od4 an4 od5 an5 od6 an6 od7 an7 od8 an8 od9 an9 : Option Addr} {sl1 sl2 sl3 sl4 sl5 sl6 sl7 sl8 sl9 : Array (Option Value)} {oc1 kV1 dc1 pm1 cd1 ct1 oc2 kV2 dc2 pm2 cd2 ct2 oc3 kV3 dc3 pm3 cd3 ct3 oc4 kV4 dc4 pm4 cd4 ct4 oc5 kV5 dc5 pm5 cd5 ct5 oc6 kV6 dc6 pm6 cd6 ct6 oc7 kV7 dc7 pm7 cd7 ct7 oc8 kV8 dc8 pm8 cd8 ct8 oc9 kV9 dc9 pm9 cd9 ct9 : Value}
    (a1 : PySem.W.nsIn K mainGlobals "is_whole" = some (some (.ref f1))) (l1 : K.lookup f1 = some ⟨oc1, od1, .func (PySem.W.fnOf "is_whole" "is_whole" (defArgs s_is_whole) (defBody s_is_whole) (defScope s_is_whole) .none kV1 dc1 pm1 an1 cd1 ct1), sl1⟩) (c1 : PySem.W.codeIn K cd1 "is_whole" = true) (k1 : PySem.W.keepIn K (.ref f1) = true)
    (a2 : PySem.W.nsIn K mainGlobals "is_worth" = some (some (.ref f2))) (l2 : K.lookup f2 = some ⟨oc2, od2, .func (PySem.W.fnOf "is_worth" "is_worth" (defArgs s_is_worth) (defBody s_is_worth) (defScope s_is_worth) .none kV2 dc2 pm2 an2 cd2 ct2), sl2⟩) (c2 : PySem.W.codeIn K cd2 "is_worth" = true) (k2 : PySem.W.keepIn K (.ref f2) = true)
    (a3 : PySem.W.nsIn K mainGlobals "is_word" = some (some (.ref f3))) (l3 : K.lookup f3 = some ⟨oc3, od3, .func (PySem.W.fnOf "is_word" "is_word" (defArgs s_is_word) (defBody s_is_word) (defScope s_is_word) .none kV3 dc3 pm3 an3 cd3 ct3), sl3⟩) (c3 : PySem.W.codeIn K cd3 "is_word" = true) (k3 : PySem.W.keepIn K (.ref f3) = true)
    (a4 : PySem.W.nsIn K mainGlobals "_law_deck" = some (some (.ref f4))) (l4 : K.lookup f4 = some ⟨oc4, od4, .func (PySem.W.fnOf "_law_deck" "_law_deck" (defArgs s_deck) (defBody s_deck) (defScope s_deck) .none kV4 dc4 pm4 an4 cd4 ct4), sl4⟩) (c4 : PySem.W.codeIn K cd4 "_law_deck" = true) (k4 : PySem.W.keepIn K (.ref f4) = true)
    (a5 : PySem.W.nsIn K mainGlobals "_law_draw" = some (some (.ref f5))) (l5 : K.lookup f5 = some ⟨oc5, od5, .func (PySem.W.fnOf "_law_draw" "_law_draw" (defArgs s_draw) (defBody s_draw) (defScope s_draw) .none kV5 dc5 pm5 an5 cd5 ct5), sl5⟩) (c5 : PySem.W.codeIn K cd5 "_law_draw" = true) (k5 : PySem.W.keepIn K (.ref f5) = true)
    (a6 : PySem.W.nsIn K mainGlobals "_law_odd" = some (some (.ref f6))) (l6 : K.lookup f6 = some ⟨oc6, od6, .func (PySem.W.fnOf "_law_odd" "_law_odd" (defArgs s_odd) (defBody s_odd) (defScope s_odd) .none kV6 dc6 pm6 an6 cd6 ct6), sl6⟩) (c6 : PySem.W.codeIn K cd6 "_law_odd" = true) (k6 : PySem.W.keepIn K (.ref f6) = true)
    (a7 : PySem.W.nsIn K mainGlobals "_law_thing" = some (some (.ref f7))) (l7 : K.lookup f7 = some ⟨oc7, od7, .func (PySem.W.fnOf "_law_thing" "_law_thing" (defArgs s_thing) (defBody s_thing) (defScope s_thing) .none kV7 dc7 pm7 an7 cd7 ct7), sl7⟩) (c7 : PySem.W.codeIn K cd7 "_law_thing" = true) (k7 : PySem.W.keepIn K (.ref f7) = true)
    (a8 : PySem.W.nsIn K mainGlobals "_law_due" = some (some (.ref f8))) (l8 : K.lookup f8 = some ⟨oc8, od8, .func (PySem.W.fnOf "_law_due" "_law_due" (defArgs s_due) (defBody s_due) (defScope s_due) .none kV8 dc8 pm8 an8 cd8 ct8), sl8⟩) (c8 : PySem.W.codeIn K cd8 "_law_due" = true) (k8 : PySem.W.keepIn K (.ref f8) = true)
    (a9 : PySem.W.nsIn K mainGlobals "law" = some (some (.ref f9))) (l9 : K.lookup f9 = some ⟨oc9, od9, .func (PySem.W.fnOf "law" "law" (defArgs s_law) (defBody s_law) (defScope s_law) .none kV9 dc9 pm9 an9 cd9 ct9), sl9⟩) (c9 : PySem.W.codeIn K cd9 "law" = true) (k9 : PySem.W.keepIn K (.ref f9) = true)
    (z_bool : PySem.W.nsIn K mainGlobals "bool" = some none)
    (z_int : PySem.W.nsIn K mainGlobals "int" = some none)
    (z_isinstance : PySem.W.nsIn K mainGlobals "isinstance" = some none)
    (z_len : PySem.W.nsIn K mainGlobals "len" = some none)
    (z_list : PySem.W.nsIn K mainGlobals "list" = some none)
    (z_range : PySem.W.nsIn K mainGlobals "range" = some none)
    (z_repr : PySem.W.nsIn K mainGlobals "repr" = some none)
    (z_sum : PySem.W.nsIn K mainGlobals "sum" = some none)
    (z_tuple : PySem.W.nsIn K mainGlobals "tuple" = some none) :
    ∃ fd : FuncData, (∀ (s : Shared) (v : Value), BindsTo s fd ⟨[v], []⟩ [("_law_script", v)]) ∧ ∀ base : Heap, K.In base → base.Ns mainGlobals mg → FnG l.prog w K mg base CX0 4 fa fd ["_law_script"] (sp_law K) := by
  have e := hfa.symm.trans (PySem.W.mg_of X G a9)
  cases e
  have F1 := fun_mk (st := s_is_whole) l1 c1 k1
  have b1 := F1.binds (ps := ["thing"]) fun _ _ _ _ _ _ us hl => match us, hl with | [_], _ => rfl
  have F2 := fun_mk (st := s_is_worth) l2 c2 k2
  have b2 := F2.binds (ps := ["thing"]) fun _ _ _ _ _ _ us hl => match us, hl with | [_], _ => rfl
  have F3 := fun_mk (st := s_is_word) l3 c3 k3
  have b3 := F3.binds (ps := ["thing"]) fun _ _ _ _ _ _ us hl => match us, hl with | [_], _ => rfl
  have F4 := fun_mk (st := s_deck) l4 c4 k4
  have b4 := F4.binds (ps := ["_law_script"]) fun _ _ _ _ _ _ us hl => match us, hl with | [_], _ => rfl
  have F5 := fun_mk (st := s_draw) l5 c5 k5
  have b5 := F5.binds (ps := ["_law_deck_here", "_law_most"]) fun _ _ _ _ _ _ us hl => match us, hl with | [_, _], _ => rfl
  have F6 := fun_mk (st := s_odd) l6 c6 k6
  have b6 := F6.binds (ps := ["_law_deck_here"]) fun _ _ _ _ _ _ us hl => match us, hl with | [_], _ => rfl
  have F7 := fun_mk (st := s_thing) l7 c7 k7
  have b7 := F7.binds (ps := ["_law_deck_here"]) fun _ _ _ _ _ _ us hl => match us, hl with | [_], _ => rfl
  have F8 := fun_mk (st := s_due) l8 c8 k8
  have b8 := F8.binds (ps := ["_law_thing_here"]) fun _ _ _ _ _ _ us hl => match us, hl with | [_], _ => rfl
  have F9 := fun_mk (st := s_law) l9 c9 k9
  have b9 := F9.binds (ps := ["_law_script"]) fun _ _ _ _ _ _ us hl => match us, hl with | [_], _ => rfl
  let T : Tx K mg := { f_is_whole := _, fd_is_whole := _, F_is_whole := F1, g_is_whole := PySem.W.mg_of X G a1, b_is_whole := b1, f_is_worth := _, fd_is_worth := _, F_is_worth := F2, g_is_worth := PySem.W.mg_of X G a2, b_is_worth := b2, f_is_word := _, fd_is_word := _, F_is_word := F3, g_is_word := PySem.W.mg_of X G a3, b_is_word := b3, f_deck := _, fd_deck := _, F_deck := F4, g_deck := PySem.W.mg_of X G a4, b_deck := b4, f_draw := _, fd_draw := _, F_draw := F5, g_draw := PySem.W.mg_of X G a5, b_draw := b5, f_odd := _, fd_odd := _, F_odd := F6, g_odd := PySem.W.mg_of X G a6, b_odd := b6, f_thing := _, fd_thing := _, F_thing := F7, g_thing := PySem.W.mg_of X G a7, b_thing := b7, f_due := _, fd_due := _, F_due := F8, g_due := PySem.W.mg_of X G a8, b_due := b8, f_law := _, fd_law := _, F_law := F9, g_law := PySem.W.mg_of X G a9, b_law := b9, m_bool := PySem.W.mg_none_of X G z_bool, m_int := PySem.W.mg_none_of X G z_int, m_isinstance := PySem.W.mg_none_of X G z_isinstance, m_len := PySem.W.mg_none_of X G z_len, m_list := PySem.W.mg_none_of X G z_list, m_range := PySem.W.mg_none_of X G z_range, m_repr := PySem.W.mg_none_of X G z_repr, m_sum := PySem.W.mg_none_of X G z_sum, m_tuple := PySem.W.mg_none_of X G z_tuple }
  exact ⟨_, fun s v => .of_eq rfl, fun base _ _ => ok_law T⟩
end Gk
open PySem PySem.W PyProof.Rows
set_option maxRecDepth 100000 in
set_option maxHeartbeats 0 in
theorem PySem.Challenge.cw_glitchnet_k14_what_is_a_word_holds : PySem.Challenge.rw_glitchnet_k14_what_is_a_word.Holds := by
  w_on; o_law; k_head; (case hw => w_witness2)
  k_fill
  refine Gk.walk_G (l := PySem.Challenge.rw_glitchnet_k14_what_is_a_word) (n := 63) (k := 4) (x := "_law_script") (CX := fun _ => L2.CX0) (sp := fun w => Gk.sp_law _) rfl (by decide) rfl ⟨rfl, by decide, by decide⟩ (fun w h Y => PySem.W.kIn_of Y) ?F (fun _ _ a ns hl _ hS => ⟨a, ns, rfl, hS, hl, fun _ => rfl⟩) (fun _ _ _ _ _ h => h)
  case F =>
    intro w mg fa h KX G hmg
    refine' Gk.all_mk KX G hmg ?a1 ?l1 ?c1 ?k1 ?a2 ?l2 ?c2 ?k2 ?a3 ?l3 ?c3 ?k3 ?a4 ?l4 ?c4 ?k4 ?a5 ?l5 ?c5 ?k5 ?a6 ?l6 ?c6 ?k6 ?a7 ?l7 ?c7 ?k7 ?a8 ?l8 ?c8 ?k8 ?a9 ?l9 ?c9 ?k9 ?z_bool ?z_int ?z_isinstance ?z_len ?z_list ?z_range ?z_repr ?z_sum ?z_tuple
    (case a1 => k_is)
    (case l1 => k_is)
    (case c1 => k_is)
    (case k1 => k_is)
    (case a2 => k_is)
    (case l2 => k_is)
    (case c2 => k_is)
    (case k2 => k_is)
    (case a3 => k_is)
    (case l3 => k_is)
    (case c3 => k_is)
    (case k3 => k_is)
    (case a4 => k_is)
    (case l4 => k_is)
    (case c4 => k_is)
    (case k4 => k_is)
    (case a5 => k_is)
    (case l5 => k_is)
    (case c5 => k_is)
    (case k5 => k_is)
    (case a6 => k_is)
    (case l6 => k_is)
    (case c6 => k_is)
    (case k6 => k_is)
    (case a7 => k_is)
    (case l7 => k_is)
    (case c7 => k_is)
    (case k7 => k_is)
    (case a8 => k_is)
    (case l8 => k_is)
    (case c8 => k_is)
    (case k8 => k_is)
    (case a9 => k_is)
    (case l9 => k_is)
    (case c9 => k_is)
    (case k9 => k_is)
    (case z_bool => k_is)
    (case z_int => k_is)
    (case z_isinstance => k_is)
    (case z_len => k_is)
    (case z_list => k_is)
    (case z_range => k_is)
    (case z_repr => k_is)
    (case z_sum => k_is)
    (case z_tuple => k_is)
