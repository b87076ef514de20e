import PyProof.Rows.All
import Wide.All
import OpenK.AllK
import Wide.FinOn
import HandS.Base
import HandS.Call
import HandS.List
import HandS.Comp
import HandS.Ends
import HandS.Words
import HandS.Codes
import HandS.TupAny
import HandS.More
import HandS.Iter
import HandS.Text
import HandS.Dict
import HandS.WordsList
import HandS.Evl
import HandS.TupMul
import HandS.IsInst
import HandS.Walk
import HandS.DictComp
import HandS.WordsDict
import PySem.Challenge.RW_listnames_k11_kinds_of_any_value
set_option Elab.async false
set_option linter.all false
set_option maxRecDepth 100000
namespace LN
open PySem PySem.Spec PyProof.Rows L2

/-! calls around which no text of a container is being made -/
abbrev Quiet (A : Around) : Prop := A.guards = some []

structure FnQ (P : Program) (w : World) (K : PySem.W.Frag) (mg : Str → Option Value) (base : Heap) (k : Nat) (f : Addr) (fd : FuncData) (ps : List Str) (sp : Sp) : Prop where
  size : ∀ vs H Q, sp vs H Q E0 → vs.length = ps.length
  go : ∀ (A : Around) (outer : List Env) (s : Shared) (H : Hp) (us : List Value) (vs : List V) (Q : VK), Quiet A → Room k A → Env0 P w K mg base A outer s H →
    BindsTo s fd ⟨us, []⟩ (ps.zip us) → Vals vs us → sp vs H Q E0 → codeAny (model P w) A (.call (.ref f) ⟨us, []⟩) (CR CX0 outer P w H s Q E0) s

section
variable {P : Program} {w : World} {K : PySem.W.Frag} {mg : Str → Option Value} {base : Heap}
theorem okQ {x qual : Str} {st : Stmt} {f : Addr} {fd : FuncData} {N ps : List Str} {k : Nat} {sp : Sp} (F : Fun K x qual st f fd) (S : FnScope N ps (defScope st))
    (size : ∀ vs H Q, sp vs H Q E0 → vs.length = ps.length)
    (body : ∀ (cdv : Value) (A : Around) (outer : List Env) (s : Shared) (H : Hp) (vs : List V) (Q : VK), Quiet A →
      Room k (A.deeper (envOfC qual (defScope st) s.heap.objs.size f cdv)) → sp vs H Q E0 →
      ∃ t, PSs (cxOf CX0 P w K mg base N qual (defScope st) f cdv A outer s H E0).nox (defBody st) t ∧ t { nx := fun _ H' => Q .non H', rt := Q } (start N vs) H) :
    FnQ P w K mg base (k + 1) f fd ps sp := by
  obtain ⟨oc, od, kV, doc, pm, an, cdv, ct, osl, rfl, lk, hcd⟩ := F.ex
  constructor
  · exact size
  intro A outer s H us vs Q quiet room env binds rel want
  have inHeap : K.In s.heap := env.mod.kin.keeps (fun b o e => (env.bs b o e).1)
  have noLim : s.heap.NoLimit := env.mod.nolimit.keeps (fun b o e => (env.bs b o e).1)
  have kinds : ∀ y ∈ ps.zip us, (defScope st).names.lookup y.1 = some .local ∨
      ((defScope st).names.lookup y.1 = some .cell ∧ ((cellsFrom (s.heap.objs.size + 1) (defScope st).names []).lookup y.1).isSome = true) := by
    intro y hy
    cases S.par y.1 (List.of_mem_zip (show (y.1, y.2) ∈ ps.zip us from hy)).1 with
    | inl q => exact .inl q
    | inr q => exact .inr ⟨q, PySem.W.cellsFrom_some _ _ _ (.inl q)⟩
  apply codeAny_call_function room.depth (inHeap _ _ lk) rfl S.co S.gen rfl (PySem.W.codeRec_of inHeap hcd) (binds _ _ _ _ _)
  apply wpAny_newFunctionEnv_cells S.kind kinds
  intro env' henv s1 entered
  subst henv
  refine ⟨noLim.keeps entered.toInCall.keep, codeAny_func ?_⟩
  obtain ⟨t, rule, reads⟩ := body cdv A outer s H vs Q quiet (room.deeper _) want
  have inv := inv_start (CX := CX0) (E := E0) S room.hd env (size _ _ _ want) rel entered
  refine wpAny_mono (rule.nox.run [] s1 (start N vs) H _ inv reads) ?_ (fun e s' hs => hs)
  intro fl s' hs
  cases fl with
  | ret u =>
    obtain ⟨v, σ', H', J, rv, q⟩ := hs
    exact ⟨v, H', J.os, J.bare, J.base, J.hok, rv, q⟩
  | next =>
    obtain ⟨σ', H', J, q⟩ := hs
    exact ⟨V.non, H', J.os, J.bare, J.base, J.hok, rfl, q⟩
  | brk =>
    obtain ⟨_, _, _, q⟩ := hs
    cases q
  | cont =>
    obtain ⟨_, _, _, q⟩ := hs
    cases q
end

section
variable {X : Cx} {k : Nat} {f : Addr} {fd : FuncData} {ps : List Str} {sp : Sp} {x : Str} {p pos : Pos} {e : Expr} {es : List Expr} {t : TA}
theorem callQ (F : FnQ X.prog X.w X.K X.mg X.base k f fd ps sp) (quiet : Quiet X.A) (room : Room k X.A) (hg : Gl X x) (hm : X.mg x = some (.ref f)) (hk : PySem.W.keepIn X.K (.ref f) = true)
    (hb : Binds X.K fd ps []) (args : PA X (e :: es) t) (hdb : (x == ("__debug__" : Str)) = false := by decide) (he : starEach (e :: es) X.env = (false, eval e X.env) :: starEach es X.env := by rfl)
    (hpl : (backTo pos (starEach es X.env)).any (·.1) = false := by rfl) : PE X (.Call (.Name x p) (e :: es) [] pos) (tCall sp [] E0 t) := by
  constructor
  intro pins s σ H Q inv want
  apply wpAny_Call_Name_kw (ld_glob inv hg hm _ hdb)
  apply PySem.W.callWith_K (h₀ := X.base) inv.ok.mod.kin hk _ he hpl
  refine thn (args.run pos pins s σ H _ inv want) ?_
  rintro us s1 ⟨vs, H1, I1, r, q⟩
  refine ⟨I1.kIn, ?_⟩
  rw [List.append_nil] at q
  have hl : us.length = ps.length := r.length.symm.trans (F.size _ _ _ q)
  have hbs := hb s1 us I1.kIn (by rw [List.append_nil]; exact hl)
  rw [List.append_nil] at hbs
  refine wpAny_call (codeAny_mono (F.go X.A X.stack s1 H1 us vs Q quiet room I1.env0 hbs r q) ?_)
  intro r' s' hq
  cases r' with
  | error e => cases (show False from hq)
  | ok fl =>
    cases fl with
    | ret u => exact I1.after hq
    | next => cases (show False from hq)
    | brk => cases (show False from hq)
    | cont => cases (show False from hq)

theorem cr_repr (quiet : Quiet X.A) (hu : X.A.units + 70 < cLine) : CallR X (.builtin "repr") (fun xs H Q => ∃ x d, xs = [x] ∧ Dp X.K H x d ∧ d.showable = true ∧ d.hasDict = false ∧ d.depth ≤ 60 ∧ d.shown.length ≤ sizeLine ∧ Q (.str d.shown) H) := by
  intro pins s σ H xs us Q inv rel want
  obtain ⟨x, d, rfl, hd, h1, h2, h3, h4, q⟩ := want
  obtain ⟨u, rfl, ru⟩ := vals1 rel
  obtain ⟨as, rd⟩ := Dp.reads inv d _ _ hd ru
  have fin : ∀ tk t, EP X pins σ Q (.str d.shown t) { s with toks := tk } := fun tk t => ⟨.str d.shown, H, inv.tok _, ⟨t, rfl⟩, q⟩
  cases hd with
  | non =>
    obtain rfl : u = Value.none := ru
    exact PySem.P.repr_of_none (fin _ _)
  | bl b =>
    obtain rfl : u = Value.bool b := ru
    exact PySem.P.repr_of_bool (fin _ _)
  | int i =>
    obtain ⟨t, rfl⟩ := ru
    exact PySem.P.repr_of_int (of_decide_eq_true h1) (fin _ _)
  | str z =>
    obtain ⟨t, rfl⟩ := ru
    exact PySem.P.repr_of_str (fin _ _) h4
  | lst q1 q2 =>
    cases ru
    refine repr_of_reads' rd h1 (PyData.noDict_hsm h2) quiet (by omega) (fun _ _ e => e) ?_ h4
    intro h' u tk hk
    exact ⟨.str (PyData.list _).shown, H, inv.un (t' := tk) (Un.kept hk) (inv.hok.kept hk), ⟨u, rfl⟩, q⟩
  | tup q1 q2 =>
    cases ru
    refine repr_of_reads' rd h1 (PyData.noDict_hsm h2) quiet (by omega) (fun _ _ e => e) ?_ h4
    intro h' u tk hk
    exact ⟨.str (PyData.tuple _).shown, H, inv.un (t' := tk) (Un.kept hk) (inv.hok.kept hk), ⟨u, rfl⟩, q⟩
end
end LN

namespace LN
open PySem PySem.Spec PyProof.Rows L2

section
variable {P : Program} {w : World} {K : PySem.W.Frag} {mg mb : Str → Option Value} {k : Nat} {fa a : Addr} {fd : FuncData} {x : Str} {sp : Sp} {s₁ : Shared} {vs : List Value} {ns : List Int}
abbrev EndsTrue (s₁ : Shared) : Result → Shared → Prop := fun r s' => r = .ok (.ret (.bool true)) ∧ PySem.OldK s₁.heap s'.heap ∧ s'.os = s₁.os ∧ AllBare s'.gens

theorem law_over (inHeap : K.In s₁.heap) (top : s₁.heap.Ns mainGlobals mg) (blt : s₁.heap.Ns builtinsNs mb) (bltIs : ∀ x : Str, x ≠ "__name__" → mb x = bootBuiltins x) (lim : s₁.heap.NoLimit) (gens : s₁.gens = #[])
    (script : s₁.heap.get? a = some { cls := .type "list", data := .seq vs.toArray }) (room : Room k callerA)
    (F : ∀ base : Heap, K.In base → base.Ns mainGlobals mg → FnQ P w K mg base k fa fd [x] sp) (bind : ∀ (s : Shared) (u : Value), BindsTo s fd ⟨[u], []⟩ [(x, u)])
    (H : Hp) (only : Only H) (held : HOk P w H s₁.heap) (there : ∀ b, H b ≠ none → b = a) (off : H a ≠ none → K.lookup a = none) (want : sp [.ref a] H (fun v _ => v = .bl true) E0) :
    codeAny (model P w) callerA (.call (.ref fa) ⟨[.ref a], []⟩) (EndsTrue s₁) s₁ := by
  have stay : ∀ {b : Addr} {o : Obj}, s₁.heap.get? b = some o → H b = none → (hidT s₁.heap H).get? b = some o := fun e n => hidT_get e n
  have notDict : ∀ {b : Addr} {o : Obj} {es : Array DictEntry} {ep : Nat}, s₁.heap.get? b = some o → o.data = .dict es ep → H b = none := by
    intro b o es ep e d
    cases q : H b with
    | none => rfl
    | some u =>
      have eb := there b (by rw [q]; exact Option.some_ne_none u)
      rw [eb, script] at e
      cases e
      cases (show Data.seq vs.toArray _ = Data.dict es ep from d)
  have spaces : ∀ {b : Addr} {m : Str → Option Value}, s₁.heap.Ns b m → (hidT s₁.heap H).Ns b m := by
    rintro b m ⟨o, es, ep, e, d, r⟩
    exact ⟨o, es, ep, stay e (notDict e d), d, r⟩
  have inHid : K.In (hidT s₁.heap H) := by
    intro b o e
    refine stay (inHeap b o e) ?_
    cases q : H b with
    | none => rfl
    | some u =>
      have eb := there b (by rw [q]; exact Option.some_ne_none u)
      have z := off (by rw [← eb, q]; exact Option.some_ne_none u)
      rw [eb, z] at e
      cases e
  have md : Mod K mg (hidT s₁.heap H) := by
    obtain ⟨mc, l1, l2⟩ := lim
    exact ⟨inHid, spaces top, ⟨mb, spaces blt, bltIs⟩, ⟨mc, spaces l1, l2⟩⟩
  have env : Env0 P w K mg (hidT s₁.heap H) callerA [] s₁ H := by
    refine ⟨rfl, md, fun b o e => of_hidT e, Nat.le_of_eq (hidT_size _ _), trivial, ?_, held, .of_eq gens⟩
    intro b hb
    exact absurd (show b ∈ ([] : List Addr) from hb) List.not_mem_nil
  refine codeAny_mono ((F _ inHid (spaces top)).go callerA [] s₁ H [.ref a] [.ref a] _ rfl room env (bind s₁ (.ref a)) (.cons rfl .nil) want) ?_
  intro r s' h
  cases r with
  | error e => cases (show False from h)
  | ok fl =>
    cases fl with
    | next => cases (show False from h)
    | brk => cases (show False from h)
    | cont => cases (show False from h)
    | ret u =>
      obtain ⟨v, H', os, bare, un, held', rv, q⟩ := h
      obtain rfl : v = .bl true := q
      obtain rfl : u = Value.bool true := rv
      refine ⟨rfl, OldK.of_keep ?_, os, bare⟩
      intro b o e
      cases q : H b with
      | none => exact un.keep b o e q (fun z => absurd (show b ∈ ([] : List Addr) from z) List.not_mem_nil) List.not_mem_nil
      | some u =>
        cases only b with
        | inl z => rw [q] at z; cases z
        | inr z =>
          obtain ⟨ob, xs, z⟩ := z
          obtain ⟨e1, _⟩ := held b _ z
          obtain ⟨e2, _⟩ := held' b _ (un.frzs b ob _ z)
          rw [e] at e1
          cases e1
          exact e2

theorem law_callQ (inHeap : K.In s₁.heap) (top : s₁.heap.Ns mainGlobals mg) (blt : s₁.heap.Ns builtinsNs mb) (bltIs : ∀ x : Str, x ≠ "__name__" → mb x = bootBuiltins x) (lim : s₁.heap.NoLimit) (gens : s₁.gens = #[])
    (script : s₁.heap.get? a = some { cls := .type "list", data := .seq vs.toArray }) (whole : IntsAre vs ns) (size : ns.length ≤ sizeLine) (room : Room k callerA)
    (F : ∀ base : Heap, K.In base → base.Ns mainGlobals mg → FnQ P w K mg base k fa fd [x] sp) (bind : ∀ (s : Shared) (u : Value), BindsTo s fd ⟨[u], []⟩ [(x, u)])
    (want : ∀ H : Hp, Only H → SqL K H a (ns.map V.int) → sp [.ref a] H (fun v _ => v = .bl true) E0) :
    codeAny (model P w) callerA (.call (.ref fa) ⟨[.ref a], []⟩) (EndsTrue s₁) s₁ := by
  have rv := vals_ints whole
  cases hk : K.lookup a with
  | some o =>
    have e := inHeap a o hk
    rw [script] at e
    cases e
    have sq : SqL K (fun _ => none) a (ns.map V.int) := by
      refine .inr ⟨_, vs.toArray, _, hk, rfl, rfl, rfl, ?_, by simpa using rv⟩
      rw [List.size_toArray, whole.length]
      exact size
    exact law_over inHeap top blt bltIs lim gens script room F bind (fun _ => none) (fun _ => .inl rfl) (fun b u z => nomatch (show (none : Option HO) = some u from z)) (fun b z => absurd rfl z) (fun z => absurd rfl z) (want _ (fun _ => .inl rfl) sq)
  | none =>
    let H : Hp := fun b => if b = a then some (.frz { cls := .type "list", data := .seq vs.toArray } (.lst (ns.map V.int))) else none
    have ha : H a = some (.frz { cls := .type "list", data := .seq vs.toArray } (.lst (ns.map V.int))) := if_pos rfl
    have hb : ∀ b, b ≠ a → H b = none := fun b n => if_neg n
    have only : Only H := by
      intro b
      by_cases e : b = a
      · rw [e]; exact .inr ⟨_, _, ha⟩
      · exact .inl (hb b e)
    refine law_over inHeap top blt bltIs lim gens script room F bind H only ?_ ?_ (fun _ => hk) (want H only (.inl (.inr ⟨_, ha⟩)))
    · intro b u z
      by_cases e : b = a
      · subst e
        rw [ha] at z
        cases z
        exact ⟨script, by rw [List.length_map]; exact size, vs, _, rv, script⟩
      · rw [hb b e] at z
        cases z
    · intro b z
      by_cases e : b = a
      · exact e
      · exact absurd (hb b e) z
end

theorem walk_ofQ {l : PySem.W.OpenLaw} {n k : Nat} {q : Program} {loose : List Str} {XP : (Str → Option Value) → Heap → Prop} {YP : World → Heap → Prop} {d : DefRec} {K : Params → PySem.W.Frag} {sp : World → Sp} {x : Str}
    (most : l.most = some n) (few : n ≤ sizeLine) (plain : d.params.defaults = []) (room : Room k callerA) (hY : ∀ (w : World) (h : Heap), YP w h → (K w.params).In h)
    (F : ∀ (w : World) (mg : Str → Option Value) (fa : Addr) (h : Heap), (K w.params).In h → h.Ns mainGlobals mg → mg d.name = some (.ref fa) →
      ∃ fd : FuncData, (∀ (s : Shared) (u : Value), BindsTo s fd ⟨[u], []⟩ [(x, u)]) ∧
        ∀ base : Heap, (K w.params).In base → base.Ns mainGlobals mg → FnQ l.prog w (K w.params) mg base k fa fd [x] (sp w))
    (want : ∀ (w : World) (H : Hp) (a : Addr) (ns : List Int), ns.length ≤ n → Only H → SqL (K w.params) H a (ns.map V.int) → sp w [.ref a] H (fun v _ => v = .bl true) E0) :
    PySem.W.WalkO q loose XP YP l.row.toRowW d [] (fun f vs => PySem.call f vs) := by
  apply Att.attach_call most plain
  intro w s₀ s₁ mg mb fa o pm cd doc a vs ns G Y ho hd hcd hmg hobj whole len gens
  obtain ⟨fd, bind, hF⟩ := F w mg fa _ (hY w _ Y) G.T.g hmg
  exact law_callQ (hY w _ Y) G.T.g G.T.b G.T.builtins G.T.nolimit gens hobj whole (Nat.le_trans len few) room hF bind (fun H only sq => want w H a ns len only sq)
end LN

namespace LN
open PySem PySem.Spec PyProof.Rows L2
theorem same_put {H : Hp} {p : Addr} {o : HO} (h : H p = none) : Same H (upd H p o) := fun b x e => by
  rw [upd_ne (ne_of_none e h)]
  exact e
theorem upd_own {H : Hp} {p : Addr} {o : HO} (h : H p = some o) : upd H p o = H := by
  funext b
  by_cases e : b = p
  · rw [e, upd_same, h]
  · rw [upd_ne e]

section
variable {X : Cx}
/-- xs[i], i counted from 0, where the store of xs[i] op= e reads it -/
theorem get_list : PGet X (fun x y H Q => ∃ p xs i v, x = .ref p ∧ y = .int (i : Nat) ∧ i < 1000 ∧ H p = some (.lst xs) ∧ xs[i]? = some v ∧ Q v H) := by
  intro pins s σ H o i ov iv Q inv ro ri want
  obtain ⟨p, xs, j, v, rfl, rfl, small, hp, at_, q⟩ := want
  obtain rfl : ov = Value.ref p := ro
  obtain ⟨t, rfl⟩ := ri
  obtain ⟨its, r, pl, hz⟩ := inv.list (.inl (.inl hp))
  obtain ⟨u, eu, ru⟩ := r.get at_
  refine wpAny_getItem_list pl.isList (Int.natCast_nonneg _) (by omega) (by simpa using eu) ?_
  exact ⟨v, H, inv, ru, q⟩

/-- text * int -/
theorem op_mulStr : OpR X (binaryOp .Mult) (fun x y H Q => ∃ z n, x = .str z ∧ y = .int n ∧ MulOk z n ∧ Q (.str (Txt.mul z n)) H) := by
  intro pins s σ H x y v u Q inv rx ry want
  obtain ⟨z, n, rfl, rfl, ok, q⟩ := want
  obtain ⟨t, rfl⟩ := rx
  obtain ⟨t', rfl⟩ := ry
  refine SB.mul ok ?_
  intro t'' k
  exact ⟨.str _, H, inv.tok _, ⟨_, rfl⟩, q⟩
end

/-- the bag of a law: four places; what is drawn next hangs on the first three -/
def Bag (b bc : Addr) (H : Hp) : Prop := ∃ (x0 x1 x2 : Int) (ns : List Int), bc ≠ b ∧ H b = some (.lst [.int x0, .int x1, .int x2, .ref bc]) ∧ H bc = some (.lst (ns.map V.int)) ∧ 0 ≤ x1 ∧ x1 < 2147483647 ∧ 0 ≤ x2
theorem Bag.same {b bc : Addr} {H H' : Hp} (h : Bag b bc H) (s : Same H H') : Bag b bc H' := by
  obtain ⟨x0, x1, x2, ns, h1, h2, h3, h4⟩ := h
  exact ⟨x0, x1, x2, ns, h1, s _ _ h2, s _ _ h3, h4⟩
/-- all that was tracked, but the bag, is as it was; the bag is one -/
structure Drew (b bc : Addr) (H H' : Hp) : Prop where
  bag : Bag b bc H'
  keep : ∀ a o, a ≠ b → H a = some o → H' a = some o
  held : ∀ a, H a ≠ none → H' a ≠ none
theorem Drew.refl {b bc : Addr} {H : Hp} (h : Bag b bc H) : Drew b bc H H := ⟨h, fun _ _ _ e => e, fun _ e => e⟩
theorem Drew.trans {b bc : Addr} {H H1 H2 : Hp} (h : Drew b bc H H1) (g : Drew b bc H1 H2) : Drew b bc H H2 := ⟨g.bag, fun a o n e => g.keep a o n (h.keep a o n e), fun a e => g.held a (h.held a e)⟩
theorem Drew.same {b bc : Addr} {H H1 H2 : Hp} (h : Drew b bc H H1) (g : Same H1 H2) : Drew b bc H H2 := ⟨h.bag.same g, fun a o n e => g a o (h.keep a o n e), fun a e z => by
  have := h.held a e
  cases q : H1 a with
  | none => exact this q
  | some o => rw [g a o q] at z; cases z⟩
theorem same_drew {b bc : Addr} {H H1 H2 : Hp} (g : Same H H1) (h : Drew b bc H1 H2) : Drew b bc H H2 := ⟨h.bag, fun a o n e => h.keep a o n (g a o e), fun a e z => by
  cases q : H a with
  | none => exact e q
  | some o => exact h.held a (by rw [g a o q]; exact Option.some_ne_none o) z⟩
theorem Drew.free {b bc : Addr} {H H' : Hp} (h : Drew b bc H H') {p : Addr} (e : H' p = none) : H p = none := by
  cases q : H p with
  | none => rfl
  | some o => exact absurd e (h.held p (by rw [q]; exact Option.some_ne_none o))
def spBag (K : PySem.W.Frag) : Sp := fun vs H Q _ => ∃ (a : Addr) (ns : List Int), vs = [.ref a] ∧ SqL K H a (ns.map V.int) ∧ ns.length ≤ 63 ∧ ∀ H' b bc, Same H H' → H b = none → H bc = none → Bag b bc H' → Q (.ref b) H'
def spTake : Sp := fun vs H Q _ => ∃ (b bc : Addr) (m : Nat), vs = [.ref b, .int m] ∧ Bag b bc H ∧ 1 ≤ m ∧ m < 1073741824 ∧ ∀ H' (r : Nat), Drew b bc H H' → r < m → Q (.int r) H'
end LN

namespace LN
open PySem PySem.Spec PyProof.Rows L2

/-! data that can be compared and shown: dep bounds how deep it is, n how long its text -/
structure Good (d : PyData) (dep n : Nat) : Prop where
  lay : d.canLay0 = true
  shows : d.showable = true
  deep : d.depth ≤ dep
  len : d.shown.length ≤ n
theorem Good.mono {d : PyData} {a b n m : Nat} (g : Good d a n) (h : a ≤ b) (h' : n ≤ m) : Good d b m := ⟨g.lay, g.shows, Nat.le_trans g.deep h, Nat.le_trans g.len h'⟩
theorem Good.bool (b : Bool) : Good (.bool b) 0 5 := by cases b <;> exact ⟨rfl, rfl, Nat.le_refl _, by decide⟩
theorem Good.none : Good .none 0 5 := ⟨rfl, rfl, Nat.le_refl _, by decide⟩
theorem Good.str {x : Str} {m : Nat} (h : PyData.strOk x = true) (l : x.length ≤ m) : Good (.str x) 0 (10 * m + 2) := by
  refine ⟨h, rfl, Nat.le_refl _, ?_⟩
  have k := StrLaws.reprText_len x (fun c hc => by
    have := Array.all_eq_true_iff_forall_mem.mp h c (Array.mem_def.mpr hc)
    have := of_decide_eq_true this
    omega)
  show (reprText x).length ≤ _
  omega
theorem piled_le {n : Nat} : ∀ {ds : List PyData}, (∀ d ∈ ds, d.shown.length ≤ n) → piled (PyData.shownAll ds) ≤ ds.length * (n + 2)
  | [], _ => Nat.zero_le _
  | d :: ds, h => by
    have ih := piled_le (ds := ds) fun x hx => h x (List.mem_cons_of_mem _ hx)
    have h1 := h d List.mem_cons_self
    show piled (d.shown :: PyData.shownAll ds) ≤ _
    rw [piled_cons, List.length_cons, Nat.succ_mul]
    omega
theorem listText_le (ts : List Str) : (listText ts).length ≤ 2 + piled ts := by
  cases ts with
  | nil => exact Nat.le_refl 2
  | cons t r =>
    have h := textFrom_length_pos r 1 (("[" : Str) ++ (if (0 : Nat) > 0 then ", " else "" : String) ++ t) (Nat.succ_pos 0)
    have e : (listText (t :: r)).length = (textFrom 1 (("[" : Str) ++ (if (0 : Nat) > 0 then ", " else "" : String) ++ t) r).length + 1 := by
      unfold listText
      rw [strLen_append]
      rfl
    have e2 : ((("[" : Str) ++ (if (0 : Nat) > 0 then ", " else "" : String) ++ t)).length = 1 + t.length := by
      rw [strLen_append, strLen_append]
      rfl
    rw [e, h, e2, piled_cons]
    omega
theorem tupleText_le (ts : List Str) : (tupleText ts).length ≤ 3 + piled ts := by
  unfold tupleText
  rw [strLen_append, strLen_append]
  have e1 : ((("(" : String) : Str)).length = 1 := rfl
  have e3 : (((if ts.length == 1 then ",)" else ")" : String) : Str)).length ≤ 2 := by split <;> decide
  rw [e1]
  by_cases h : ts = []
  · subst h
    have : (Str.join (", " : String) []).length = 0 := rfl
    omega
  · have := join_length_add ts h
    omega
theorem all_lay {ds : List PyData} (h : ∀ d ∈ ds, d.canLay0 = true) : PyData.canLayAll0 ds = true := by
  induction ds with
  | nil => rfl
  | cons d ds ih =>
    show (d.canLay0 && PyData.canLayAll0 ds) = true
    rw [h d List.mem_cons_self, ih fun x hx => h x (List.mem_cons_of_mem _ hx)]
    rfl
theorem all_shows {ds : List PyData} (h : ∀ d ∈ ds, d.showable = true) : PyData.showableAll ds = true := by
  induction ds with
  | nil => rfl
  | cons d ds ih =>
    show (d.showable && PyData.showableAll ds) = true
    rw [h d List.mem_cons_self, ih fun x hx => h x (List.mem_cons_of_mem _ hx)]
    rfl
theorem all_deep {ds : List PyData} {k : Nat} (h : ∀ d ∈ ds, d.depth ≤ k) : PyData.depthAll ds ≤ k := by
  induction ds with
  | nil => exact Nat.zero_le _
  | cons d ds ih =>
    show max d.depth (PyData.depthAll ds) ≤ k
    exact Nat.max_le.mpr ⟨h d List.mem_cons_self, ih fun x hx => h x (List.mem_cons_of_mem _ hx)⟩
theorem Good.list {ds : List PyData} {k n m : Nat} (h : ∀ d ∈ ds, Good d k n) (l : ds.length ≤ m) : Good (.list ds) (k + 1) (2 + m * (n + 2)) := by
  refine ⟨all_lay fun d hd => (h d hd).lay, all_shows fun d hd => (h d hd).shows, Nat.succ_le_succ (all_deep fun d hd => (h d hd).deep), ?_⟩
  show (listText (PyData.shownAll ds)).length ≤ _
  have h1 := listText_le (PyData.shownAll ds)
  have h2 := piled_le fun d hd => (h d hd).len
  have h3 := Nat.mul_le_mul_right (n + 2) l
  omega
theorem Good.tuple {ds : List PyData} {k n m : Nat} (h : ∀ d ∈ ds, Good d k n) (l : ds.length ≤ m) : Good (.tuple ds) (k + 1) (3 + m * (n + 2)) := by
  refine ⟨all_lay fun d hd => (h d hd).lay, all_shows fun d hd => (h d hd).shows, Nat.succ_le_succ (all_deep fun d hd => (h d hd).deep), ?_⟩
  show (tupleText (PyData.shownAll ds)).length ≤ _
  have h1 := tupleText_le (PyData.shownAll ds)
  have h2 := piled_le fun d hd => (h d hd).len
  have h3 := Nat.mul_le_mul_right (n + 2) l
  omega
theorem Good.shaped {d : PyData} {k n : Nat} (g : Good d k n) (h : k ≤ 60) : SeqAt.shaped d = true := by
  unfold SeqAt.shaped
  rw [g.lay, decide_eq_true (Nat.le_trans g.deep (Nat.le_trans h (by decide)))]
  rfl
theorem Good.noDict {d : PyData} {k n : Nat} (g : Good d k n) : d.hasDict = false := PyData.hasDict_of_canLay d g.lay
theorem Good.self {d : PyData} {k n : Nat} (g : Good d k n) : PyData.eqv d d = true := SeqAt.eqv_refl d g.lay

/-! labels and names -/
structure Lab (x : Str) : Prop where
  ok : PyData.strOk x = true
  few : x.length ≤ 20
abbrev Labs (l : List Str) : Prop := ∀ x ∈ l, Lab x
def nameD (l : List Str) : PyData := .tuple (l.map PyData.str)
theorem good_name {l : List Str} (h : Labs l) (n : l.length ≤ 100) : Good (nameD l) 1 20500 := by
  have g : ∀ d ∈ l.map PyData.str, Good d 0 202 := fun d hd => by
    obtain ⟨x, hx, rfl⟩ := List.mem_map.mp hd
    exact Good.str (h x hx).ok (h x hx).few
  exact (Good.tuple g (m := 100) (by rw [List.length_map]; exact n)).mono (Nat.le_refl _) (by decide)
theorem good_names {ls : List (List Str)} (h : ∀ l ∈ ls, Labs l ∧ l.length ≤ 100) (n : ls.length ≤ 100) : Good (.list (ls.map nameD)) 2 2100000 := by
  have g : ∀ d ∈ ls.map nameD, Good d 1 20500 := fun d hd => by
    obtain ⟨x, hx, rfl⟩ := List.mem_map.mp hd
    exact good_name (h x hx).1 (h x hx).2
  exact (Good.list g (m := 100) (by rw [List.length_map]; exact n)).mono (Nat.le_refl _) (by decide)
theorem good_bools {bs : List Bool} (n : bs.length ≤ 1000) : Good (.list (bs.map PyData.bool)) 1 7002 := by
  have g : ∀ d ∈ bs.map PyData.bool, Good d 0 5 := fun d hd => by
    obtain ⟨x, _, rfl⟩ := List.mem_map.mp hd
    exact Good.bool x
  exact (Good.list g (m := 1000) (by rw [List.length_map]; exact n)).mono (Nat.le_refl _) (by decide)
theorem Labs.take {l : List Str} (h : Labs l) (n : Nat) : Labs (l.take n) := fun x hx => h x (List.mem_of_mem_take hx)
theorem Labs.drop {l : List Str} (h : Labs l) (n : Nat) : Labs (l.drop n) := fun x hx => h x (List.mem_of_mem_drop hx)
theorem Labs.append {l m : List Str} (h : Labs l) (g : Labs m) : Labs (l ++ m) := fun x hx => (List.mem_append.mp hx).elim (h x) (g x)
theorem Labs.cons {x : Str} {l : List Str} (h : Lab x) (g : Labs l) : Labs (x :: l) := fun y hy => (List.mem_cons.mp hy).elim (fun e => e ▸ h) (g y)
theorem Labs.nil : Labs [] := fun _ h => absurd h List.not_mem_nil

section
variable {K : PySem.W.Frag} {H H' : Hp}
theorem same_rd {a : Addr} {o : HO} (s : Same H H') (h : Rd H a o) : Rd H' a o := h.elim (fun e => .inl (s _ _ e)) fun ⟨u, e⟩ => .inr ⟨u, s _ _ e⟩
theorem same_seqT {a : Addr} {xs : List V} (s : Same H H') (h : SqT K H a xs) : SqT K H' a xs := h.elim (fun e => .inl (same_rd s e)) .inr
mutual
theorem dp_same (s : Same H H') : ∀ {d : PyData} {v : V}, Dp K H v d → Dp K H' v d
  | _, _, .non => .non
  | _, _, .bl b => .bl b
  | _, _, .int i => .int i
  | _, _, .str x => .str x
  | _, _, .lst q r => .lst (Same.seq s q) (dpa_same s r)
  | _, _, .tup q r => .tup (same_seqT s q) (dpa_same s r)
theorem dpa_same (s : Same H H') : ∀ {ds : List PyData} {vs : List V}, DpAll K H vs ds → DpAll K H' vs ds
  | _, _, .nil => .nil
  | _, _, .cons q r => .cons (dp_same s q) (dpa_same s r)
end
theorem dpa_append : ∀ {vs ws : List V} {ds es : List PyData}, DpAll K H vs ds → DpAll K H ws es → DpAll K H (vs ++ ws) (ds ++ es)
  | _, _, _, _, .nil, g => g
  | _, _, _, _, .cons q r, g => .cons q (dpa_append r g)
theorem dpa_len : ∀ {vs : List V} {ds : List PyData}, DpAll K H vs ds → vs.length = ds.length
  | _, _, .nil => rfl
  | _, _, .cons _ r => congrArg Nat.succ (dpa_len r)
theorem dpa_snoc {vs : List V} {ds : List PyData} {v : V} {d : PyData} (h : DpAll K H vs ds) (g : Dp K H v d) : DpAll K H (vs ++ [v]) (ds ++ [d]) := dpa_append h (.cons g .nil)
theorem dp_strs : ∀ l : List Str, DpAll K H (l.map V.str) (l.map PyData.str)
  | [] => .nil
  | x :: l => .cons (.str x) (dp_strs l)
theorem dp_bools : ∀ l : List Bool, DpAll K H (l.map V.bl) (l.map PyData.bool)
  | [] => .nil
  | x :: l => .cons (.bl x) (dp_bools l)
/-- the name l stands at a -/
abbrev Nm (K : PySem.W.Frag) (H : Hp) (a : Addr) (l : List Str) : Prop := SqT K H a (l.map V.str)
theorem nm_dp {a : Addr} {l : List Str} (h : Nm K H a l) : Dp K H (.ref a) (nameD l) := .tup h (dp_strs l)
theorem Drew.nm {b bc a : Addr} {l : List Str} (s : Drew b bc H H') (hb : ∃ xs, H b = some (.lst xs)) (h : Nm K H a l) : Nm K H' a l := by
  obtain ⟨xs, hb⟩ := hb
  rcases h with (h | ⟨o, h⟩) | h
  · exact .inl (.inl (s.keep a _ (ne_of h hb (by intro z; cases z)) h))
  · exact .inl (.inr ⟨o, s.keep a _ (ne_of h hb (by intro z; cases z)) h⟩)
  · exact .inr h
theorem Bag.lst {b bc : Addr} (h : Bag b bc H) : ∃ xs, H b = some (.lst xs) := by
  obtain ⟨_, _, _, _, _, h, _⟩ := h
  exact ⟨_, h⟩
end

/-- a def of the text, by its name -/
structure Df (K : PySem.W.Frag) (mg : Str → Option Value) (x : Str) (st : Stmt) (ps : List Str) (f : Addr) (fd : FuncData) : Prop where
  F : Fun K x x st f fd
  g : mg x = some (.ref f)
  b : Binds K fd ps []
section
variable {X : Cx} {k : Nat} {f : Addr} {fd : FuncData} {ps : List Str} {sp : Sp} {x : Str} {st : Stmt} {p pos : Pos} {e : Expr} {es : List Expr} {t : TA}
theorem pcall (D : Df X.K X.mg x st ps f fd) (G : FnOk X.prog X.w X.K X.mg X.base CX0 k f fd ps sp) (hr : Room k X.A) (ha : PA X (e :: es) t) (hg : Gl X x := by rfl) (hdb : (x == ("__debug__" : Str)) = false := by decide)
    (he : starEach (e :: es) X.env = (false, eval e X.env) :: starEach es X.env := by rfl) (hpl : (backTo pos (starEach es X.env)).any (·.1) = false := by rfl) : PE X (.Call (.Name x p) (e :: es) [] pos) (tCall sp [] E0 t) :=
  pe_call G hr hg D.g D.F.kp D.b .nil pass0 ha hdb he hpl
theorem qcall (D : Df X.K X.mg x st ps f fd) (G : FnQ X.prog X.w X.K X.mg X.base k f fd ps sp) (q : Quiet X.A) (hr : Room k X.A) (ha : PA X (e :: es) t) (hg : Gl X x := by rfl) (hdb : (x == ("__debug__" : Str)) = false := by decide)
    (he : starEach (e :: es) X.env = (false, eval e X.env) :: starEach es X.env := by rfl) (hpl : (backTo pos (starEach es X.env)).any (·.1) = false := by rfl) : PE X (.Call (.Name x p) (e :: es) [] pos) (tCall sp [] E0 t) :=
  callQ G q hr hg D.g D.F.kp D.b ha hdb he hpl
end
/-- two things with the same data are alike -/
def spAlike (K : PySem.W.Frag) : Sp := fun vs H Q _ => ∃ (x y : V) (d : PyData) (k n : Nat), vs = [x, y] ∧ Dp K H x d ∧ Dp K H y d ∧ Good d k n ∧ k ≤ 60 ∧ n ≤ sizeLine ∧ Q (.bl true) H
end LN
namespace LN
open PySem PySem.Spec PyProof.Rows L2
section
variable {K : PySem.W.Frag} {H H' : Hp}
theorem drew_seq {b bc l : Addr} {xs : List V} (s : Drew b bc H H') (n : l ≠ b) (h : SqL K H l xs) : SqL K H' l xs := by
  rcases h with (h | ⟨o, h⟩) | h
  · exact .inl (.inl (s.keep l _ n h))
  · exact .inl (.inr ⟨o, s.keep l _ n h⟩)
  · exact .inr h
end
def spPick (K : PySem.W.Frag) : Sp := fun vs H Q _ => ∃ (b bc l : Addr) (xs : List V), vs = [.ref b, .ref l] ∧ Bag b bc H ∧ l ≠ b ∧ SqL K H l xs ∧ 1 ≤ xs.length ∧ xs.length ≤ 1000 ∧ ∀ H' (i : Nat) v, Drew b bc H H' → xs[i]? = some v → Q v H'
def spUnder (K : PySem.W.Frag) : Sp := fun vs H Q _ => ∃ (a c : Addr) (n t : List Str), vs = [.ref a, .ref c] ∧ Nm K H a n ∧ Nm K H c t ∧ Labs n ∧ Labs t ∧ n.length ≤ 100 ∧ t.length ≤ 100 ∧ ∀ H', Same H H' → Q (.bl (decide (t <:+ n))) H'
def spBeneath (K : PySem.W.Frag) : Sp := fun vs H Q _ => ∃ (a c : Addr) (n t : List Str), vs = [.ref a, .ref c] ∧ Nm K H a n ∧ Nm K H c t ∧ Labs n ∧ Labs t ∧ n.length ≤ 100 ∧ t.length ≤ 100 ∧ ∀ H', Same H H' → Q (.bl (decide (t.length < n.length ∧ t <:+ n))) H'
def tails (n : List Str) : List (List Str) := (List.range (n.length + 1)).map fun k => n.drop k
def spTops (K : PySem.W.Frag) : Sp := fun vs H Q _ => ∃ (a : Addr) (n : List Str), vs = [.ref a] ∧ Nm K H a n ∧ Labs n ∧ n.length ≤ 100 ∧ ∀ H' p vs, Same H H' → H p = none → H' p = some (.lst vs) → DpAll K H' vs ((tails n).map nameD) → Q (.ref p) H'
theorem eqv_str (x y : Str) : PyData.eqv (.str x) (.str y) = decide (x = y) := by
  show (x == y) = decide (x = y)
  by_cases h : x = y
  · subst h
    simp
  · simp [h]
theorem eqv_strs : ∀ (a b : List Str), PyData.eqvAll (a.map PyData.str) (b.map PyData.str) = decide (a = b)
  | [], [] => rfl
  | [], _ :: _ => rfl
  | _ :: _, [] => rfl
  | x :: a, y :: b => by
    show (PyData.eqv (.str x) (.str y) && PyData.eqvAll (a.map PyData.str) (b.map PyData.str)) = _
    rw [eqv_str, eqv_strs a b]
    by_cases h : x = y
    · by_cases g : a = b <;> simp [h, g]
    · simp [h]
theorem eqv_name (a b : List Str) : PyData.eqv (nameD a) (nameD b) = decide (a = b) := eqv_strs a b
end LN
namespace LN
open PySem PySem.Spec PyProof.Rows L2
section
variable {K : PySem.W.Frag} {H H' : Hp}
/-! data without lists: what the change of a list does not touch -/
mutual
def noLst : PyData → Bool
  | .list _ => false
  | .tuple xs => noLsts xs
  | _ => true
def noLsts : List PyData → Bool
  | [] => true
  | d :: ds => noLst d && noLsts ds
end
mutual
theorem dp_put {D : Addr} {ys zs : List V} (e : H D = some (.lst ys)) : ∀ {d : PyData} {v : V}, Dp K H v d → noLst d = true → Dp K (upd H D (.lst zs)) v d
  | _, _, .non, _ => .non
  | _, _, .bl b, _ => .bl b
  | _, _, .int i, _ => .int i
  | _, _, .str x, _ => .str x
  | _, _, .lst q r, h => absurd h (by simp [noLst])
  | _, _, .tup q r, h => by
    refine .tup ?_ (dpa_put e r (by simpa [noLst] using h))
    rcases q with (q | ⟨o, q⟩) | q
    · exact .inl (.inl (by rw [upd_ne (ne_of q e (by intro z; cases z))]; exact q))
    · exact .inl (.inr ⟨o, by rw [upd_ne (ne_of q e (by intro z; cases z))]; exact q⟩)
    · exact .inr q
theorem dpa_put {D : Addr} {ys zs : List V} (e : H D = some (.lst ys)) : ∀ {ds : List PyData} {vs : List V}, DpAll K H vs ds → noLsts ds = true → DpAll K (upd H D (.lst zs)) vs ds
  | _, _, .nil, _ => .nil
  | _, _, .cons q r, h => by
    have h' : (noLst _ && noLsts _) = true := h
    rw [Bool.and_eq_true] at h'
    exact .cons (dp_put e q h'.1) (dpa_put e r h'.2)
end
theorem strs_noLst : ∀ l : List Str, noLsts (l.map PyData.str) = true
  | [] => rfl
  | x :: l => strs_noLst l
theorem names_noLst : ∀ ls : List (List Str), noLsts (ls.map nameD) = true
  | [] => rfl
  | l :: ls => by
    show (noLsts (l.map PyData.str) && noLsts (ls.map nameD)) = true
    rw [strs_noLst, names_noLst ls]
    rfl
end
end LN
namespace LN
open PySem PySem.Spec PyProof.Rows L2
theorem strOk_cat {x y : Str} (h : PyData.strOk x = true) (g : PyData.strOk y = true) : PyData.strOk (x ++ y) = true := by
  have h' : x.cps.all (· < 0x110000) = true := h
  have g' : y.cps.all (· < 0x110000) = true := g
  show (x.cps ++ y.cps).all (· < 0x110000) = true
  rw [Array.all_append, h', g']
  rfl
theorem mulOk0 (x : Str) : MulOk x 0 := ⟨by decide, fun h => absurd (by decide) h, fun h => absurd (by decide) h⟩
theorem mulOk1 (x : Str) : MulOk x 1 := ⟨by decide, fun _ h => absurd h (by simp), fun _ h => absurd h (by simp)⟩
theorem mul_0 (x : Str) : Txt.mul x 0 = Str.empty := rfl
theorem mul_1 (x : Str) : Txt.mul x 1 = x := rfl
theorem mul_few {x : Str} {k : Int} (h0 : 0 ≤ k) (h2 : k < 2) : MulOk x k ∧ (Txt.mul x k = Str.empty ∨ Txt.mul x k = x) := by
  have : k = 0 ∨ k = 1 := by omega
  rcases this with rfl | rfl
  · exact ⟨mulOk0 x, .inl rfl⟩
  · exact ⟨mulOk1 x, .inr rfl⟩
def stems : List Str := ["", "a", "zzzzzzz", "aaaaaaa"]
theorem stem_ok : ∀ x ∈ stems, PyData.strOk x = true ∧ x.length ≤ 7 := by decide +kernel
def letters : Str := "abcdefghijklmnopqrstuvwxyz"
theorem letters_at {i : Nat} (h : i < 26) : ∃ c, letters.cps[i]? = some c ∧ c < 0x110000 := by
  have all : ∀ j, j < 26 → ((letters.cps[j]?).elim false fun c => decide (c < 0x110000)) = true := by decide +kernel
  have := all i h
  cases e : letters.cps[i]? with
  | none => rw [e] at this; cases this
  | some c => rw [e] at this; exact ⟨c, rfl, of_decide_eq_true this⟩
theorem strOk_one {c : Nat} (h : c < 0x110000) : PyData.strOk ⟨#[c]⟩ = true := by
  show (#[c] : Array Nat).all (· < 0x110000) = true
  simp [h]
def spLabels : Sp := fun vs H Q _ => ∃ (b bc : Addr) (n : Nat), vs = [.ref b, .int n] ∧ Bag b bc H ∧ n ≤ 100 ∧
  ∀ H' p (ls : List Str), Drew b bc H H' → H p = none → H' p = some (.lst (ls.map V.str)) → Labs ls → (∀ x ∈ ls, x.length ≤ 10) → ls.length = n → Q (.ref p) H'
theorem bag_put {b bc D : Addr} {H : Hp} {o : HO} (h : Bag b bc H) (n : D ≠ b) (n2 : D ≠ bc) : Bag b bc (upd H D o) := by
  obtain ⟨x0, x1, x2, ns, h1, h2, h3, h4⟩ := h
  refine ⟨x0, x1, x2, ns, h1, by rw [upd_ne n.symm]; exact h2, by rw [upd_ne n2.symm]; exact h3, h4⟩
theorem Bag.there {b bc : Addr} {H : Hp} (h : Bag b bc H) : H b ≠ none ∧ H bc ≠ none := by
  obtain ⟨x0, x1, x2, ns, h1, h2, h3, h4⟩ := h
  rw [h2, h3]
  exact ⟨Option.some_ne_none _, Option.some_ne_none _⟩
theorem Bag.apart {b bc D : Addr} {H : Hp} (h : Bag b bc H) (e : H D = none) : D ≠ b ∧ D ≠ bc := ⟨fun z => h.there.1 (z ▸ e), fun z => h.there.2 (z ▸ e)⟩
/-- a list that was made behind H is changed -/
theorem Drew.put {b bc D : Addr} {H G : Hp} {o : HO} (d : Drew b bc H G) (h : Bag b bc H) (e : H D = none) : Drew b bc H (upd G D o) := by
  have n := h.apart e
  refine ⟨bag_put d.bag n.1 n.2, fun a u ne q => ?_, fun a q z => ?_⟩
  · rw [upd_ne (ne_of_none q e)]
    exact d.keep a u ne q
  · by_cases ea : a = D
    · rw [ea] at q
      exact q e
    · rw [upd_ne ea] at z
      exact d.held a q z
end LN
namespace LN
open PySem PySem.Spec PyProof.Rows L2
def spWord (K : PySem.W.Frag) : Sp := fun vs H Q _ => ∃ (b bc l : Addr) (ls : List Str) (lo hi : Nat), vs = [.ref b, .ref l, .int lo, .int hi] ∧ Bag b bc H ∧ l ≠ b ∧ SqL K H l (ls.map V.str) ∧ Labs ls ∧ 1 ≤ ls.length ∧ ls.length ≤ 1000 ∧ lo ≤ hi ∧ hi ≤ 90 ∧
  ∀ H' p nm, Drew b bc H H' → Nm K H' p nm → Labs nm → lo ≤ nm.length → nm.length ≤ hi → Q (.ref p) H'
def spMore (K : PySem.W.Frag) : Sp := fun vs H Q _ => ∃ (b bc l : Addr) (ls : List Str), vs = [.ref b, .ref l] ∧ Bag b bc H ∧ l ≠ b ∧ H l = some (.lst (ls.map V.str)) ∧ Labs ls ∧ (∀ x ∈ ls, x.length ≤ 10) ∧ 1 ≤ ls.length ∧ ls.length ≤ 100 ∧
  ∀ H' p ms, Drew b bc H H' → H p = none → H' p = some (.lst (ms.map V.str)) → Labs ms → 1 ≤ ms.length → ms.length ≤ 101 → Q (.ref p) H'
def spNear (K : PySem.W.Frag) : Sp := fun vs H Q _ => ∃ (b bc l a : Addr) (ls nm : List Str), vs = [.ref b, .ref l, .ref a] ∧ Bag b bc H ∧ l ≠ b ∧ SqL K H l (ls.map V.str) ∧ Labs ls ∧ 1 ≤ ls.length ∧ ls.length ≤ 1000 ∧ Nm K H a nm ∧ Labs nm ∧ nm.length ≤ 90 ∧
  ∀ H' p rs, Drew b bc H H' → Nm K H' p rs → Labs rs → rs.length ≤ nm.length + 1 → Q (.ref p) H'
def spRight (K : PySem.W.Frag) : Sp := fun vs H Q _ => ∃ (a c : Addr) (n t : List Str), vs = [.ref a, .ref c] ∧ Nm K H a n ∧ Nm K H c t ∧ Labs n ∧ Labs t ∧ n.length ≤ 49 ∧ t.length ≤ 49 ∧ ∀ H', Same H H' → Q (.bl true) H'
end LN
namespace LN
open PySem PySem.Spec PyProof.Rows L2
section
variable {X : Cx}
/-- t[lo:hi], the whole and any other part alike -/
def rSlD (K : PySem.W.Frag) : V → Option Int → Option Int → Hp → VK → Prop := fun x lo hi H Q => ∃ a xs, x = .ref a ∧ SqT K H a xs ∧ ∀ p H', Same H H' → SqT K H' p (cutV xs lo hi) → Q (.ref p) H'
theorem sl_tupD : SlR X (rSlD X.K) := by
  intro pins s σ H x v vl vu lo hi sl Q inv rx hs pl pu want
  obtain ⟨a, xs, rfl, hx, q⟩ := want
  refine sl_tupA pins s σ H _ v vl vu lo hi sl Q inv rx hs pl pu ⟨a, xs, rfl, hx, fun hw => q a H (Same.refl H) ?_, fun _ p np => q p _ (same_put np) (.inl (.inl upd_same))⟩
  have e : cutV xs lo hi = xs := by
    unfold cutV
    rw [hw.1, hw.2]
    simp
  rw [e]
  exact hx
/-- t + u, empty ones too -/
def rCatD (K : PySem.W.Frag) : R2 := fun x y H Q => ∃ a b xs ys, x = .ref a ∧ y = .ref b ∧ SqT K H a xs ∧ SqT K H b ys ∧ xs.length + ys.length ≤ sizeLine ∧ ∀ p H', Same H H' → SqT K H' p (xs ++ ys) → Q (.ref p) H'
theorem op_catD : OpR X (binaryOp .Add) (rCatD X.K) := by
  intro pins s σ H x y v u Q inv rx ry want
  obtain ⟨a, b, xs, ys, rfl, rfl, ha, hb, hz, q⟩ := want
  refine op_catA pins s σ H _ _ v u Q inv rx ry ⟨a, b, xs, ys, rfl, rfl, ha, hb, hz, fun e => q b H (Same.refl H) ?_, fun _ e => q a H (Same.refl H) ?_, fun _ _ p np => q p _ (same_put np) (.inl (.inl upd_same))⟩
  · rw [e]
    exact hb
  · rw [e, List.append_nil]
    exact ha
end
theorem cut_to {xs : List V} {k : Nat} : cutV xs none (some (k : Int)) = xs.take k := by
  unfold cutV
  rw [HT.sIx_none, HT.sIx_nat, List.drop_zero]
  by_cases h : k ≤ xs.length
  · rw [Nat.min_eq_left h, Nat.sub_zero]
  · rw [Nat.min_eq_right (by omega), Nat.sub_zero, List.take_length, List.take_of_length_le (by omega)]
theorem cut_from {xs : List V} {k : Nat} : cutV xs (some (k : Int)) none = xs.drop k := by
  unfold cutV
  rw [HT.sIx_none, HT.sIx_nat]
  by_cases h : k ≤ xs.length
  · rw [Nat.min_eq_left h]
    exact List.take_of_length_le (by simp)
  · rw [Nat.min_eq_right (by omega), List.drop_length, List.drop_of_length_le (by omega), List.take_nil]
end LN
namespace LN
open PySem PySem.Spec PyProof.Rows L2
section
variable {K : PySem.W.Frag} {H H' : Hp}
theorem dpa_strs : ∀ {l : List Str} {vs : List V}, DpAll K H vs (l.map PyData.str) → vs = l.map V.str
  | [], _, .nil => rfl
  | x :: l, _, .cons q r => by
    have e := dpa_strs (l := l) r
    cases q
    rw [e]
    rfl
theorem dp_nm {v : V} {l : List Str} (h : Dp K H v (nameD l)) : ∃ a, v = .ref a ∧ Nm K H a l := by
  have h' : Dp K H v (.tuple (l.map PyData.str)) := h
  cases h' with
  | tup q r =>
    have e := dpa_strs r
    rw [e] at q
    exact ⟨_, rfl, q⟩
theorem dpa_get : ∀ {vs : List V} {ds : List PyData} {i : Nat} {v : V}, DpAll K H vs ds → vs[i]? = some v → ∃ d, ds[i]? = some d ∧ Dp K H v d
  | _, _, _, _, .nil, e => by simp at e
  | _, _, 0, _, .cons q r, e => by
    have e' := Option.some.inj e
    exact ⟨_, rfl, e' ▸ q⟩
  | _, _, i + 1, _, .cons q r, e => by
    obtain ⟨d, h1, h2⟩ := dpa_get (i := i) r (by simpa using e)
    exact ⟨d, by simpa using h1, h2⟩
end
def heads (n : List Str) (i : Nat) : List (List Str) := (List.range i).map fun k => n.take k
def fits (n t : List Str) (i : Nat) : List (List Str) := (heads n i).filter fun h => decide (h ++ t = n)
theorem one_fit (n t h : List Str) : [h].filter (fun h => decide (h ++ t = n)) = if h ++ t = n then [h] else [] := by
  by_cases y : h ++ t = n
  · rw [if_pos y]
    simp [y]
  · rw [if_neg y]
    simp [y]
theorem range_only (c : Nat) : ∀ m, (List.range m).filter (fun k => decide (k = c)) = if c < m then [c] else []
  | 0 => rfl
  | m + 1 => by
    rw [List.range_succ, List.filter_append, range_only c m]
    by_cases h : c < m
    · rw [if_pos h, if_pos (by omega), List.filter_cons_of_neg (by simp; omega)]
      rfl
    · rw [if_neg h]
      by_cases e : m = c
      · subst e
        rw [if_pos (by omega), List.filter_cons_of_pos (by simp)]
        rfl
      · rw [if_neg (by omega), List.filter_cons_of_neg (by simp; exact e)]
        rfl
theorem take_fits {n t : List Str} {k : Nat} (h : k ≤ n.length) : n.take k ++ t = n ↔ t <:+ n ∧ k = n.length - t.length := by
  constructor
  · intro e
    have l := congrArg List.length e
    rw [List.length_append, List.length_take, Nat.min_eq_left h] at l
    exact ⟨⟨_, e⟩, by omega⟩
  · rintro ⟨⟨z, rfl⟩, rfl⟩
    have e : (z ++ t).length - t.length = z.length := by rw [List.length_append]; omega
    rw [e, List.take_left]
theorem fits_all {n t : List Str} : fits n t (n.length + 1) = if t <:+ n then [n.take (n.length - t.length)] else [] := by
  have e : fits n t (n.length + 1) = ((List.range (n.length + 1)).filter fun k => decide (t <:+ n ∧ k = n.length - t.length)).map fun k => n.take k := by
    unfold fits heads
    rw [List.filter_map]
    congr 1
    apply List.filter_congr
    intro k hk
    have := List.mem_range.mp hk
    exact decide_eq_decide.mpr (take_fits (by omega))
  rw [e]
  by_cases s : t <:+ n
  · rw [if_pos s]
    have e2 : (fun k => decide (t <:+ n ∧ k = n.length - t.length)) = fun k => decide (k = n.length - t.length) := by
      funext k
      exact decide_eq_decide.mpr ⟨fun z => z.2, fun z => ⟨s, z⟩⟩
    rw [e2, range_only, if_pos (by omega)]
    rfl
  · rw [if_neg s]
    have e2 : (fun k => decide (t <:+ n ∧ k = n.length - t.length)) = fun _ => false := by
      funext k
      exact decide_eq_false fun z => s z.1
    rw [e2, List.filter_eq_nil_iff.mpr (fun _ _ => Bool.false_ne_true)]
    rfl
end LN
namespace LN
open PySem PySem.Spec PyProof.Rows L2
/-- a tuple of two names -/
def Two (K : PySem.W.Frag) (H : Hp) (x : V) : Prop := ∃ (t u v : Addr) (n m : List Str), x = .ref t ∧ H t = some (.tup [.ref u, .ref v]) ∧ Nm K H u n ∧ Nm K H v m ∧ Labs n ∧ Labs m ∧ n.length ≤ 49 ∧ m.length ≤ 49
theorem Two.same {K : PySem.W.Frag} {H H' : Hp} {x : V} (h : Two K H x) (s : Same H H') : Two K H' x := by
  obtain ⟨t, u, v, n, m, e, h1, h2, h3, h4⟩ := h
  exact ⟨t, u, v, n, m, e, s _ _ h1, same_seqT s h2, same_seqT s h3, h4⟩
theorem good_tails {n : List Str} (h : Labs n) (k : n.length ≤ 90) : Good (.list ((tails n).map nameD)) 2 2100000 := by
  refine good_names (fun l hl => ?_) ?_
  · obtain ⟨i, _, rfl⟩ := List.mem_map.mp hl
    exact ⟨h.drop i, by rw [List.length_drop]; omega⟩
  · unfold tails
    rw [List.length_map, List.length_range]
    omega
end LN

namespace LN
open PySem PySem.Spec PyProof.Rows L2
set_option maxHeartbeats 4000000 in
theorem tuple_mul_same (l : Addr) (items : Array Value) (n : Nat) (dd : Option Addr) (sl : Array (Option Value)) (u : Tok) :
    Meets (Builtin.«tuple.__mul__» ⟨[.ref l, .int 1 u], []⟩) (fun _ R s => s.heap.get? l = some { cls := .type "tuple", dict := dd, data := .seq items n, slots := sl } ∧ R (.ok (.ret (.ref l))) s) :=
  .of_wp fun prog w A R s h => by
    obtain ⟨hp, g, d, tk, os⟩ := s
    obtain ⟨hl, h⟩ := h
    have f1 := AutoSeq1.idx_int
    wp_walk using wpAny_loadPart' hl
    exact ⟨_, rfl, h⟩
section
variable {X : Cx}
/-- t * k, k from 1 on -/
def rRepD (K : PySem.W.Frag) : R2 := fun x y H Q => ∃ l k xs, x = .ref l ∧ y = .int k ∧ SqT K H l xs ∧ xs ≠ [] ∧ 1 ≤ k ∧ k ≤ 1000 ∧ xs.length ≤ 1000 ∧ ∀ p H', Same H H' → SqT K H' p (List.replicate k.toNat xs).flatten → Q (.ref p) H'
theorem op_repD : OpR X (binaryOp .Mult) (rRepD X.K) := by
  intro pins s σ H x y v u Q inv rx ry want
  obtain ⟨l, k, xs, rfl, rfl, hT, ne, h1, h2, hz, q⟩ := want
  by_cases one : k = 1
  · subst one
    cases rx
    obtain ⟨t, rfl⟩ := ry
    obtain ⟨its, r, ⟨⟨cls, dd, data, sl⟩, ho, hc, n, hd⟩, hs⟩ := inv.tuple hT
    simp only at hc hd
    subst hc hd
    refine wpAny_binaryOp_repeat_ref (T := "tuple") (U := "int") (by decide) ⟨_, ho, rfl⟩ (fun s' => typeIs_int s' 1 t) noFill_tuple_mul F.fills_int_mul F.slot_int_rmul repeat_tuple F.slot_int_index.lookup
      (call_meets F.slot_int_rmul (typeIs_int s 1 t) F.entry_int_rmul (F.args_int_rmul_2 _ _) (int_rmul_tuple 1 t l its.toArray n dd sl)
        ⟨ho, rfl, ⟨_, ho, rfl⟩, call_meets F.slot_tuple_mul ⟨_, ho, rfl⟩ F.entry_tuple_mul (F.args_tuple_mul_2 _ _) (tuple_mul_same l its.toArray n dd sl t) ⟨ho, ?_⟩⟩)
    refine ⟨.ref l, H, inv, rfl, q l H (Same.refl H) ?_⟩
    have e : (List.replicate (1 : Int).toNat xs).flatten = xs := by
      show (List.replicate 1 xs).flatten = xs
      simp
    rw [e]
    exact hT
  · exact op_repT pins s σ H _ _ v u Q inv rx ry ⟨l, k, xs, rfl, rfl, hT, ne, by omega, h2, hz, fun p np => q p _ (same_put np) (.inl (.inl upd_same))⟩
end
end LN
namespace LN
open PySem PySem.Spec PyProof.Rows L2
def rLenK (K : PySem.W.Frag) : List V → Hp → VK → Prop := fun xs H Q => ∃ p ys, xs = [.ref p] ∧ (SqL K H p ys ∨ SqT K H p ys) ∧ Q (.int ys.length) H
theorem call_lenK {X : Cx} : CallR X (.builtin "len") (rLenK X.K) := call_len_seq
end LN

namespace LN
open PySem PySem.Spec PyProof.Rows L2
/-! any value: data, an empty dict, an object of one own class -/
inductive Th where
  | d (x : PyData)
  | obj
def tyOf : PyData → String
  | .none => "NoneType"
  | .bool _ => "bool"
  | .int _ => "int"
  | .str _ => "str"
  | .list _ => "list"
  | .tuple _ => "tuple"
  | .dict _ => "dict"
/-- what is asked of the one own class -/
structure OwnTy (K : PySem.W.Frag) (C : Addr) : Prop where
  cl : Cls K C
  ha : PySem.W.findIn K (.ref C) "__class__" = some (some (.builtin "object.__class__"))
  hn : PySem.W.specialIn K (.builtin "object.__class__") "__get__" = some (some (.builtin "getset_descriptor.__get__"))
  htk : PySem.W.takesIn K (.builtin "object.__class__") = some true
  hm : PySem.W.mroIn K C (.type "object") = some true
  noInt : PySem.W.kitOne K (.ref C) (.type "int") = some false
  noStr : PySem.W.kitOne K (.ref C) (.type "str") = some false
  noTup : PySem.W.kitOne K (.ref C) (.type "tuple") = some false
inductive AnyT (K : PySem.W.Frag) (C : Addr) (H : Hp) : V → Th → Prop where
  | dp {x : V} {d : PyData} (h : Dp K H x d) : AnyT K C H x (.d d)
  | emp {a : Addr} (h : H a = some (.dK [])) : AnyT K C H (.ref a) (.d (.dict []))
  | obj {a dx : Addr} {fs : List (Str × V)} (h : H a = some (.ins C dx fs)) : AnyT K C H (.ref a) .obj
theorem AnyT.same {K : PySem.W.Frag} {C : Addr} {H H' : Hp} {x : V} {t : Th} (h : AnyT K C H x t) (s : Same H H') : AnyT K C H' x t := by
  cases h with
  | dp h => exact .dp (dp_same s h)
  | emp h => exact .emp (s _ _ h)
  | obj h => exact .obj (s _ _ h)
theorem dp_ty {K : PySem.W.Frag} {H : Hp} {x : V} {d : PyData} (h : Dp K H x d) : TyX K H x (.type (tyOf d)) := by
  cases h with
  | non => exact .base .non
  | bl b => exact .base (.bl b)
  | int i => exact .base (.int i)
  | str z => exact .base (.str z)
  | lst q r =>
    rcases q with (q | ⟨o, q⟩) | ⟨o, its, n, q, c, _⟩
    · exact .base (.lst q)
    · exact .base (.frz q)
    · exact .kList q c
  | tup q r =>
    rcases q with (q | ⟨o, q⟩) | ⟨o, its, n, q, c, _⟩
    · exact .base (.tup q)
    · exact .fTuple q
    · exact .kTuple q c
def gInt : Th → Bool
  | .d (.int _) | .d (.bool _) => true
  | _ => false
def gBool : Th → Bool
  | .d (.bool _) => true
  | _ => false
def gStr : Th → Bool
  | .d (.str _) => true
  | _ => false
def gTup : Th → Bool
  | .d (.tuple _) => true
  | _ => false
def rIsK (K : PySem.W.Frag) (C : Addr) (T : String) (g : Th → Bool) : List V → Hp → VK → Prop := fun xs H Q => ∃ (x : V) (t : Th), xs = [x, .ty T] ∧ AnyT K C H x t ∧ Q (.bl (g t)) H
theorem call_isK {X : Cx} {C : Addr} {T : String} {g : Th → Bool} (O : OwnTy X.K C) (hd : ∀ d, kitB (tyOf d) T = some (g (.d d))) (ho : PySem.W.kitOne X.K (.ref C) (.type T) = some (g .obj)) : CallR X (.builtin "isinstance") (rIsK X.K C T g) := by
  intro pins s σ H xs us Q inv rel want
  obtain ⟨x, t, rfl, any, q⟩ := want
  refine call_isi pins s σ H _ us Q inv rel ?_
  cases any with
  | dp h => exact ⟨x, .ty T, _, _, _, rfl, .ty T, dp_ty h, kit_ty (hd _), q⟩
  | emp h => exact ⟨_, .ty T, _, _, _, rfl, .ty T, .base (.dK h), kit_ty (hd (.dict [])), q⟩
  | obj h => exact ⟨_, .ty T, _, _, _, rfl, .ty T, .base (.ins h O.cl O.ha O.hn O.htk O.hm), ho, q⟩
theorem kit_int : kitB "NoneType" "int" = some false ∧ kitB "bool" "int" = some true ∧ kitB "int" "int" = some true ∧ kitB "str" "int" = some false ∧ kitB "list" "int" = some false ∧ kitB "tuple" "int" = some false ∧ kitB "dict" "int" = some false := by decide +kernel
theorem kit_bool : kitB "NoneType" "bool" = some false ∧ kitB "bool" "bool" = some true ∧ kitB "int" "bool" = some false ∧ kitB "str" "bool" = some false ∧ kitB "list" "bool" = some false ∧ kitB "tuple" "bool" = some false ∧ kitB "dict" "bool" = some false := by decide +kernel
theorem kit_str : kitB "NoneType" "str" = some false ∧ kitB "bool" "str" = some false ∧ kitB "int" "str" = some false ∧ kitB "str" "str" = some true ∧ kitB "list" "str" = some false ∧ kitB "tuple" "str" = some false ∧ kitB "dict" "str" = some false := by decide +kernel
theorem kit_tuple : kitB "NoneType" "tuple" = some false ∧ kitB "bool" "tuple" = some false ∧ kitB "int" "tuple" = some false ∧ kitB "str" "tuple" = some false ∧ kitB "list" "tuple" = some false ∧ kitB "tuple" "tuple" = some true ∧ kitB "dict" "tuple" = some false := by decide +kernel
theorem call_isInt {X : Cx} {C : Addr} (O : OwnTy X.K C) : CallR X (.builtin "isinstance") (rIsK X.K C "int" gInt) := call_isK O (fun d => by obtain ⟨h1, h2, h3, h4, h5, h6, h7⟩ := kit_int; cases d <;> assumption) O.noInt
theorem call_isStr {X : Cx} {C : Addr} (O : OwnTy X.K C) : CallR X (.builtin "isinstance") (rIsK X.K C "str" gStr) := call_isK O (fun d => by obtain ⟨h1, h2, h3, h4, h5, h6, h7⟩ := kit_str; cases d <;> assumption) O.noStr
theorem call_isTup {X : Cx} {C : Addr} (O : OwnTy X.K C) : CallR X (.builtin "isinstance") (rIsK X.K C "tuple" gTup) := call_isK O (fun d => by obtain ⟨h1, h2, h3, h4, h5, h6, h7⟩ := kit_tuple; cases d <;> assumption) O.noTup
/-- whether a whole number is a truth: asked of whole numbers and truths alone -/
def rIsB (K : PySem.W.Frag) : List V → Hp → VK → Prop := fun xs H Q => ∃ (x : V) (d : PyData), xs = [x, .ty "bool"] ∧ Dp K H x d ∧ Q (.bl (gBool (.d d))) H
theorem call_isBool {X : Cx} : CallR X (.builtin "isinstance") (rIsB X.K) := by
  intro pins s σ H xs us Q inv rel want
  obtain ⟨x, d, rfl, h, q⟩ := want
  exact call_isi pins s σ H _ us Q inv rel ⟨x, .ty "bool", _, _, _, rfl, .ty "bool", dp_ty h, kit_ty (by obtain ⟨h1, h2, h3, h4, h5, h6, h7⟩ := kit_bool; cases d <;> assumption), q⟩
/-! the seven kinds -/
def signOk (c : Nat) : Bool := decide (97 ≤ c ∧ c ≤ 122)
def kLabel : PyData → Bool
  | .str x => decide (1 ≤ x.length ∧ x.length ≤ 8) && x.cps.toList.all signOk
  | _ => false
def kWhole : Th → Bool
  | .d (.int _) => true
  | _ => false
def tLabel : Th → Bool
  | .d d => kLabel d
  | _ => false
def tName : Th → Bool
  | .d (.tuple ds) => ds.all kLabel
  | _ => false
def tFull : Th → Bool
  | .d (.tuple ds) => ds.all kLabel && !ds.isEmpty
  | _ => false
def tRange (lo hi : Int) : Th → Bool
  | .d (.int i) => decide (lo ≤ i ∧ i ≤ hi)
  | _ => false
/-- data as the law makes it -/
def ShortT (t : Th) : Prop := ∀ y : Str, t = .d (.str y) → y.length ≤ 100
structure Fit (t : Th) : Prop where
  good : ∀ d, t = .d d → d = .dict [] ∨ Good d 5 sizeLine
  short : ShortT t
  parts : ∀ ds, t = .d (.tuple ds) → ds.length ≤ 1000 ∧ ∀ y : Str, PyData.str y ∈ ds → y.length ≤ 100
def spKind (K : PySem.W.Frag) (C : Addr) (p : Th → Prop) (g : Th → Bool) : Sp := fun vs H Q _ => ∃ (x : V) (t : Th), vs = [x] ∧ AnyT K C H x t ∧ p t ∧ ∀ H', Same H H' → Q (.bl (g t)) H'
def spNumber (K : PySem.W.Frag) (C : Addr) : Sp := fun vs H Q _ => ∃ (x : V) (t : Th) (m : Int), vs = [.int m, x] ∧ AnyT K C H x t ∧ ∀ H', Same H H' → Q (.bl (tRange 0 (m - 1) t)) H'
end LN
namespace LN
open PySem PySem.Spec PyProof.Rows L2
theorem sign_lo (c : Nat) : (!decide (([c] : List Nat) < [97])) = decide (97 ≤ c) := by
  by_cases h : c < 97
  · have a : ([c] : List Nat) < [97] := List.Lex.rel h
    rw [decide_eq_true a, decide_eq_false (by omega)]
    rfl
  · have a : ¬ ([c] : List Nat) < [97] := by
      intro z
      cases z with
      | rel z => exact h z
      | cons z => cases z
    rw [decide_eq_false a, decide_eq_true (by omega)]
    rfl
theorem sign_hi (c : Nat) : (!decide (([122] : List Nat) < [c])) = decide (c ≤ 122) := by
  by_cases h : 122 < c
  · have a : ([122] : List Nat) < [c] := List.Lex.rel h
    rw [decide_eq_true a, decide_eq_false (by omega)]
    rfl
  · have a : ¬ ([122] : List Nat) < [c] := by
      intro z
      cases z with
      | rel z => exact h z
      | cons z => cases z
    rw [decide_eq_false a, decide_eq_true (by omega)]
    rfl
theorem sign_both (c : Nat) : (if decide (97 ≤ c) = true then decide (c ≤ 122) else false) = signOk c := by
  unfold signOk
  by_cases h : 97 ≤ c
  · rw [decide_eq_true h, if_pos rfl]
    exact decide_eq_decide.mpr ⟨fun w => ⟨h, w⟩, fun w => w.2⟩
  · rw [decide_eq_false h, if_neg Bool.false_ne_true]
    exact (decide_eq_false fun w => h w.1).symm
theorem alpha_signs (c : Nat) : decide (c ∈ (Str.ofString "abcdefghijklmnopqrstuvwxyz").cps.toList) = signOk c := by
  have e : (Str.ofString "abcdefghijklmnopqrstuvwxyz").cps.toList = (List.range 26).map (· + 97) := by decide +kernel
  rw [e]
  unfold signOk
  refine decide_eq_decide.mpr ?_
  rw [List.mem_map]
  constructor
  · rintro ⟨k, hk, rfl⟩
    have := List.mem_range.mp hk
    omega
  · intro h
    exact ⟨c - 97, List.mem_range.mpr (by omega), by omega⟩
end LN
namespace LN
open PySem PySem.Spec PyProof.Rows L2
/-- a text of the law: at most ten signs -/
def spText : Sp := fun vs H Q _ => ∃ (b bc : Addr), vs = [.ref b] ∧ Bag b bc H ∧ ∀ H' (x : Str), Drew b bc H H' → Lab x → Q (.str x) H'
def pool : Str := "abcdefghijklmnopqrstuvwxyzA_1 -"
theorem pool_at {i : Nat} (h : i < 31) : ∃ c, pool.cps[i]? = some c ∧ c < 0x110000 := by
  have all : ∀ j, j < 31 → ((pool.cps[j]?).elim false fun c => decide (c < 0x110000)) = true := by decide +kernel
  have := all i h
  cases e : pool.cps[i]? with
  | none => rw [e] at this; cases this
  | some c => rw [e] at this; exact ⟨c, rfl, of_decide_eq_true this⟩
theorem join_ok : ∀ ys : List Str, (∀ y ∈ ys, PyData.strOk y = true ∧ y.length ≤ 1) → PyData.strOk (Str.join (Str.ofString "") ys) = true ∧ (Str.join (Str.ofString "") ys).length ≤ ys.length
  | [], _ => ⟨by decide +kernel, Nat.le_refl _⟩
  | [x], h => h x List.mem_cons_self
  | x :: y :: r, h => by
    have ih := join_ok (y :: r) fun z hz => h z (List.mem_cons_of_mem _ hz)
    have hx := h x List.mem_cons_self
    refine ⟨strOk_cat (strOk_cat hx.1 (by decide +kernel)) ih.1, ?_⟩
    show (x ++ Str.ofString "" ++ Str.join (Str.ofString "") (y :: r)).length ≤ _
    rw [strLen_append, strLen_append]
    have e0 : (Str.ofString "").length = 0 := rfl
    have := ih.2
    have := hx.2
    simp only [List.length_cons] at *
    omega
end LN
namespace LN
open PySem PySem.Spec PyProof.Rows L2
def LabT (t : Th) : Prop := ∀ y : Str, t = .d (.str y) → y.length ≤ 100 ∧ PyData.strOk y = true
theorem Fit.lab {t : Th} (f : Fit t) : LabT t := fun y e => by
  refine ⟨f.short y e, ?_⟩
  rcases f.good _ e with w | w
  · cases w
  · exact w.lay
theorem lay_mem {ds : List PyData} (h : PyData.canLayAll0 ds = true) : ∀ d ∈ ds, d.canLay0 = true := by
  induction ds with
  | nil => intro d hd; exact absurd hd List.not_mem_nil
  | cons e r ih =>
    have h' : (e.canLay0 && PyData.canLayAll0 r) = true := h
    rw [Bool.and_eq_true] at h'
    intro d hd
    rcases List.mem_cons.mp hd with rfl | hd
    · exact h'.1
    · exact ih h'.2 d hd
theorem deep_mem {ds : List PyData} {k : Nat} (h : PyData.depthAll ds ≤ k) : ∀ d ∈ ds, d.depth ≤ k := by
  induction ds with
  | nil => intro d hd; exact absurd hd List.not_mem_nil
  | cons e r ih =>
    have h' : max e.depth (PyData.depthAll r) ≤ k := h
    intro d hd
    rcases List.mem_cons.mp hd with rfl | hd
    · exact Nat.le_trans (Nat.le_max_left _ _) h'
    · exact ih (Nat.le_trans (Nat.le_max_right _ _) h') d hd
theorem shaped_list {ds : List PyData} {k : Nat} (h : ∀ d ∈ ds, d.canLay0 = true) (g : ∀ d ∈ ds, d.depth ≤ k) (hk : k ≤ 60) : SeqAt.shaped (.list ds) = true := by
  unfold SeqAt.shaped
  have a : (PyData.list ds).canLay0 = true := all_lay h
  have b : (PyData.list ds).depth ≤ k + 1 := Nat.succ_le_succ (all_deep g)
  rw [a, decide_eq_true (Nat.le_trans b (by omega))]
  rfl
theorem strOk_mem {y : Str} (h : PyData.strOk y = true) {c : Nat} (hc : c ∈ y.cps.toList) : c < 0x110000 :=
  of_decide_eq_true (Array.all_eq_true_iff_forall_mem.mp (show y.cps.all (· < 0x110000) = true from h) c (Array.mem_def.mpr hc))
theorem eqv_empty {xs : List PyData} : PyData.eqv (.list xs) (.list []) = decide (xs = []) := by
  cases xs with
  | nil => rfl
  | cons a b => rfl
def badSigns (y : Str) (i : Nat) : List Nat := (y.cps.toList.take i).filter fun c => !signOk c
theorem badSigns_nil (y : Str) : decide ((badSigns y y.cps.size).map (fun c => PyData.str ⟨#[c]⟩) = []) = y.cps.toList.all signOk := by
  unfold badSigns
  rw [List.take_of_length_le (by rw [Array.length_toList]; exact Nat.le_refl _)]
  cases h : y.cps.toList.all signOk with
  | true =>
    refine decide_eq_true (List.map_eq_nil_iff.mpr (List.filter_eq_nil_iff.mpr fun c hc => ?_))
    rw [List.all_eq_true.mp h c hc]
    decide
  | false =>
    refine decide_eq_false fun z => ?_
    have e := List.filter_eq_nil_iff.mp (List.map_eq_nil_iff.mp z)
    have : y.cps.toList.all signOk = true := List.all_eq_true.mpr fun c hc => by
      have := e c hc
      cases q : signOk c with
      | true => rfl
      | false => rw [q] at this; exact absurd rfl this
    rw [this] at h
    cases h
def badParts (ds : List PyData) (i : Nat) : List PyData := (ds.take i).filter fun d => !kLabel d
theorem badParts_nil (ds : List PyData) : decide (badParts ds ds.length = []) = ds.all kLabel := by
  unfold badParts
  rw [List.take_length]
  cases h : ds.all kLabel with
  | true =>
    refine decide_eq_true (List.filter_eq_nil_iff.mpr fun c hc => ?_)
    rw [List.all_eq_true.mp h c hc]
    decide
  | false =>
    refine decide_eq_false fun z => ?_
    have e := List.filter_eq_nil_iff.mp z
    have : ds.all kLabel = true := List.all_eq_true.mpr fun c hc => by
      have := e c hc
      cases q : kLabel c with
      | true => rfl
      | false => rw [q] at this; exact absurd rfl this
    rw [this] at h
    cases h
theorem filter_snoc {α : Type} (p : α → Bool) (l : List α) (i : Nat) (x : α) (h : l[i]? = some x) : (l.take (i + 1)).filter p = (l.take i).filter p ++ if p x = true then [x] else [] := by
  rw [List.take_add_one, h, List.filter_append]
  congr 1
  by_cases d : p x = true
  · rw [if_pos d]
    show List.filter p [x] = [x]
    rw [List.filter_cons, if_pos d]
    rfl
  · rw [if_neg d]
    show List.filter p [x] = []
    rw [List.filter_cons, if_neg d]
    rfl
def dueL (m : Int) (t : Th) : List Bool := [kWhole t, tLabel t, tName t, tFull t, tRange 0 999 t, tRange (-1000000) 1000000 t, tRange 0 (m - 1) t]
def spDue (K : PySem.W.Frag) (C : Addr) : Sp := fun vs H Q _ => ∃ (x : V) (t : Th) (m : Int), vs = [.int m, x] ∧ AnyT K C H x t ∧ Fit t ∧ ∀ H' p, Same H H' → H' p = some (.lst ((dueL m t).map V.bl)) → Q (.ref p) H'
end LN
namespace LN
open PySem PySem.Spec PyProof.Rows L2
mutual
def no4 : PyData → Bool
  | .list xs => decide (xs.length ≠ 4) && no4s xs
  | .tuple xs => no4s xs
  | _ => true
def no4s : List PyData → Bool
  | [] => true
  | d :: ds => no4 d && no4s ds
end
section
variable {K : PySem.W.Frag} {H H' : Hp} {b bc : Addr}
mutual
theorem dp_drew (bag : Bag b bc H) (s : Drew b bc H H') : ∀ {d : PyData} {v : V}, Dp K H v d → no4 d = true → Dp K H' v d
  | _, _, .non, _ => .non
  | _, _, .bl x, _ => .bl x
  | _, _, .int i, _ => .int i
  | _, _, .str x, _ => .str x
  | _, _, .lst q r, h => by
    rename_i a xs ds
    have h' : (decide (ds.length ≠ 4) && no4s ds) = true := h
    rw [Bool.and_eq_true] at h'
    have n4 : ds.length ≠ 4 := of_decide_eq_true h'.1
    have ne : a ≠ b ∨ ∃ o its n, K.lookup a = some o ∧ o.cls = .type "list" ∧ o.dict = Option.none ∧ o.data = .seq its n ∧ its.size ≤ sizeLine ∧ Vals xs its.toList := by
      rcases q with (q | ⟨o, q⟩) | q
      · refine .inl fun e => ?_
        obtain ⟨x0, x1, x2, ns, _, hb, _⟩ := bag
        rw [e, hb] at q
        cases q
        have := dpa_len r
        exact n4 this.symm
      · refine .inl fun e => ?_
        obtain ⟨x0, x1, x2, ns, _, hb, _⟩ := bag
        rw [e, hb] at q
        cases q
      · exact .inr q
    refine .lst ?_ (dpa_drew bag s r h'.2)
    rcases ne with ne | q2
    · exact drew_seq s ne q
    · exact .inr q2
  | _, _, .tup q r, h => by
    refine .tup ?_ (dpa_drew bag s r h)
    rcases q with (q | ⟨o, q⟩) | q
    · obtain ⟨zs, hb⟩ := bag.lst
      exact .inl (.inl (s.keep _ _ (ne_of q hb (by intro z; cases z)) q))
    · obtain ⟨zs, hb⟩ := bag.lst
      exact .inl (.inr ⟨o, s.keep _ _ (ne_of q hb (by intro z; cases z)) q⟩)
    · exact .inr q
theorem dpa_drew (bag : Bag b bc H) (s : Drew b bc H H') : ∀ {ds : List PyData} {vs : List V}, DpAll K H vs ds → no4s ds = true → DpAll K H' vs ds
  | _, _, .nil, _ => .nil
  | _, _, .cons q r, h => by
    have h' : (no4 _ && no4s _) = true := h
    rw [Bool.and_eq_true] at h'
    exact .cons (dp_drew bag s q h'.1) (dpa_drew bag s r h'.2)
end
end
/-- a value that a law may hand to anything -/
structure Some_ (K : PySem.W.Frag) (C : Addr) (H : Hp) (x : V) (d : PyData) : Prop where
  any : AnyT K C H x (.d d)
  fit : Fit (.d d)
  four : no4 d = true
theorem Some_.same {K : PySem.W.Frag} {C : Addr} {H H' : Hp} {x : V} {d : PyData} (h : Some_ K C H x d) (s : Same H H') : Some_ K C H' x d := ⟨h.any.same s, h.fit, h.four⟩
theorem Some_.drew {K : PySem.W.Frag} {C b bc : Addr} {H H' : Hp} {x : V} {d : PyData} (h : Some_ K C H x d) (bag : Bag b bc H) (s : Drew b bc H H') : Some_ K C H' x d := by
  refine ⟨?_, h.fit, h.four⟩
  cases h.any with
  | dp q => exact .dp (dp_drew bag s q h.four)
  | emp q =>
    obtain ⟨zs, hb⟩ := bag.lst
    exact .emp (s.keep _ _ (ne_of q hb (by intro z; cases z)) q)
theorem fit_of {d : PyData} (g : Good d 5 sizeLine) (s : ∀ y : Str, d = .str y → y.length ≤ 100) (p : ∀ ds, d = .tuple ds → ds.length ≤ 1000 ∧ ∀ y : Str, PyData.str y ∈ ds → y.length ≤ 100) : Fit (.d d) :=
  ⟨fun e h => by cases h; exact .inr g, fun y h => by cases h; exact s y rfl, fun ds h => by cases h; exact p ds rfl⟩
theorem fit_emp : Fit (.d (.dict [])) := ⟨(fun e h => by cases h; exact .inl rfl), (fun y h => by cases h), (fun ds h => by cases h)⟩
theorem Good.any_int {i : Int} (h : i.natAbs.log2 < 1920) : Good (.int i) 0 sizeLine := ⟨rfl, decide_eq_true h, Nat.le_refl _, int_text_fits h⟩
theorem some_int {K : PySem.W.Frag} {C : Addr} {H : Hp} {i : Int} (h : i.natAbs.log2 < 1920) : Some_ K C H (.int i) (.int i) :=
  ⟨.dp (.int i), fit_of ((Good.any_int h).mono (by decide) (Nat.le_refl _)) (fun y e => by cases e) (fun ds e => by cases e), rfl⟩
theorem Good.lab {x : Str} (h : Lab x) : Good (.str x) 0 202 := Good.str h.ok h.few
theorem some_str {K : PySem.W.Frag} {C : Addr} {H : Hp} {x : Str} (h : Lab x) : Some_ K C H (.str x) (.str x) :=
  ⟨.dp (.str x), fit_of ((Good.lab h).mono (by decide) (by decide)) (fun y e => by cases e; have := h.few; omega) (fun ds e => by cases e), rfl⟩
theorem some_flat {K : PySem.W.Frag} {C : Addr} {H : Hp} {x : V} {d : PyData} (h : Dp K H x d) (g : Good d 5 sizeLine) (f : no4 d = true) (s : ∀ y : Str, d ≠ .str y) (p : ∀ ds, d ≠ .tuple ds) : Some_ K C H x d :=
  ⟨.dp h, fit_of g (fun y e => absurd e (s y)) (fun ds e => absurd e (p ds)), f⟩
theorem some_tup {K : PySem.W.Frag} {C : Addr} {H : Hp} {a : Addr} {xs : List V} {ds : List PyData} (q : SqT K H a xs) (r : DpAll K H xs ds) (g : ∀ d ∈ ds, Good d 3 2100) (l : ds.length ≤ 200) (f : no4s ds = true) (s : ∀ y : Str, PyData.str y ∈ ds → y.length ≤ 100) : Some_ K C H (.ref a) (.tuple ds) :=
  ⟨.dp (.tup q r), fit_of ((Good.tuple g l).mono (by decide) (by decide)) (fun y e => by cases e) (fun es e => by cases e; exact ⟨by omega, s⟩), f⟩
theorem good_str {l : List Str} (h : Labs l) : ∀ d ∈ l.map PyData.str, Good d 3 2100 := fun d hd => by
  obtain ⟨x, hx, rfl⟩ := List.mem_map.mp hd
  exact (Good.lab (h x hx)).mono (by decide) (by decide)
theorem no4_strs : ∀ l : List Str, no4s (l.map PyData.str) = true
  | [] => rfl
  | x :: l => no4_strs l
theorem few_strs {l : List Str} (h : Labs l) : ∀ y : Str, PyData.str y ∈ l.map PyData.str → y.length ≤ 100 := fun y hy => by
  obtain ⟨x, hx, e⟩ := List.mem_map.mp hy
  have e' := PyData.str.inj e
  have := (h x hx).few
  rw [← e']
  omega
def spThing (K : PySem.W.Frag) (C : Addr) : Sp := fun vs H Q _ => ∃ (b bc : Addr), vs = [.ref b] ∧ Bag b bc H ∧ ∀ H' x d, Drew b bc H H' → Some_ K C H' x d → Q x H'
end LN
namespace LN
open PySem PySem.Spec PyProof.Rows L2
theorem no4_snoc : ∀ ws : List Str, no4s (ws.map PyData.str ++ [.int 3]) = true
  | [] => rfl
  | x :: l => no4_snoc l
end LN
namespace LN
open PySem PySem.Spec PyProof.Rows L2
def spValues : Sp := fun vs H Q _ => ∃ (a : Addr), vs = [.ref a] ∧ H a = some (.dK []) ∧ ∀ H', Same H H' → Q (.bl true) H'
def spZone0 (C : Addr) : Sp := fun vs H Q _ => ∃ (p dx a : Addr), vs = [.ref p, .ref a] ∧ H p = some (.ins C dx []) ∧ H a = some (.dK []) ∧ ∀ H' fs, H' p = some (.ins C dx fs) → (∀ b o, H b = some o → b ≠ p → H' b = some o) → Q .non H'
def tNeverE : TE := fun _ _ _ => False
theorem pe_never {X : Cx} {e : Expr} : PE X e tNeverE := ⟨fun _ _ _ _ _ _ h => h.elim⟩
theorem fit_obj : Fit .obj := ⟨(fun e h => by cases h), (fun y h => by cases h), (fun ds h => by cases h)⟩
section
variable {X : Cx}
theorem cr_reprA {C : Addr} (quiet : Quiet X.A) (hu : X.A.units + 70 < cLine) : CallR X (.builtin "repr") (fun xs H Q => ∃ x d, xs = [x] ∧ AnyT X.K C H x (.d d) ∧ Fit (.d d) ∧ Q (.str d.shown) H) := by
  intro pins s σ H xs us Q inv rel want
  obtain ⟨x, d, rfl, any, fit, q⟩ := want
  cases any with
  | dp h =>
    have g : Good d 5 sizeLine := (fit.good _ rfl).elim (fun w => by rw [w] at h; cases h) id
    exact cr_repr quiet hu pins s σ H _ us Q inv rel ⟨x, d, rfl, h, g.shows, g.noDict, Nat.le_trans g.deep (by decide), g.len, q⟩
  | emp h =>
    rename_i a
    obtain ⟨u, rfl, ru⟩ := vals1 rel
    obtain rfl : u = Value.ref a := ru
    obtain ⟨_, off, vs, kv, o, es, ep, ho, ex, hd, _, prs, _⟩ := dk_of inv.hok h
    cases kv
    have len := prs.length
    have nil : es.toList = [] := List.length_eq_zero_iff.mp len
    have rd : Reads s.heap (.ref a) (.dict []) (a :: [] ++ []) := .dict ho ex.1 hd (by rw [nil]; exact .nil) (by rw [nil]; exact .nil)
    refine repr_of_reads' rd rfl (fun _ m => ?_) quiet (by show X.A.units + (1 + 1) < cLine; omega) (fun _ _ e => e) ?_ (by decide +kernel)
    · have := beq_eq_false_iff_ne.mp off
      simp only [List.append_nil, List.mem_singleton] at m
      exact this m.symm
    intro h' u tk hk
    exact ⟨.str (PyData.dict []).shown, H, inv.un (t' := tk) (Un.kept hk) (inv.hok.kept hk), ⟨u, rfl⟩, q⟩
end
end LN

namespace K11
open PySem PySem.Spec PyProof.Rows L2 LN
def topS (i : Nat) : Stmt := PySem.Challenge.pw_listnames_k11_kinds_of_any_value.main.body.getD i (.Pass ⟨0, 0, 0, 0⟩)
abbrev s_wall : Stmt := topS 0
abbrev s_is_integer : Stmt := topS 5
abbrev s_is_label : Stmt := topS 6
abbrev s_is_name : Stmt := topS 7
abbrev s_is_full : Stmt := topS 8
abbrev s_is_value : Stmt := topS 9
abbrev s_is_moment : Stmt := topS 10
abbrev s_is_number : Stmt := topS 11
abbrev s_ListError : Stmt := topS 13
abbrev s_Wrong : Stmt := topS 14
abbrev s_Wrong_init : Stmt := inClass (topS 14) 0
abbrev s_NoName : Stmt := topS 15
abbrev s_NoName_init : Stmt := inClass (topS 15) 0
abbrev s_Full : Stmt := topS 16
abbrev s_Full_init : Stmt := inClass (topS 16) 0
abbrev s_are_values : Stmt := topS 19
abbrev s_united : Stmt := topS 20
abbrev s_Zone : Stmt := topS 21
abbrev s_Zone_init : Stmt := inClass (topS 21) 0
abbrev s_Zone_eq : Stmt := inClass (topS 21) 1
abbrev s_Zone_len : Stmt := inClass (topS 21) 2
abbrev s_Zone_contains : Stmt := inClass (topS 21) 3
abbrev s_Zone_iter : Stmt := inClass (topS 21) 4
abbrev s_Zone_getitem : Stmt := inClass (topS 21) 5
abbrev s_Zone_setitem : Stmt := inClass (topS 21) 6
abbrev s_Zone_or : Stmt := inClass (topS 21) 7
abbrev s_Zone_ior : Stmt := inClass (topS 21) 8
abbrev s_Zone_and : Stmt := inClass (topS 21) 9
abbrev s_Zone_sub : Stmt := inClass (topS 21) 10
abbrev s_Zone_take : Stmt := inClass (topS 21) 11
abbrev s_Zone_names : Stmt := inClass (topS 21) 12
abbrev s_Zone_under : Stmt := inClass (topS 21) 13
abbrev s_Zone_state : Stmt := inClass (topS 21) 14
abbrev s_Zone_copied : Stmt := inClass (topS 21) 15
abbrev s_law_bag : Stmt := topS 23
abbrev s_law_take : Stmt := topS 24
abbrev s_law_alike : Stmt := topS 25
abbrev s_law_text : Stmt := topS 26
abbrev s_law_thing : Stmt := topS 27
abbrev s_law_is_label : Stmt := topS 28
abbrev s_law_due : Stmt := topS 29
abbrev s_law_told : Stmt := topS 30
abbrev s_law : Stmt := topS 31
section
variable {P : Program} {w : World} {K : PySem.W.Frag} {mg : Str → Option Value} {base : Heap}
theorem scBag : FnScope ["_law_script", "_law_cell"] ["_law_script"] (defScope s_law_bag) := ⟨rfl, rfl, rfl, by decide +kernel, rfl, by decide +kernel, by decide +kernel⟩
theorem ok_bag {f : Addr} {fd : FuncData} (F : Fun K "_law_bag" "_law_bag" s_law_bag f fd) (ma : mg "abs" = none) : FnOk P w K mg base CX0 1 f fd ["_law_script"] (spBag K) := by
  refine F.ok scBag (fun vs H Q E h => ?_) (fun cdv A outer s H vs Q E hr h => ?_)
  · obtain ⟨a, ns, rfl, _⟩ := h
    rfl
  obtain ⟨a, ns, rfl, hS, hlen, q⟩ := h
  refine ⟨_, pss_one (ps_ret (pe_lst (pa_cons pe_int (pa_cons pe_int (pa_cons pe_int (pa_cons
    (pe_lc (own := [("_law_cell", 1)]) (g := gName 1) (tt := tYes) rfl scBag.nd (pi_list (pe_slice sl_list (pv 0) po_none (po_some pe_int)))
      (blkOk_by (N := ["_law_script", "_law_cell"]) (sc := defScope s_law_bag) (by decide +kernel)) (fun _ _ _ _ _ => pg_name (i := 1) scBag.nd rfl (Or.inl rfl)) (fun _ _ _ _ _ => pts_nil)
      (fun _ _ _ _ _ => pe_callB call_abs (by rfl) ma (by decide +kernel) (pa_cons (pv 1) pa_nil))) pa_nil)))))), ?_⟩
  refine ⟨.ref a, rfl, 63, rfl, a, _, rfl, hS, fun p np => ?_⟩
  have s1 : Same H (upd H p (.lst (cutV (ns.map V.int) none (some 63)))) := same_put np
  refine ⟨p, rfl, ⟨_, .inl (.inl upd_same)⟩, fun D nD => ?_⟩
  have nDp : D ≠ p := fun e => by rw [e, upd_same] at nD; cases nD
  have s2 := s1.trans (same_put (o := .lst []) nD)
  refine lc_list (K := K) (a := p) (xs := cutV (ns.map V.int) none (some 63))
    (fun i G => ∃ ms : List Int, ms.length = i ∧ G D = some (.lst (ms.map V.int)) ∧ Same H G ∧ G p = some (.lst (cutV (ns.map V.int) none (some 63))))
    ⟨[], rfl, upd_same, s2, by rw [upd_ne nDp.symm]; exact upd_same⟩ (fun i G _ h => .inl (.inl h.choose_spec.2.2.2)) (fun i x G hx h => ?_) (fun G h => ?_)
  · obtain ⟨ms, hm, eD, sm, ep⟩ := h
    have hx' := List.mem_of_getElem? hx
    have : x ∈ ns.map V.int := by
      unfold cutV at hx'
      exact List.mem_of_mem_drop (List.mem_of_mem_take hx')
    obtain ⟨n, _, rfl⟩ := List.mem_map.mp this
    have hi : i < 64 := by
      have h1 := (List.getElem?_eq_some_iff.mp hx).1
      have h2 := cutV_length (ns.map V.int) none (some 63)
      rw [List.length_map] at h2
      omega
    have hn : H D = none := s1.free nD
    refine ⟨rfl, .int n, rfl, n, rfl, ms.map V.int, eD, ?_, ms ++ [if n < 0 then -n else n], ?_, ?_, ?_, ?_⟩
    · rw [List.length_map, hm]
      exact small1000 (by omega)
    · rw [List.length_append, hm]
      rfl
    · rw [upd_same, List.map_append]
      rfl
    · exact fun b o e => by rw [upd_ne (ne_of_none e hn)]; exact sm _ _ e
    · rw [upd_ne nDp.symm]
      exact ep
  · obtain ⟨ms, hm, eD, sm, ep⟩ := h
    refine ⟨by show 4 ≤ sizeLine; decide, fun b nb => ?_⟩
    refine q _ b D (sm.trans (same_put nb)) (sm.free nb) (s1.free nD) ⟨0, 1234567891, 0, ms, ne_of_none eD nb, upd_same, ?_, by decide, by decide, by decide⟩
    rw [upd_ne (ne_of_none eD nb)]
    exact eD

theorem scTake : FnScope ["_law_bag_here", "_law_many", "_law_cell", "_law_more", "_law_drawn"] ["_law_bag_here", "_law_many"] (defScope s_law_take) := ⟨rfl, rfl, rfl, by decide +kernel, rfl, by decide +kernel, by decide +kernel⟩
theorem ok_take {f : Addr} {fd : FuncData} (F : Fun K "_law_take" "_law_take" s_law_take f fd) (ml : mg "len" = none) (mi : mg "int" = none) : FnOk P w K mg base CX0 1 f fd ["_law_bag_here", "_law_many"] spTake := by
  refine F.ok scTake (fun vs H Q E h => ?_) (fun cdv A outer s H vs Q E hr h => ?_)
  · obtain ⟨b, bc, m, rfl, _⟩ := h
    rfl
  obtain ⟨b, c, m, rfl, bag, m1, m2, q⟩ := h
  have nd := scTake.nd
  refine ⟨_, C8.pss_cut (ps_if (pt_cmpR op_eq (pe_ix ix_list (pv 0) pe_int (fun _ _ => rfl)) pe_int (nomark _))
      (pss_cons (ps_set (i := 2) nd rfl (.inl rfl) pe_int)
      (C8.pss_cut (ps_if (pt_cmpR op_lt (pe_ix ix_list (pv 0) pe_int (fun _ _ => rfl)) (pe_callB call_len_seq (by rfl) ml PySem.boot_len (pa_cons (pe_ix ix_list (pv 0) pe_int (fun _ _ => rfl)) pa_nil)) (nomark _))
        (pss_one (ps_set (i := 2) nd rfl (.inl rfl) (pe_ix ix_list (pe_ix ix_list (pv 0) pe_int (fun _ _ => rfl)) (pe_ix ix_list (pv 0) pe_int (fun _ _ => rfl)) (fun _ _ => rfl)))) pss_nil)
      (pss_cons (ps_augS (pv 0) pe_int get_list pe_int ip_add set_list)
      (C8.pss_cut (ps_if (pt_cmpR op_ge (pv 2) pe_int (nomark _)) (pss_one (ps_asg (pv 2) (pg_sub (pv 0) pe_int set_list))) pss_nil)
      (pss_cons (ps_set (i := 3) nd rfl (.inl rfl) (pe_op op_add (pe_op op_mod (pe_callTy call_int1 (by rfl) mi (by decide +kernel) (pa_cons (pv 2) pa_nil)) pe_int)
          (pe_op op_mul pe_int (pe_ix ix_list (pv 0) pe_int (fun _ _ => rfl)))))
      (pss_one (ps_asg (pe_op op_mod (pe_callTy call_int1 (by rfl) mi (by decide +kernel) (pa_cons (pe_op op_add (pe_op op_mul (pe_ix ix_list (pv 0) pe_int (fun _ _ => rfl)) pe_int) (pv 3)) pa_nil)) pe_int) (pg_sub (pv 0) pe_int set_list)))))))) pss_nil)
    (pss_cons (ps_if (pt_cmpR op_gt (pe_ix ix_list (pv 0) pe_int (fun _ _ => rfl)) pe_int (nomark _))
      (pss_cons (ps_set (i := 4) nd rfl (.inl rfl) (pe_op op_mod (pe_callTy call_int1 (by rfl) mi (by decide +kernel) (pa_cons (pe_ix ix_list (pv 0) pe_int (fun _ _ => rfl)) pa_nil)) (pv 1)))
      (pss_cons (ps_asg (pe_op op_fdiv (pe_ix ix_list (pv 0) pe_int (fun _ _ => rfl)) (pv 1)) (pg_sub (pv 0) pe_int set_list)) (pss_one (ps_ret (pv 4))))) pss_nil)
    (C8.pss_cut (ps_asg (pe_op op_mod (pe_callTy call_int1 (by rfl) mi (by decide +kernel) (pa_cons (pe_op op_add (pe_op op_mul (pe_ix ix_list (pv 0) pe_int (fun _ _ => rfl)) pe_int) pe_int) pa_nil)) pe_int) (pg_sub (pv 0) pe_int set_list))
    (pss_one (ps_ret (pe_op op_mod (pe_callTy call_int1 (by rfl) mi (by decide +kernel) (pa_cons (pe_op op_fdiv (pe_ix ix_list (pv 0) pe_int (fun _ _ => rfl)) pe_int) pa_nil)) (pv 1)))))), ?_⟩
  obtain ⟨x0, x1, x2, ns, hcb, hb, hc, h1, h2, h3⟩ := bag
  let G : Int → Int → Int → Hp := fun x0 x1 x2 => upd H b (.lst [.int x0, .int x1, .int x2, .ref c])
  have gc : ∀ x0 x1 x2, G x0 x1 x2 c = some (.lst (ns.map V.int)) := fun x0 x1 x2 => (upd_ne hcb).trans hc
  have gb : ∀ x0 x1 x2, G x0 x1 x2 b = some (.lst [.int x0, .int x1, .int x2, .ref c]) := fun x0 x1 x2 => upd_same
  have st : ∀ x0 x1 x2 z0 z1 z2, upd (G x0 x1 x2) b (.lst [.int z0, .int z1, .int z2, .ref c]) = G z0 z1 z2 := fun _ _ _ _ _ _ => upd_upd
  have g0 : H = G x0 x1 x2 := (upd_own hb).symm
  have dr : ∀ z0 z1 z2, 0 ≤ z1 → z1 < 2147483647 → 0 ≤ z2 → Drew b c H (G z0 z1 z2) := fun z0 z1 z2 k1 k2 k3 =>
    ⟨⟨z0, z1, z2, ns, hcb, gb _ _ _, gc _ _ _, k1, k2, k3⟩, fun a o n e => (upd_ne n).trans e, fun a e z => by
      by_cases ea : a = b
      · rw [ea] at z
        exact absurd ((gb z0 z1 z2).symm.trans z) (Option.some_ne_none _)
      · exact e ((upd_ne (o := .lst [.int z0, .int z1, .int z2, .ref c]) ea).symm.trans z)⟩
  clear_value G
  subst g0
  have modr : ∀ z : Int, 0 ≤ z % 2147483647 ∧ z % 2147483647 < 2147483647 := fun z => ⟨Int.emod_nonneg z (by decide), Int.emod_lt_of_pos z (by decide)⟩
  have nat : ∀ z : Int, ∃ r : Nat, z % (m : Int) = (r : Int) ∧ r < m := fun z => by
    have a1 : 0 ≤ z % (m : Int) := Int.emod_nonneg z (by omega)
    have a2 : z % (m : Int) < (m : Int) := Int.emod_lt_of_pos z (by omega)
    exact ⟨(z % (m : Int)).toNat, by omega, by omega⟩
  refine ⟨fun σ' H' => ∃ y2 y3 z0 z1 z2, σ' = [some (.ref b), some (.int m), y2, y3, none] ∧ H' = G z0 z1 z2 ∧ 0 ≤ z1 ∧ z1 < 2147483647 ∧ 0 ≤ z2, ?_, ?_⟩
  · refine ⟨.ref b, rfl, b, _, 0, _, rfl, rfl, .inl (.inl (gb _ _ _)), rfl, rfl, _, rfl, ite2 (fun _ => ?_) (fun _ => ?_)⟩
    · refine ⟨fun σ' H' => ∃ z, σ' = [some (.ref b), some (.int m), some (.int z), none, none] ∧ H' = G x0 x1 x2, ?_, ?_⟩
      · refine ⟨.ref b, rfl, b, _, 2, _, rfl, rfl, .inl (.inl (gb _ _ _)), rfl, .ref b, rfl, b, _, 3, _, rfl, rfl, .inl (.inl (gb _ _ _)), rfl, c, _, rfl, .inl (.inl (.inl (gc _ _ _))), ?_⟩
        refine ⟨_, _, rfl, rfl, _, rfl, ite2 (fun e => ?_) (fun _ => ⟨0, rfl, rfl⟩)⟩
        have lt := of_decide_eq_true e
        rw [List.length_map] at lt
        obtain ⟨k, rfl⟩ := Int.eq_ofNat_of_zero_le h3
        have hk : k < ns.length := by omega
        refine ⟨.ref b, rfl, b, _, 3, _, rfl, rfl, .inl (.inl (gb _ _ _)), rfl, .ref b, rfl, b, _, 2, _, rfl, rfl, .inl (.inl (gb _ _ _)), rfl, c, _, k, .int ns[k], rfl, rfl, .inl (.inl (gc _ _ _)), atI_nat ?_, ⟨_, rfl, rfl⟩⟩
        rw [List.getElem?_map, List.getElem?_eq_getElem hk]
        rfl
      · rintro _ _ ⟨z, rfl, rfl⟩
        refine ⟨.ref b, rfl, b, _, 2, _, rfl, rfl, by decide, gb _ _ _, rfl, _, _, rfl, rfl, b, _, _, _, rfl, rfl, gb _ _ _, rfl, ?_⟩
        show C8.tCut _ _ _ _ (upd (G x0 x1 x2) b (.lst [.int x0, .int x1, .int (x2 + 1), .ref c]))
        rw [st]
        refine ⟨fun σ' H' => ∃ z z0, σ' = [some (.ref b), some (.int m), some (.int z), none, none] ∧ H' = G z0 x1 (x2 + 1), ?_, ?_⟩
        · refine ⟨_, rfl, _, _, rfl, rfl, _, rfl, ite2 (fun _ => ?_) (fun _ => ⟨_, _, rfl, rfl⟩)⟩
          refine ⟨_, rfl, .ref b, rfl, b, _, 0, _, rfl, rfl, gb _ _ _, rfl, ⟨z, z, rfl, ?_⟩⟩
          exact st _ _ _ _ _ _
        · rintro _ _ ⟨z, z0, rfl, rfl⟩
          refine ⟨_, rfl, .inl ⟨z, rfl, _, _, rfl, rfl, (by show (0 : Int) < 2147483647; decide), .ref b, rfl, b, _, 2, _, rfl, rfl, .inl (.inl (gb _ _ _)), rfl, _, _, rfl, rfl, .inl ⟨by decide, by decide⟩, _, _, rfl, rfl, ?_⟩⟩
          refine ⟨.ref b, rfl, b, _, 1, _, rfl, rfl, .inl (.inl (gb _ _ _)), rfl, _, _, rfl, rfl, .inl ⟨by omega, by omega⟩, _, rfl, _, _, rfl, rfl, .inl ⟨_, rfl, _, _, rfl, rfl, (by show (0 : Int) < 2147483647; decide), ?_⟩⟩
          refine ⟨.ref b, rfl, b, _, 1, _, rfl, rfl, gb _ _ _, rfl, ⟨_, _, z0, _, x2 + 1, rfl, st _ _ _ _ _ _, (modr _).1, (modr _).2, by omega⟩⟩
    · exact ⟨none, none, x0, x1, x2, rfl, rfl, h1, h2, h3⟩
  · rintro _ _ ⟨y2, y3, z0, z1, z2, rfl, rfl, k1, k2, k3⟩
    refine ⟨.ref b, rfl, b, _, 0, _, rfl, rfl, .inl (.inl (gb _ _ _)), rfl, _, _, rfl, rfl, _, rfl, ite2 (fun _ => ?_) (fun _ => ?_)⟩
    · obtain ⟨r, er, hr'⟩ := nat z0
      refine ⟨.ref b, rfl, b, _, 0, _, rfl, rfl, .inl (.inl (gb _ _ _)), rfl, .inl ⟨_, rfl, _, rfl, _, _, rfl, rfl, (by show (0 : Int) < (m : Int); omega), ?_⟩⟩
      refine ⟨.ref b, rfl, b, _, 0, _, rfl, rfl, .inl (.inl (gb _ _ _)), rfl, _, rfl, _, _, rfl, rfl, ⟨by omega, by omega⟩, .ref b, rfl, b, _, 0, _, rfl, rfl, gb _ _ _, rfl, _, rfl, ?_⟩
      show Q (V.int (z0 % (m : Int))) _
      rw [er]
      refine q _ r ?_ hr'
      show Drew b c _ (upd (G z0 z1 z2) b (.lst [.int (z0 / (m : Int)), .int z1, .int z2, .ref c]))
      rw [st]
      exact dr _ _ _ k1 k2 k3
    · refine ⟨fun σ' H' => σ' = [some (.ref b), some (.int m), y2, y3, none] ∧ H' = G z0 ((z1 * 48271 + 11) % 2147483647) z2, ⟨.ref b, rfl, b, _, 1, _, rfl, rfl, .inl (.inl (gb _ _ _)), rfl, _, _, rfl, rfl, .inl ⟨by omega, by omega⟩, _, _, rfl, rfl, .inl ⟨_, rfl, _, _, rfl, rfl, (by show (0 : Int) < 2147483647; decide), ?_⟩⟩, ?_⟩
      · exact ⟨.ref b, rfl, b, _, 1, _, rfl, rfl, gb _ _ _, rfl, rfl, st _ _ _ _ _ _⟩
      rintro _ _ ⟨rfl, rfl⟩
      obtain ⟨r, er, hr'⟩ := nat ((z1 * 48271 + 11) % 2147483647 / 64)
      refine ⟨.ref b, rfl, b, _, 1, _, rfl, rfl, .inl (.inl (gb _ _ _)), rfl, _, _, rfl, rfl, ⟨by decide, by decide⟩, .inl ⟨_, rfl, _, rfl, _, _, rfl, rfl, (by show (0 : Int) < (m : Int); omega), ?_⟩⟩
      show Q (V.int ((z1 * 48271 + 11) % 2147483647 / 64 % (m : Int))) _
      rw [er]
      exact q _ r (dr _ _ _ (modr _).1 (modr _).2 k3) hr'

theorem scAlike : FnScope ["_law_found", "_law_right"] ["_law_found", "_law_right"] (defScope s_law_alike) := ⟨rfl, rfl, rfl, by decide +kernel, rfl, by decide +kernel, by decide +kernel⟩
theorem ok_alike {f : Addr} {fd : FuncData} (F : Fun K "_law_alike" "_law_alike" s_law_alike f fd) (mr : mg "repr" = none) : FnQ P w K mg base 1 f fd ["_law_found", "_law_right"] (spAlike K) := by
  refine okQ F scAlike (fun vs H Q h => ?_) (fun cdv A outer s H vs Q quiet hr h => ?_)
  · obtain ⟨x, y, d, k, n, rfl, _⟩ := h
    rfl
  obtain ⟨x, y, d, k, n, rfl, dx, dy, g, hk, hn, q⟩ := h
  have un := hr.un
  refine ⟨_, pss_one (ps_ret (pe_and (pe_cmpR (op_eqD hr.units) (pv 0) (pv 1) (nomark _))
    (pe_one (pe_cmpR op_eq (pe_callB (cr_repr quiet (by show A.units + 3 + 70 < cLine; have : A.units + 3 + 16 * 0 + 200 < cLine := un; omega)) (by rfl) mr (by decide +kernel) (pa_cons (pv 0) pa_nil))
      (pe_callB (cr_repr quiet (by show A.units + 3 + 70 < cLine; have : A.units + 3 + 16 * 0 + 200 < cLine := un; omega)) (by rfl) mr (by decide +kernel) (pa_cons (pv 1) pa_nil)) (nomark _))))), ?_⟩
  have len : d.shown.length ≤ sizeLine := Nat.le_trans g.len hn
  refine ⟨x, rfl, y, rfl, d, d, dx, dy, g.shaped hk, g.shaped hk, true, by rw [g.self], ?_⟩
  refine iteT ?_
  refine ⟨x, rfl, x, d, rfl, dx, g.shows, g.noDict, Nat.le_trans g.deep hk, len, y, rfl, y, d, rfl, dy, g.shows, g.noDict, Nat.le_trans g.deep hk, len, rfl, ?_⟩
  show Q (.bl (decide (V.str d.shown = V.str d.shown))) H
  rw [decide_eq_true rfl]
  exact q

theorem scInteger : FnScope ["thing"] ["thing"] (defScope s_is_integer) := ⟨rfl, rfl, rfl, by decide +kernel, rfl, by decide +kernel, by decide +kernel⟩
theorem ok_integer {f C : Addr} {fd : FuncData} (F : Fun K "is_integer" "is_integer" s_is_integer f fd) (O : OwnTy K C) (mis : mg "isinstance" = none) (mi : mg "int" = none) (mb : mg "bool" = none) : FnOk P w K mg base CX0 1 f fd ["thing"] (spKind K C (fun _ => True) kWhole) := by
  refine F.ok scInteger (fun vs H Q E h => ?_) (fun cdv A outer s H vs Q E hr h => ?_)
  · obtain ⟨x, t, rfl, _⟩ := h
    rfl
  obtain ⟨x, t, rfl, any, fit, q⟩ := h
  refine ⟨_, pss_one (ps_ret (pe_and (pe_callB (call_isInt (C := C) O) (by rfl) mis (by decide +kernel) (pa_cons (pv 0) (pa_cons (pe_bltn (v := .ty "int") (by rfl) mi (by decide +kernel) rfl) pa_nil)))
    (pe_one (pe_not (pe_callB call_isBool (by rfl) mis (by decide +kernel) (pa_cons (pv 0) (pa_cons (pe_bltn (v := .ty "bool") (by rfl) mb (by decide +kernel) rfl) pa_nil))))))), ?_⟩
  have z := q H (Same.refl H)
  refine ⟨x, rfl, x, t, rfl, any, gInt t, rfl, ?_⟩
  cases any with
  | emp h => exact iteF z
  | obj h => exact iteF z
  | dp h =>
    rename_i d
    cases h with
    | non => exact iteF z
    | str y => exact iteF z
    | lst q1 q2 => exact iteF z
    | tup q1 q2 => exact iteF z
    | bl b => exact iteT ⟨_, rfl, _, .bool b, rfl, .bl b, _, rfl, z⟩
    | int i => exact iteT ⟨_, rfl, _, .int i, rfl, .int i, _, rfl, z⟩
theorem scNumber : FnScope ["many", "thing"] ["many", "thing"] (defScope s_is_number) := ⟨rfl, rfl, rfl, by decide +kernel, rfl, by decide +kernel, by decide +kernel⟩
theorem ok_number {f C fi : Addr} {fd fdi : FuncData} (F : Fun K "is_number" "is_number" s_is_number f fd) (DI : Df K mg "is_integer" s_is_integer ["thing"] fi fdi) (GI : FnOk P w K mg base CX0 1 fi fdi ["thing"] (spKind K C (fun _ => True) kWhole)) :
    FnOk P w K mg base CX0 2 f fd ["many", "thing"] (spNumber K C) := by
  refine F.ok scNumber (fun vs H Q E h => ?_) (fun cdv A outer s H vs Q E hr h => ?_)
  · obtain ⟨x, t, m, rfl, _⟩ := h
    rfl
  obtain ⟨x, t, m, rfl, any, q⟩ := h
  refine ⟨_, pss_one (ps_ret (pe_and (pcall DI GI hr (pa_cons (pv 1) pa_nil)) (pe_one (pe_chain op_le op_lt pe_int (pv 1) (pv 0))))), ?_⟩
  refine ⟨x, rfl, x, t, rfl, any, trivial, fun H' sm => ⟨_, rfl, ?_⟩⟩
  have z := q H' sm
  cases any with
  | emp h => exact iteF z
  | obj h => exact iteF z
  | dp h =>
    rename_i d
    cases h with
    | non => exact iteF z
    | str y => exact iteF z
    | lst q1 q2 => exact iteF z
    | tup q1 q2 => exact iteF z
    | bl b => exact iteF z
    | int i =>
      refine iteT ⟨_, rfl, _, _, rfl, rfl, _, rfl, ite2 (fun h1 => ?_) (fun h1 => ?_)⟩
      · have h1 := of_decide_eq_true h1
        refine ⟨_, rfl, _, _, rfl, rfl, ?_⟩
        have e : tRange 0 (m - 1) (.d (.int i)) = decide (i < m) := decide_eq_decide.mpr ⟨fun w => by omega, fun w => ⟨h1, by omega⟩⟩
        rw [e] at z
        exact z
      · have h1 : ¬ (0 : Int) ≤ i := fun w => h1 (decide_eq_true w)
        have e : tRange 0 (m - 1) (.d (.int i)) = false := decide_eq_false fun w => h1 w.1
        rw [e] at z
        exact z
theorem scValue : FnScope ["thing"] ["thing"] (defScope s_is_value) := ⟨rfl, rfl, rfl, by decide +kernel, rfl, by decide +kernel, by decide +kernel⟩
theorem ok_value {f C fn : Addr} {fd fdn : FuncData} {tk : Tok} (F : Fun K "is_value" "is_value" s_is_value f fd) (DN : Df K mg "is_number" s_is_number ["many", "thing"] fn fdn) (GN : FnOk P w K mg base CX0 2 fn fdn ["many", "thing"] (spNumber K C))
    (mV : mg "GREATEST_VALUE" = some (.int 999 tk)) : FnOk P w K mg base CX0 3 f fd ["thing"] (spKind K C (fun _ => True) (tRange 0 999)) := by
  refine F.ok scValue (fun vs H Q E h => ?_) (fun cdv A outer s H vs Q E hr h => ?_)
  · obtain ⟨x, t, rfl, _⟩ := h
    rfl
  obtain ⟨x, t, rfl, any, fit, q⟩ := h
  refine ⟨_, pss_one (ps_ret (pcall DN GN hr (pa_cons (pe_op op_add (pe_glob (v := .int 999) rfl mV ⟨_, rfl⟩) pe_int) (pa_cons (pv 0) pa_nil)))), ?_⟩
  exact ⟨_, _, rfl, rfl, x, rfl, x, t, 1000, rfl, any, q⟩
theorem scMoment : FnScope ["thing"] ["thing"] (defScope s_is_moment) := ⟨rfl, rfl, rfl, by decide +kernel, rfl, by decide +kernel, by decide +kernel⟩
theorem ok_moment {f C fi : Addr} {fd fdi : FuncData} {tk : Tok} (F : Fun K "is_moment" "is_moment" s_is_moment f fd) (DI : Df K mg "is_integer" s_is_integer ["thing"] fi fdi) (GI : FnOk P w K mg base CX0 1 fi fdi ["thing"] (spKind K C (fun _ => True) kWhole))
    (mV : mg "GREATEST_MOMENT" = some (.int 1000000 tk)) : FnOk P w K mg base CX0 2 f fd ["thing"] (spKind K C (fun _ => True) (tRange (-1000000) 1000000)) := by
  refine F.ok scMoment (fun vs H Q E h => ?_) (fun cdv A outer s H vs Q E hr h => ?_)
  · obtain ⟨x, t, rfl, _⟩ := h
    rfl
  obtain ⟨x, t, rfl, any, fit, q⟩ := h
  refine ⟨_, pss_one (ps_ret (pe_and (pcall DI GI hr (pa_cons (pv 0) pa_nil)) (pe_one (pe_chain op_le op_le (pe_un un_neg (pe_glob (v := .int 1000000) rfl mV ⟨_, rfl⟩)) (pv 0) (pe_glob (v := .int 1000000) rfl mV ⟨_, rfl⟩))))), ?_⟩
  refine ⟨x, rfl, x, t, rfl, any, trivial, fun H' sm => ⟨_, rfl, ?_⟩⟩
  have z := q H' sm
  cases any with
  | emp h => exact iteF z
  | obj h => exact iteF z
  | dp h =>
    rename_i d
    cases h with
    | non => exact iteF z
    | str y => exact iteF z
    | lst q1 q2 => exact iteF z
    | tup q1 q2 => exact iteF z
    | bl b => exact iteF z
    | int i =>
      refine iteT ⟨_, rfl, _, rfl, _, _, rfl, rfl, _, rfl, ite2 (fun h1 => ?_) (fun h1 => ?_)⟩
      · have h1 := of_decide_eq_true h1
        refine ⟨_, _, rfl, rfl, ?_⟩
        have e : tRange (-1000000) 1000000 (.d (.int i)) = decide (i ≤ 1000000) := decide_eq_decide.mpr ⟨fun w => w.2, fun w => ⟨h1, w⟩⟩
        rw [e] at z
        exact z
      · have h1 : ¬ (-1000000 : Int) ≤ i := fun w => h1 (decide_eq_true w)
        have e : tRange (-1000000) 1000000 (.d (.int i)) = false := decide_eq_false fun w => h1 w.1
        rw [e] at z
        exact z

theorem scLabel : FnScope ["thing", "sign"] ["thing"] (defScope s_is_label) := ⟨rfl, rfl, rfl, by decide +kernel, rfl, by decide +kernel, by decide +kernel⟩
theorem ok_label {f C : Addr} {fd : FuncData} {tk : Tok} (F : Fun K "is_label" "is_label" s_is_label f fd) (O : OwnTy K C) (mis : mg "isinstance" = none) (ms : mg "str" = none) (ml : mg "len" = none) (ma : mg "all" = none) (mL : mg "LABEL_SIGNS" = some (.int 8 tk)) :
    FnOk P w K mg base CX0 1 f fd ["thing"] (spKind K C ShortT tLabel) := by
  refine F.ok scLabel (fun vs H Q E h => ?_) (fun cdv A outer s H vs Q E hr h => ?_)
  · obtain ⟨x, t, rfl, _⟩ := h
    rfl
  obtain ⟨x, t, rfl, any, fit, q⟩ := h
  have nd := scLabel.nd
  refine ⟨_, pss_cons (ps_if (PW.pt (pw_or (pt_not (pt_val (pe_callB (call_isStr (C := C) O) (by rfl) mis (by decide +kernel) (pa_cons (pv 0) (pa_cons (pe_bltn (v := .ty "str") (by rfl) ms (by decide +kernel) rfl) pa_nil)))))
      (pw_or1 (pt_not (pt_chain op_le op_le pe_int (pe_callB call_len_str (by rfl) ml PySem.boot_len (pa_cons (pv 0) pa_nil)) (pe_glob (v := .int 8) rfl mL ⟨_, rfl⟩)))))) (pss_one (ps_ret pe_bl)) pss_nil)
    (pss_one (ps_ret (pe_callB (cr_all rfl) (by rfl) ma (by decide +kernel) (pa_cons (pe_lc (own := [("sign", 1)]) (g := gName 1) (tt := tYes) rfl nd (pi_str (pv 0))
      (blkOk_by (N := ["thing", "sign"]) (sc := defScope s_is_label) (by decide +kernel)) (fun _ _ _ _ _ => pg_name (i := 1) nd rfl (Or.inl rfl)) (fun _ _ _ _ _ => pts_nil)
      (fun _ _ _ _ _ => pe_chain op_le_str op_le_str pe_str (pv 1) pe_str)) pa_nil)))), ?_⟩
  have z := q H (Same.refl H)
  refine ⟨x, rfl, x, t, rfl, any, gStr t, rfl, ?_⟩
  cases any with
  | emp h => exact iteT z
  | obj h => exact iteT z
  | dp h =>
    rename_i d
    cases h with
    | non => exact iteT z
    | bl b => exact iteT z
    | int i => exact iteT z
    | lst q1 q2 => exact iteT z
    | tup q1 q2 => exact iteT z
    | str y =>
      have y100 := fit y rfl
      have line : y.length ≤ sizeLine := by rw [sizeLine_eq]; omega
      have wrong : ¬ (1 ≤ y.length ∧ y.length ≤ 8) → Q (.bl false) H := by
        intro w
        have e : tLabel (.d (.str y)) = false := by
          show (decide (1 ≤ y.length ∧ y.length ≤ 8) && _) = false
          rw [decide_eq_false w]
          rfl
        rw [e] at z
        exact z
      refine iteF ⟨.str y, rfl, y, rfl, line, _, _, rfl, rfl, _, rfl, ite2 (fun h1 => ?_) (fun h1 => ?_)⟩
      · have h1 := of_decide_eq_true h1
        refine ⟨_, _, rfl, rfl, _, rfl, ?_⟩
        by_cases h8 : (y.length : Int) ≤ 8
        · rw [decide_eq_true h8]
          refine iteF ⟨.str y, rfl, y, rfl, fun D nD => ?_⟩
          have size : y.cps.size = y.length := rfl
          refine lc_it (walk_str (z := y)) (fun i G => Same H G ∧ G D = some (.lst (((y.cps.toList.take i).map signOk).map V.bl))) ⟨same_put nD, upd_same⟩ (fun _ _ _ _ => trivial) (fun i x G G' hi h hx => ?_) (fun G h => ?_)
          · obtain ⟨sm, eD⟩ := h
            obtain ⟨rfl, c, hc, rfl⟩ := hx
            have hc' : y.cps.toList[i]? = some c := by simpa using hc
            have fin : ∀ b, b = signOk c → ∃ acc, G' D = some (.lst acc) ∧ acc.length < sizeLine ∧ Same H (upd G' D (.lst (acc ++ [V.bl b]))) ∧ upd G' D (.lst (acc ++ [V.bl b])) D = some (.lst (((y.cps.toList.take (i + 1)).map signOk).map V.bl)) := by
              intro b e
              refine ⟨_, eD, small1000 (by rw [List.length_map, List.length_map, List.length_take]; omega), fun a o w => ?_, ?_⟩
              · rw [upd_ne (ne_of_none w nD)]
                exact sm _ _ w
              · rw [upd_same, List.take_add_one, hc', List.map_append, List.map_append, e]
                rfl
            refine ⟨rfl, _, rfl, _, _, rfl, rfl, _, rfl, ?_⟩
            show if (!decide (([c] : List Nat) < [97])) = true then _ else _
            rw [sign_lo]
            have both := sign_both c
            by_cases lo : 97 ≤ c
            · rw [decide_eq_true lo]
              refine iteT ⟨_, _, rfl, rfl, ?_⟩
              rw [decide_eq_true lo, if_pos rfl] at both
              exact fin (!decide (([122] : List Nat) < [c])) ((sign_hi c).trans both)
            · rw [decide_eq_false lo]
              refine iteF ?_
              rw [decide_eq_false lo, if_neg Bool.false_ne_true] at both
              exact fin _ both
          · obtain ⟨sm, eD⟩ := h
            refine ⟨D, (y.cps.toList.map signOk), rfl, .inl (.inl ?_), ?_⟩
            · rw [eD, List.take_of_length_le (by rw [Array.length_toList]; exact Nat.le_refl _)]
            · have z2 := q G sm
              have e : tLabel (.d (.str y)) = (y.cps.toList.map signOk).all id := by
                show (decide (1 ≤ y.length ∧ y.length ≤ 8) && y.cps.toList.all signOk) = _
                rw [decide_eq_true (⟨by omega, by omega⟩ : 1 ≤ y.length ∧ y.length ≤ 8), Bool.true_and, List.all_map]
                rfl
              rw [e] at z2
              exact z2
        · rw [decide_eq_false h8]
          exact iteT (wrong fun w => h8 (by omega))
      · exact ⟨_, rfl, iteT (wrong fun w => h1 (decide_eq_true (by omega)))⟩
theorem scName : FnScope ["thing", "part"] ["thing"] (defScope s_is_name) := ⟨rfl, rfl, rfl, by decide +kernel, rfl, by decide +kernel, by decide +kernel⟩
theorem ok_name {f C fl : Addr} {fd fdl : FuncData} (F : Fun K "is_name" "is_name" s_is_name f fd) (O : OwnTy K C) (DL : Df K mg "is_label" s_is_label ["thing"] fl fdl) (GL : FnOk P w K mg base CX0 1 fl fdl ["thing"] (spKind K C ShortT tLabel))
    (mis : mg "isinstance" = none) (mt : mg "tuple" = none) (ma : mg "all" = none) : FnOk P w K mg base CX0 2 f fd ["thing"] (spKind K C Fit tName) := by
  refine F.ok scName (fun vs H Q E h => ?_) (fun cdv A outer s H vs Q E hr h => ?_)
  · obtain ⟨x, t, rfl, _⟩ := h
    rfl
  obtain ⟨x, t, rfl, any, fit, q⟩ := h
  have nd := scName.nd
  refine ⟨_, pss_one (ps_ret (pe_and (pe_callB (call_isTup (C := C) O) (by rfl) mis (by decide +kernel) (pa_cons (pv 0) (pa_cons (pe_bltn (v := .ty "tuple") (by rfl) mt (by decide +kernel) rfl) pa_nil)))
    (pe_one (pe_callB (cr_all rfl) (by rfl) ma (by decide +kernel) (pa_cons (pe_lc (own := [("part", 1)]) (g := gName 1) (tt := tYes) rfl nd (pi_tup (pv 0))
      (blkOk_by (N := ["thing", "part"]) (sc := defScope s_is_name) (by decide +kernel)) (fun _ _ _ _ _ => pg_name (i := 1) nd rfl (Or.inl rfl)) (fun _ _ _ _ _ => pts_nil)
      (fun _ _ _ _ _ => pcall DL GL hr (pa_cons (pv 1) pa_nil))) pa_nil))))), ?_⟩
  have z := q H (Same.refl H)
  refine ⟨x, rfl, x, t, rfl, any, gTup t, rfl, ?_⟩
  cases any with
  | emp h => exact iteF z
  | obj h => exact iteF z
  | dp h =>
    rename_i d
    cases h with
    | non => exact iteF z
    | bl b => exact iteF z
    | int i => exact iteF z
    | str y => exact iteF z
    | lst q1 q2 => exact iteF z
    | @tup a xs ds q1 q2 =>
      obtain ⟨p1, p2⟩ := fit.parts ds rfl
      have len := dpa_len q2
      refine iteT ⟨.ref a, rfl, a, rfl, ⟨_, q1⟩, fun D nD => ?_⟩
      refine lc_tup (K := K) (a := a) (xs := xs) (fun i G => Same H G ∧ G D = some (.lst (((ds.take i).map kLabel).map V.bl))) ⟨same_put nD, upd_same⟩ (fun i G _ h => same_seqT h.1 q1) (fun i v G hv h => ?_) (fun G h => ?_)
      · obtain ⟨sm, eD⟩ := h
        obtain ⟨e, he, dv⟩ := dpa_get q2 hv
        refine ⟨rfl, v, rfl, v, .d e, rfl, .dp (dp_same sm dv), fun y w => ?_, fun G2 s2 => ?_⟩
        · cases w
          exact p2 y (List.mem_of_getElem? he)
        · refine ⟨_, s2 _ _ eD, small1000 (by have := (List.getElem?_eq_some_iff.mp hv).1; rw [List.length_map, List.length_map, List.length_take]; omega), fun b o w => ?_, ?_⟩
          · rw [upd_ne (ne_of_none w nD)]
            exact s2 _ _ (sm _ _ w)
          · rw [upd_same, List.take_add_one, he, List.map_append, List.map_append]
            rfl
      · obtain ⟨sm, eD⟩ := h
        refine ⟨D, ds.map kLabel, rfl, .inl (.inl ?_), ?_⟩
        · rw [eD, List.take_of_length_le (by omega)]
        · have z2 := q G sm
          have e : tName (.d (.tuple ds)) = (ds.map kLabel).all id := by
            show ds.all kLabel = _
            rw [List.all_map]
            rfl
          rw [e] at z2
          exact z2
theorem scFull : FnScope ["thing"] ["thing"] (defScope s_is_full) := ⟨rfl, rfl, rfl, by decide +kernel, rfl, by decide +kernel, by decide +kernel⟩
theorem ok_full {f C fn : Addr} {fd fdn : FuncData} (F : Fun K "is_full" "is_full" s_is_full f fd) (DN : Df K mg "is_name" s_is_name ["thing"] fn fdn) (GN : FnOk P w K mg base CX0 2 fn fdn ["thing"] (spKind K C Fit tName)) :
    FnOk P w K mg base CX0 3 f fd ["thing"] (spKind K C Fit tFull) := by
  refine F.ok scFull (fun vs H Q E h => ?_) (fun cdv A outer s H vs Q E hr h => ?_)
  · obtain ⟨x, t, rfl, _⟩ := h
    rfl
  obtain ⟨x, t, rfl, any, fit, q⟩ := h
  refine ⟨_, pss_one (ps_ret (pe_and (pcall DN GN hr (pa_cons (pv 0) pa_nil)) (pe_one (pe_cmpR (op_neD hr.units) (pv 0) (pe_tup pa_nil) (nomark _))))), ?_⟩
  refine ⟨x, rfl, x, t, rfl, any, fit, fun H' sm => ⟨_, rfl, ?_⟩⟩
  have z := q H' sm
  cases any with
  | emp h => exact iteF z
  | obj h => exact iteF z
  | dp h =>
    rename_i d
    have dx := dp_same sm h
    cases h with
    | non => exact iteF z
    | bl b => exact iteF z
    | int i => exact iteF z
    | str y => exact iteF z
    | lst q1 q2 => exact iteF z
    | @tup a xs ds q1 q2 =>
      have g : Good (.tuple ds) 5 sizeLine := (fit.good _ rfl).elim (fun w => by cases w) id
      refine ite2 (fun h1 => ?_) (fun h1 => ?_)
      · refine ⟨_, rfl, by show 0 ≤ sizeLine; decide, fun p np => ?_⟩
        refine ⟨_, .tuple [], dp_same (same_put np) dx, .tup (.inl (.inl upd_same)) .nil, g.shaped (by decide), by decide +kernel, ?_⟩
        have z2 := q _ (sm.trans (same_put (o := .tup []) np))
        have e : tFull (.d (.tuple ds)) = !PyData.eqv (.tuple ds) (.tuple []) := by
          show (ds.all kLabel && !ds.isEmpty) = _
          rw [show ds.all kLabel = true from h1, Bool.true_and]
          cases ds <;> rfl
        rw [e] at z2
        exact z2
      · have e : tFull (.d (.tuple ds)) = false := by
          show (ds.all kLabel && !ds.isEmpty) = false
          rw [show ds.all kLabel = false from Bool.eq_false_iff.mpr h1]
          rfl
        rw [e] at z
        exact z

theorem scText : FnScope ["_law_bag_here", "_law_signs", "_law_many", "_law_pool", "_law_k"] ["_law_bag_here"] (defScope s_law_text) := ⟨rfl, rfl, rfl, by decide +kernel, rfl, by decide +kernel, by decide +kernel⟩
theorem ok_text {f ft : Addr} {fd fdt : FuncData} (F : Fun K "_law_text" "_law_text" s_law_text f fd) (DT : Df K mg "_law_take" s_law_take ["_law_bag_here", "_law_many"] ft fdt)
    (GT : FnOk P w K mg base CX0 1 ft fdt ["_law_bag_here", "_law_many"] spTake) (mr : mg "range" = none) : FnOk P w K mg base CX0 2 f fd ["_law_bag_here"] spText := by
  refine F.ok scText (fun vs H Q E h => ?_) (fun cdv A outer s H vs Q E hr h => ?_)
  · obtain ⟨b, bc, rfl, _⟩ := h
    rfl
  obtain ⟨b, bc, rfl, bag, q⟩ := h
  have nd := scText.nd
  refine ⟨_, pss_cons (ps_set (i := 1) nd rfl (.inr rfl) pe_str)
    (C8.pss_cut (ps_set (i := 2) nd rfl (.inl rfl) (pe_ix ix_list (pe_lst (pa_cons pe_int (pa_cons pe_int (pa_cons pe_int (pa_cons (pcall DT GT hr (pa_cons (pv 0) (pa_cons pe_int pa_nil))) pa_nil))))) (pcall DT GT hr (pa_cons (pv 0) (pa_cons pe_int pa_nil))) (fun _ _ => rfl)))
    (C8.pss_cut (ps_set (i := 3) nd rfl (.inr rfl) (pe_ix ix_list (pe_lst (pa_cons pe_int (pa_cons pe_int (pa_cons pe_int (pa_cons pe_int pa_nil))))) (pcall DT GT hr (pa_cons (pv 0) (pa_cons pe_int pa_nil))) (fun _ _ => rfl)))
    (pss_one (ps_ret (pe_join pe_str (pe_lc (own := [("_law_k", 4)]) (g := gName 4) (tt := tYes) rfl nd (pi_range1 (by rfl) mr (pa_cons (pv 2) pa_nil))
      (blkOk_by (N := ["_law_bag_here", "_law_signs", "_law_many", "_law_pool", "_law_k"]) (sc := defScope s_law_text) (by decide +kernel)) (fun _ _ _ _ _ => pg_name (i := 4) nd rfl (Or.inl rfl)) (fun _ _ _ _ _ => pts_nil)
      (fun _ _ _ _ _ => pe_item_str (pv 1) (pcall DT GT hr (pa_cons (pv 0) (pa_cons (pv 3) pa_nil))) (fun _ _ => rfl)))))))), ?_⟩
  refine ⟨fun σ' G => ∃ m : Nat, σ' = [some (.ref b), some (.str pool), some (.int m), none, none] ∧ Drew b bc H G ∧ m ≤ 11, ?_, ?_⟩
  · refine ⟨.ref b, rfl, b, bc, 11, rfl, bag, by decide, by decide, fun H1 r1 d1 h1 => ?_⟩
    refine ⟨by show 4 ≤ sizeLine; decide, fun l nl => ?_⟩
    have d2 := d1.same (same_put (o := .lst [.int 1, .int 8, .int 9, .int r1]) nl)
    refine ⟨.ref b, rfl, b, bc, 4, rfl, d2.bag, by decide, by decide, fun H3 r d3 hr3 => ?_⟩
    have el : SqL K H3 l [.int 1, .int 8, .int 9, .int r1] := drew_seq d3 (d1.bag.apart nl).1 (.inl (.inl upd_same))
    obtain ⟨k, ek, hk⟩ : ∃ k : Nat, ([V.int 1, .int 8, .int 9, .int r1] : List V)[r]? = some (.int (k : Nat)) ∧ k ≤ 11 := by
      have : r = 0 ∨ r = 1 ∨ r = 2 ∨ r = 3 := by omega
      rcases this with rfl | rfl | rfl | rfl
      · exact ⟨1, rfl, by omega⟩
      · exact ⟨8, rfl, by omega⟩
      · exact ⟨9, rfl, by omega⟩
      · exact ⟨r1, rfl, by omega⟩
    exact ⟨l, _, _, _, rfl, rfl, el, atI_nat ek, k, rfl, d2.trans d3, hk⟩
  rintro _ G ⟨m, rfl, dG, m11⟩
  refine ⟨fun σ' G2 => ∃ n : Nat, σ' = [some (.ref b), some (.str pool), some (.int m), some (.int n), none] ∧ Drew b bc H G2 ∧ 1 ≤ n ∧ n ≤ 31, ?_, ?_⟩
  · refine ⟨by show 4 ≤ sizeLine; decide, fun l nl => ?_⟩
    have d2 := dG.same (same_put (o := .lst [.int 26, .int 26, .int 26, .int 31]) nl)
    refine ⟨.ref b, rfl, b, bc, 4, rfl, d2.bag, by decide, by decide, fun H3 r d3 hr3 => ?_⟩
    have el : SqL K H3 l [.int 26, .int 26, .int 26, .int 31] := drew_seq d3 (dG.bag.apart nl).1 (.inl (.inl upd_same))
    obtain ⟨k, ek, hk⟩ : ∃ k : Nat, ([V.int 26, .int 26, .int 26, .int 31] : List V)[r]? = some (.int (k : Nat)) ∧ (1 ≤ k ∧ k ≤ 31) := by
      have : r = 0 ∨ r = 1 ∨ r = 2 ∨ r = 3 := by omega
      rcases this with rfl | rfl | rfl | rfl
      · exact ⟨26, rfl, by omega⟩
      · exact ⟨26, rfl, by omega⟩
      · exact ⟨26, rfl, by omega⟩
      · exact ⟨31, rfl, by omega⟩
    exact ⟨l, _, _, _, rfl, rfl, el, atI_nat ek, k, rfl, d2.trans d3, hk.1, hk.2⟩
  rintro _ G2 ⟨n, rfl, d2, n1, n31⟩
  refine ⟨⟨_, rfl⟩, _, rfl, m, rfl, by omega, by omega, fun D nD => ?_⟩
  have apart := d2.bag.apart nD
  refine lc_range (lo := 0) (n := m) (fun i G3 => ∃ ys : List Str, G3 D = some (.lst (ys.map V.str)) ∧ Drew b bc G2 G3 ∧ (∀ y ∈ ys, PyData.strOk y = true ∧ y.length ≤ 1) ∧ ys.length = i)
    ⟨[], upd_same, (Drew.refl d2.bag).put d2.bag nD, fun _ h => absurd h List.not_mem_nil, rfl⟩ (fun i G3 hi h => ?_) (fun G3 h => ?_)
  · obtain ⟨ys, eD, d3, ok, hl⟩ := h
    refine ⟨rfl, _, rfl, .ref b, rfl, _, rfl, b, bc, n, rfl, d3.bag, n1, by omega, fun G4 r d4 hr4 => ?_⟩
    obtain ⟨c, ec, hc⟩ := pool_at (show r < 31 by omega)
    refine ⟨pool, r, c, rfl, rfl, by omega, by omega, ?_, ec, ys.map V.str, d4.keep D _ apart.1 eD, small1000 (by rw [List.length_map]; omega), ys ++ [⟨#[c]⟩], ?_, (d3.trans d4).put d2.bag nD, ?_, by rw [List.length_append, hl]; rfl⟩
    · show (r : Int) < ((31 : Nat) : Int)
      omega
    · rw [upd_same, List.map_append]
      rfl
    · intro y hy
      rcases List.mem_append.mp hy with hy | hy
      · exact ok y hy
      · rw [List.mem_singleton.mp hy]
        exact ⟨strOk_one hc, Nat.le_refl 1⟩
  · obtain ⟨ys, eD, d3, ok, hl⟩ := h
    have j := join_ok ys ok
    refine ⟨_, D, ys, rfl, rfl, .inl (.inl (.inl eD)), ?_, ?_⟩
    · have e0 : (Str.ofString "").length = 0 := rfl
      have s : (ys.map (·.length)).sum ≤ ys.length := by
        clear eD j hl
        induction ys with
        | nil => exact Nat.le_refl _
        | cons y r ih =>
          have := (ok y List.mem_cons_self).2
          have := ih fun z hz => ok z (List.mem_cons_of_mem _ hz)
          simp only [List.map_cons, List.sum_cons, List.length_cons]
          omega
      rw [e0]
      omega
    · have e : Txt.join (Str.ofString "") ys = Str.join (Str.ofString "") ys := StrLaws.glued_eq_join _ _
      rw [e]
      exact q _ _ (d2.trans d3) ⟨j.1, by have := j.2; omega⟩

theorem scLawLabel : FnScope ["_law_thing_here", "_law_sign"] ["_law_thing_here"] (defScope s_law_is_label) := ⟨rfl, rfl, rfl, by decide +kernel, rfl, by decide +kernel, by decide +kernel⟩
theorem ok_law_label {f C : Addr} {fd : FuncData} (F : Fun K "_law_is_label" "_law_is_label" s_law_is_label f fd) (O : OwnTy K C) (mis : mg "isinstance" = none) (ms : mg "str" = none) (ml : mg "len" = none) :
    FnOk P w K mg base CX0 1 f fd ["_law_thing_here"] (spKind K C LabT tLabel) := by
  refine F.ok scLawLabel (fun vs H Q E h => ?_) (fun cdv A outer s H vs Q E hr h => ?_)
  · obtain ⟨x, t, rfl, _⟩ := h
    rfl
  obtain ⟨x, t, rfl, any, fit, q⟩ := h
  have nd := scLawLabel.nd
  refine ⟨_, pss_cons (ps_if (PW.pt (pw_or (pt_not (pt_val (pe_callB (call_isStr (C := C) O) (by rfl) mis (by decide +kernel) (pa_cons (pv 0) (pa_cons (pe_bltn (v := .ty "str") (by rfl) ms (by decide +kernel) rfl) pa_nil)))))
      (pw_or (pt_cmpR op_lt (pe_callB call_len_str (by rfl) ml PySem.boot_len (pa_cons (pv 0) pa_nil)) pe_int (nomark _)) (pw_or1 (pt_cmpR op_gt (pe_callB call_len_str (by rfl) ml PySem.boot_len (pa_cons (pv 0) pa_nil)) pe_int (nomark _)))))) (pss_one (ps_ret pe_bl)) pss_nil)
    (pss_one (ps_ret (pe_cmpR (op_eqD hr.units) (pe_lc (own := [("_law_sign", 1)]) (g := gName 1) rfl nd (pi_str (pv 0))
      (blkOk_by (N := ["_law_thing_here", "_law_sign"]) (sc := defScope s_law_is_label) (by decide +kernel)) (fun _ _ _ _ _ => pg_name (i := 1) nd rfl (Or.inl rfl)) (fun _ _ _ _ _ => pts_one (pt_cmpR op_notIn_sign (pv 1) pe_str rfl))
      (fun _ _ _ _ _ => pv 1)) (pe_lst pa_nil) (nomark _)))), ?_⟩
  have z := q H (Same.refl H)
  refine ⟨x, rfl, x, t, rfl, any, gStr t, rfl, ?_⟩
  cases any with
  | emp h => exact iteT z
  | obj h => exact iteT z
  | dp h =>
    rename_i d
    cases h with
    | non => exact iteT z
    | bl b => exact iteT z
    | int i => exact iteT z
    | lst q1 q2 => exact iteT z
    | tup q1 q2 => exact iteT z
    | str y =>
      obtain ⟨y100, ok⟩ := fit y rfl
      have line : y.length ≤ sizeLine := by rw [sizeLine_eq]; omega
      have wrong : ¬ (1 ≤ y.length ∧ y.length ≤ 8) → Q (.bl false) H := by
        intro w
        have e : tLabel (.d (.str y)) = false := by
          show (decide (1 ≤ y.length ∧ y.length ≤ 8) && _) = false
          rw [decide_eq_false w]
          rfl
        rw [e] at z
        exact z
      refine iteF ⟨.str y, rfl, y, rfl, line, _, _, rfl, rfl, _, rfl, ite2 (fun h1 => ?_) (fun h1 => ?_)⟩
      · exact wrong fun w => by have := of_decide_eq_true h1; omega
      refine ⟨.str y, rfl, y, rfl, line, _, _, rfl, rfl, _, rfl, ite2 (fun h2 => ?_) (fun h2 => ?_)⟩
      · exact wrong fun w => by have := of_decide_eq_true h2; omega
      have h1 : 1 ≤ y.length := by
        by_cases w : (y.length : Int) < 1
        · exact absurd (decide_eq_true w) h1
        · omega
      have h2 : y.length ≤ 8 := by
        by_cases w : 8 < (y.length : Int)
        · exact absurd (decide_eq_true w) h2
        · omega
      refine ⟨.str y, rfl, y, rfl, fun D nD => ?_⟩
      have size : y.cps.size = y.length := rfl
      refine lc_it (walk_str (z := y)) (fun i G => Same H G ∧ G D = some (.lst ((badSigns y i).map fun c => V.str ⟨#[c]⟩)) ∧ (badSigns y i).length ≤ i) ⟨same_put nD, upd_same, Nat.le_refl _⟩ (fun _ _ _ _ => trivial) (fun i x G G' hi h hx => ?_) (fun G h => ?_)
      · obtain ⟨sm, eD, hl⟩ := h
        obtain ⟨rfl, c, hc, rfl⟩ := hx
        have hc' : y.cps.toList[i]? = some c := by simpa using hc
        have step : badSigns y (i + 1) = badSigns y i ++ if (!signOk c) = true then [c] else [] := filter_snoc _ _ i c hc'
        refine ⟨rfl, _, rfl, c, _, rfl, rfl, _, rfl, ?_⟩
        rw [alpha_signs]
        cases sg : signOk c with
        | true =>
          rw [sg] at step
          refine iteF ⟨sm, ?_, ?_⟩
          · rw [step]
            show G' D = some (.lst ((badSigns y i ++ []).map _))
            rw [List.append_nil]
            exact eD
          · rw [step]
            show (badSigns y i ++ []).length ≤ _
            rw [List.append_nil]
            omega
        | false =>
          rw [sg] at step
          refine iteT ⟨_, rfl, _, eD, small1000 (by rw [List.length_map]; omega), fun a o w => ?_, ?_, ?_⟩
          · rw [upd_ne (ne_of_none w nD)]
            exact sm _ _ w
          · rw [upd_same, step]
            show _ = some (HO.lst ((badSigns y i ++ [c]).map _))
            rw [List.map_append]
            rfl
          · rw [step]
            show (badSigns y i ++ [c]).length ≤ _
            rw [List.length_append]
            show _ + 1 ≤ _
            omega
      · obtain ⟨sm, eD, hl⟩ := h
        refine ⟨by show 0 ≤ sizeLine; decide, fun l nl => ?_⟩
        have chars : ∀ cs : List Nat, ∀ G, DpAll K G (cs.map fun c => V.str ⟨#[c]⟩) (cs.map fun c => PyData.str ⟨#[c]⟩) := fun cs G => by
          induction cs with
          | nil => exact .nil
          | cons c r ih => exact .cons (.str _) ih
        have s2 := same_put (o := .lst []) nl
        refine ⟨.list ((badSigns y y.cps.size).map fun c => PyData.str ⟨#[c]⟩), .list [], .lst (.inl (.inl (s2 _ _ eD))) (chars _ _), .lst (.inl (.inl upd_same)) .nil, shaped_list (k := 0) (fun d hd => ?_) (fun d hd => ?_) (by decide), by decide +kernel, ?_⟩
        · obtain ⟨c, hc, rfl⟩ := List.mem_map.mp hd
          exact strOk_one (strOk_mem ok (List.mem_of_mem_take (List.mem_filter.mp hc).1))
        · obtain ⟨c, hc, rfl⟩ := List.mem_map.mp hd
          exact Nat.le_refl _
        · rw [eqv_empty, badSigns_nil]
          have z2 := q _ (sm.trans s2)
          have e : tLabel (.d (.str y)) = y.cps.toList.all signOk := by
            show (decide (1 ≤ y.length ∧ y.length ≤ 8) && y.cps.toList.all signOk) = _
            rw [decide_eq_true (⟨h1, h2⟩ : 1 ≤ y.length ∧ y.length ≤ 8), Bool.true_and]
          rw [e] at z2
          exact z2
theorem scDue : FnScope ["_law_many", "_law_thing_here", "_law_whole", "_law_name", "_law_found", "_law_one"] ["_law_many", "_law_thing_here"] (defScope s_law_due) := ⟨rfl, rfl, rfl, by decide +kernel, rfl, by decide +kernel, by decide +kernel⟩
theorem ok_due {f C fl : Addr} {fd fdl : FuncData} (F : Fun K "_law_due" "_law_due" s_law_due f fd) (O : OwnTy K C) (DL : Df K mg "_law_is_label" s_law_is_label ["_law_thing_here"] fl fdl) (GL : FnOk P w K mg base CX0 1 fl fdl ["_law_thing_here"] (spKind K C LabT tLabel))
    (mis : mg "isinstance" = none) (mi : mg "int" = none) (mb : mg "bool" = none) (mt : mg "tuple" = none) : FnOk P w K mg base CX0 2 f fd ["_law_many", "_law_thing_here"] (spDue K C) := by
  refine F.ok scDue (fun vs H Q E h => ?_) (fun cdv A outer s H vs Q E hr h => ?_)
  · obtain ⟨x, t, m, rfl, _⟩ := h
    rfl
  obtain ⟨x, t, m, rfl, any, fit, q⟩ := h
  have nd := scDue.nd
  refine ⟨_, C8.pss_cut (ps_set (i := 2) nd rfl (.inl rfl) (pe_and (pe_callB (call_isInt (C := C) O) (by rfl) mis (by decide +kernel) (pa_cons (pv 1) (pa_cons (pe_bltn (v := .ty "int") (by rfl) mi (by decide +kernel) rfl) pa_nil)))
      (pe_one (pe_not (pe_callB call_isBool (by rfl) mis (by decide +kernel) (pa_cons (pv 1) (pa_cons (pe_bltn (v := .ty "bool") (by rfl) mb (by decide +kernel) rfl) pa_nil)))))))
    (C8.pss_cut (ps_set (i := 3) nd rfl (.inl rfl) (pe_and (pe_callB (call_isTup (C := C) O) (by rfl) mis (by decide +kernel) (pa_cons (pv 1) (pa_cons (pe_bltn (v := .ty "tuple") (by rfl) mt (by decide +kernel) rfl) pa_nil)))
      (pe_one (pe_cmpR (op_eqD hr.units) (pe_lc (own := [("_law_one", 5)]) (g := gName 5) rfl nd (pi_tup (pv 1)) (blkOk_by (N := ["_law_many", "_law_thing_here", "_law_whole", "_law_name", "_law_found", "_law_one"]) (sc := defScope s_law_due) (by decide +kernel))
        (fun _ _ _ _ _ => pg_name (i := 5) nd rfl (Or.inl rfl)) (fun _ _ _ _ _ => pts_one (pt_not (pt_val (pcall DL GL hr (pa_cons (pv 5) pa_nil))))) (fun _ _ _ _ _ => pv 5)) (pe_lst pa_nil) (nomark _)))))
    (C8.pss_cut (ps_set (i := 4) nd rfl (.inl rfl) (pe_lst (pa_cons (pv 2) (pa_cons (pcall DL GL hr (pa_cons (pv 1) pa_nil)) (pa_cons (pv 3) (pa_cons (pe_and (pv 3) (pe_one (pe_cmpR (op_neD hr.units) (pv 1) (pe_tup pa_nil) (nomark _))))
      (pa_cons (pe_and (pv 2) (pe_one (pe_chain op_le op_le pe_int (pv 1) pe_int))) pa_nil)))))))
    (pss_one (ps_ret (pe_op op_cat (pv 4) (pe_lst (pa_cons (pe_and (pv 2) (pe_one (pe_chain op_le op_le (pe_un un_neg pe_int) (pv 1) pe_int))) (pa_cons (pe_and (pv 2) (pe_one (pe_chain op_le op_lt pe_int (pv 1) (pv 0)))) pa_nil)))))))), ?_⟩
  -- whether it is whole
  refine ⟨fun σ' G => σ' = [some (.int m), some x, some (.bl (kWhole t)), none, none, none] ∧ Same H G, ?_, ?_⟩
  · refine ⟨x, rfl, x, t, rfl, any, gInt t, rfl, ?_⟩
    cases any with
    | emp h => exact iteF ⟨rfl, Same.refl _⟩
    | obj h => exact iteF ⟨rfl, Same.refl _⟩
    | dp h =>
      rename_i d
      cases h with
      | non => exact iteF ⟨rfl, Same.refl _⟩
      | str y => exact iteF ⟨rfl, Same.refl _⟩
      | lst q1 q2 => exact iteF ⟨rfl, Same.refl _⟩
      | tup q1 q2 => exact iteF ⟨rfl, Same.refl _⟩
      | bl b => exact iteT ⟨_, rfl, _, .bool b, rfl, .bl b, _, rfl, rfl, Same.refl _⟩
      | int i => exact iteT ⟨_, rfl, _, .int i, rfl, .int i, _, rfl, rfl, Same.refl _⟩
  rintro _ G ⟨rfl, sG⟩
  have anyG := any.same sG
  -- whether it is a name
  refine ⟨fun σ' G2 => σ' = [some (.int m), some x, some (.bl (kWhole t)), some (.bl (tName t)), none, none] ∧ Same G G2, ?_, ?_⟩
  · refine ⟨x, rfl, x, t, rfl, anyG, gTup t, rfl, ?_⟩
    cases anyG with
    | emp h => exact iteF ⟨rfl, Same.refl _⟩
    | obj h => exact iteF ⟨rfl, Same.refl _⟩
    | dp h =>
      rename_i d
      cases h with
      | non => exact iteF ⟨rfl, Same.refl _⟩
      | str y => exact iteF ⟨rfl, Same.refl _⟩
      | lst q1 q2 => exact iteF ⟨rfl, Same.refl _⟩
      | bl b => exact iteF ⟨rfl, Same.refl _⟩
      | int i => exact iteF ⟨rfl, Same.refl _⟩
      | @tup a xs ds q1 q2 =>
        obtain ⟨p1, p2⟩ := fit.parts ds rfl
        have g : Good (.tuple ds) 5 sizeLine := (fit.good _ rfl).elim (fun w => by cases w) id
        have layd : ∀ d ∈ ds, d.canLay0 = true := lay_mem (show PyData.canLayAll0 ds = true from g.lay)
        have deepd : ∀ d ∈ ds, d.depth ≤ 4 := deep_mem (show PyData.depthAll ds ≤ 4 by have := g.deep; simp only [PyData.depth] at this; omega)
        have len := dpa_len q2
        refine iteT ⟨.ref a, rfl, a, rfl, ⟨_, q1⟩, fun D nD => ?_⟩
        refine lc_tup (K := K) (a := a) (xs := xs) (fun i G2 => Same G G2 ∧ ∃ ws, G2 D = some (.lst ws) ∧ DpAll K G ws (badParts ds i) ∧ ws.length ≤ i) ⟨same_put nD, [], upd_same, .nil, Nat.le_refl _⟩ (fun i G2 _ h => same_seqT h.1 q1) (fun i v G2 hv h => ?_) (fun G2 h => ?_)
        · obtain ⟨sm, ws, eD, dw, hl⟩ := h
          obtain ⟨e, he, dv⟩ := dpa_get q2 hv
          have step : badParts ds (i + 1) = badParts ds i ++ if (!kLabel e) = true then [e] else [] := filter_snoc _ _ i e he
          have hi : i < 1000 := by
            have := (List.getElem?_eq_some_iff.mp hv).1
            omega
          refine ⟨rfl, v, rfl, v, .d e, rfl, .dp (dp_same sm dv), fun y w => ?_, fun G3 s3 => ⟨_, rfl, ?_⟩⟩
          · cases w
            exact ⟨p2 y (List.mem_of_getElem? he), layd _ (List.mem_of_getElem? he)⟩
          · show if (!kLabel e) = true then _ else _
            cases sg : kLabel e with
            | true =>
              rw [sg] at step
              refine iteF ⟨sm.trans s3, ws, s3 _ _ eD, ?_, by omega⟩
              rw [step]
              show DpAll K G ws (badParts ds i ++ [])
              rw [List.append_nil]
              exact dw
            | false =>
              rw [sg] at step
              refine iteT ⟨v, rfl, ws, s3 _ _ eD, small1000 (by omega), fun b o w => ?_, ws ++ [v], upd_same, ?_, by rw [List.length_append]; show _ + 1 ≤ _; omega⟩
              · rw [upd_ne (ne_of_none w nD)]
                exact s3 _ _ (sm _ _ w)
              · rw [step]
                exact dpa_append dw (.cons dv .nil)
        · obtain ⟨sm, ws, eD, dw, hl⟩ := h
          refine ⟨by show 0 ≤ sizeLine; decide, fun l nl => ?_⟩
          have s2 := same_put (o := .lst []) nl
          rw [len] at dw
          refine ⟨.list (badParts ds ds.length), .list [], .lst (.inl (.inl (s2 _ _ eD))) (dpa_same (sm.trans s2) dw), .lst (.inl (.inl upd_same)) .nil,
            shaped_list (k := 4) (fun d hd => layd d (List.mem_of_mem_take (List.mem_filter.mp hd).1)) (fun d hd => deepd d (List.mem_of_mem_take (List.mem_filter.mp hd).1)) (by decide), by decide +kernel, ?_⟩
          rw [eqv_empty, badParts_nil]
          exact ⟨rfl, sm.trans s2⟩
  rintro _ G2 ⟨rfl, s2⟩
  have any2 := anyG.same s2
  have kinds3 : (∃ i, x = .int i ∧ t = .d (.int i)) ∨ (∃ a ds, x = .ref a ∧ t = .d (.tuple ds) ∧ Dp K G2 x (.tuple ds)) ∨ (kWhole t = false ∧ tName t = false ∧ tFull t = false ∧ ∀ lo hi, tRange lo hi t = false) := by
    cases any2 with
    | emp h => exact .inr (.inr ⟨rfl, rfl, rfl, fun _ _ => rfl⟩)
    | obj h => exact .inr (.inr ⟨rfl, rfl, rfl, fun _ _ => rfl⟩)
    | dp h =>
      rename_i d
      cases h with
      | non => exact .inr (.inr ⟨rfl, rfl, rfl, fun _ _ => rfl⟩)
      | str y => exact .inr (.inr ⟨rfl, rfl, rfl, fun _ _ => rfl⟩)
      | bl b => exact .inr (.inr ⟨rfl, rfl, rfl, fun _ _ => rfl⟩)
      | lst q1 q2 => exact .inr (.inr ⟨rfl, rfl, rfl, fun _ _ => rfl⟩)
      | int i => exact .inl ⟨i, rfl, rfl⟩
      | tup q1 q2 => exact .inr (.inl ⟨_, _, rfl, rfl, .tup q1 q2⟩)
  refine ⟨fun σ' G3 => ∃ p, σ' = [some (.int m), some x, some (.bl (kWhole t)), some (.bl (tName t)), some (.ref p), none] ∧ Same G2 G3 ∧ G3 p = some (.lst ([kWhole t, tLabel t, tName t, tFull t, tRange 0 999 t].map V.bl)), ?_, ?_⟩
  · refine ⟨_, rfl, x, rfl, x, t, rfl, any2, fit.lab, fun G3 s3 => ?_⟩
    have fin : ∀ (G4 : Hp) (p : Addr) (vs : List V), Same G3 G4 → G4 p = none → vs = ([kWhole t, tLabel t, tName t, tFull t, tRange 0 999 t].map V.bl) → ∃ p', [some (V.int m), some x, some (.bl (kWhole t)), some (.bl (tName t)), some (.ref p), none] = [some (V.int m), some x, some (.bl (kWhole t)), some (.bl (tName t)), some (.ref p'), none] ∧
        Same G2 (upd G4 p (.lst vs)) ∧ upd G4 p (.lst vs) p' = some (.lst ([kWhole t, tLabel t, tName t, tFull t, tRange 0 999 t].map V.bl)) :=
      fun G4 p vs s4 np e => ⟨p, rfl, (s3.trans s4).trans (same_put np), by rw [upd_same, e]⟩
    rcases kinds3 with ⟨i, rfl, rfl⟩ | ⟨a, ds, rfl, rfl, dx⟩ | ⟨k1, k2, k3, k4⟩
    · refine ⟨_, rfl, _, rfl, _, rfl, iteF ⟨_, rfl, _, rfl, iteT ⟨_, rfl, _, _, rfl, rfl, _, rfl, ite2 (fun h1 => ?_) (fun h1 => ?_)⟩⟩⟩
      · have h1 := of_decide_eq_true h1
        refine ⟨_, _, rfl, rfl, by show 5 ≤ sizeLine; decide, fun p np => ?_⟩
        have e : tRange 0 999 (.d (.int i)) = decide (i ≤ 999) := decide_eq_decide.mpr ⟨fun w => w.2, fun w => ⟨h1, w⟩⟩
        exact fin G3 p _ (Same.refl _) np (by rw [e]; rfl)
      · have e : tRange 0 999 (.d (.int i)) = false := decide_eq_false fun w => h1 (decide_eq_true w.1)
        refine ⟨by show 5 ≤ sizeLine; decide, fun p np => ?_⟩
        exact fin G3 p _ (Same.refl _) np (by rw [e]; rfl)
    · have g : Good (.tuple ds) 5 sizeLine := (fit.good _ rfl).elim (fun w => by cases w) id
      refine ⟨_, rfl, _, rfl, _, rfl, ite2 (fun h1 => ?_) (fun h1 => ?_)⟩
      · refine ⟨_, rfl, by show 0 ≤ sizeLine; decide, fun u nu => ?_⟩
        have s4 := same_put (o := .tup []) nu
        refine ⟨_, .tuple [], dp_same (s3.trans s4) dx, .tup (.inl (.inl upd_same)) .nil, g.shaped (by decide), by decide +kernel, ?_⟩
        refine ⟨_, rfl, _, rfl, iteF ⟨by show 5 ≤ sizeLine; decide, fun p np => ?_⟩⟩
        have e : tFull (.d (.tuple ds)) = !PyData.eqv (.tuple ds) (.tuple []) := by
          show (ds.all kLabel && !ds.isEmpty) = _
          rw [show ds.all kLabel = true from h1, Bool.true_and]
          cases ds <;> rfl
        exact fin _ p _ s4 np (by rw [e]; rfl)
      · have e : tFull (.d (.tuple ds)) = false := by
          show (ds.all kLabel && !ds.isEmpty) = false
          rw [show ds.all kLabel = false from Bool.eq_false_iff.mpr h1]
          rfl
        refine ⟨_, rfl, _, rfl, iteF ⟨by show 5 ≤ sizeLine; decide, fun p np => ?_⟩⟩
        refine fin G3 p _ (Same.refl _) np ?_
        rw [e, show tName (.d (.tuple ds)) = false from Bool.eq_false_iff.mpr h1]
        rfl
    · rw [k1, k2]
      refine ⟨_, rfl, _, rfl, _, rfl, iteF ⟨_, rfl, _, rfl, iteF ⟨by show 5 ≤ sizeLine; decide, fun p np => ?_⟩⟩⟩
      have z := fin G3 p [.bl false, .bl (tLabel t), .bl false, .bl false, .bl false] (Same.refl _) np (by rw [k1, k2, k3, k4]; rfl)
      rw [k1, k2] at z
      exact z
  rintro _ G3 ⟨p, rfl, s3, ep⟩
  have sH3 := (sG.trans s2).trans s3
  have tail : ∀ (b1 b2 : Bool) (l : Addr), b1 = tRange (-1000000) 1000000 t → b2 = tRange 0 (m - 1) t → G3 l = none → ∃ l1 l2 xs zs, V.ref p = .ref l1 ∧ V.ref l = .ref l2 ∧ upd G3 l (.lst [.bl b1, .bl b2]) l1 = some (.lst xs) ∧ upd G3 l (.lst [.bl b1, .bl b2]) l2 = some (.lst zs) ∧
      xs.length + zs.length ≤ sizeLine ∧ ∀ p2, upd G3 l (.lst [.bl b1, .bl b2]) p2 = none → Q (.ref p2) (upd (upd G3 l (.lst [.bl b1, .bl b2])) p2 (.lst (xs ++ zs))) := by
    intro b1 b2 l e1 e2 nl
    refine ⟨p, l, _, _, rfl, rfl, (by rw [upd_ne (ne_of_none ep nl)]; exact ep), upd_same, by rw [sizeLine_eq]; show 5 + 2 ≤ _; decide, fun p2 np2 => ?_⟩
    refine q _ p2 ((sH3.trans (same_put nl)).trans (same_put np2)) ?_
    rw [upd_same, e1, e2]
    rfl
  refine ⟨_, rfl, ?_⟩
  rcases kinds3 with ⟨i, rfl, rfl⟩ | ⟨a, ds, rfl, rfl, dx⟩ | ⟨k1, k2, k3, k4⟩
  · have second : ∀ b1, b1 = tRange (-1000000) 1000000 (.d (.int i)) → tAndV (tVar 2) (tChain (rI0 fun i j => V.bl (decide (i ≤ j))) (rI0 fun i j => V.bl (decide (i < j))) (tC (V.int 0)) (tVar 1) (tVar 0))
        [some (.int m), some (.int i), some (.bl (kWhole (.d (.int i)))), some (.bl (tName (.d (.int i)))), some (.ref p), none] G3 (fun v G => [V.bl b1, v].length ≤ sizeLine ∧ ∀ l, G l = none → ∃ l1 l2 xs zs, V.ref p = .ref l1 ∧ V.ref l = .ref l2 ∧ upd G l (.lst [V.bl b1, v]) l1 = some (.lst xs) ∧
          upd G l (.lst [V.bl b1, v]) l2 = some (.lst zs) ∧ xs.length + zs.length ≤ sizeLine ∧ ∀ p2, upd G l (.lst [V.bl b1, v]) p2 = none → Q (.ref p2) (upd (upd G l (.lst [V.bl b1, v])) p2 (.lst (xs ++ zs)))) := by
      intro b1 e1
      refine ⟨_, rfl, _, rfl, iteT ⟨_, rfl, _, _, rfl, rfl, _, rfl, ite2 (fun h1 => ?_) (fun h1 => ?_)⟩⟩
      · have h1 := of_decide_eq_true h1
        refine ⟨_, rfl, _, _, rfl, rfl, by show 2 ≤ sizeLine; decide, fun l nl => tail _ _ l e1 ?_ nl⟩
        exact decide_eq_decide.mpr ⟨fun w => ⟨h1, by omega⟩, fun w => by omega⟩
      · exact ⟨by show 2 ≤ sizeLine; decide, fun l nl => tail _ _ l e1 (decide_eq_false fun w => h1 (decide_eq_true w.1)).symm nl⟩
    refine ⟨_, rfl, _, rfl, iteT ⟨_, rfl, _, rfl, _, _, rfl, rfl, _, rfl, ite2 (fun h1 => ?_) (fun h1 => ?_)⟩⟩
    · have h1 := of_decide_eq_true h1
      refine ⟨_, _, rfl, rfl, second _ ?_⟩
      exact decide_eq_decide.mpr ⟨fun w => ⟨h1, w⟩, fun w => w.2⟩
    · exact second _ (decide_eq_false fun w => h1 (decide_eq_true w.1)).symm
  · refine ⟨_, rfl, _, rfl, iteF ⟨_, rfl, _, rfl, iteF ⟨by show 2 ≤ sizeLine; decide, fun l nl => tail _ _ l rfl rfl nl⟩⟩⟩
  · rw [k1]
    exact ⟨_, rfl, _, rfl, iteF ⟨_, rfl, _, rfl, iteF ⟨by show 2 ≤ sizeLine; decide, fun l nl => tail _ _ l (k4 _ _).symm (k4 _ _).symm nl⟩⟩⟩
theorem scTold : FnScope ["_law_many", "_law_thing_here", "_law_found"] ["_law_many", "_law_thing_here"] (defScope s_law_told) := ⟨rfl, rfl, rfl, by decide +kernel, rfl, by decide +kernel, by decide +kernel⟩
theorem ok_told {f C f1 f2 f3 f4 f5 f6 f7 : Addr} {fd d1 d2 d3 d4 d5 d6 d7 : FuncData} (F : Fun K "_law_told" "_law_told" s_law_told f fd)
    (D1 : Df K mg "is_integer" s_is_integer ["thing"] f1 d1) (G1 : FnOk P w K mg base CX0 1 f1 d1 ["thing"] (spKind K C (fun _ => True) kWhole))
    (D2 : Df K mg "is_label" s_is_label ["thing"] f2 d2) (G2 : FnOk P w K mg base CX0 1 f2 d2 ["thing"] (spKind K C ShortT tLabel))
    (D3 : Df K mg "is_name" s_is_name ["thing"] f3 d3) (G3 : FnOk P w K mg base CX0 2 f3 d3 ["thing"] (spKind K C Fit tName))
    (D4 : Df K mg "is_full" s_is_full ["thing"] f4 d4) (G4 : FnOk P w K mg base CX0 3 f4 d4 ["thing"] (spKind K C Fit tFull))
    (D5 : Df K mg "is_value" s_is_value ["thing"] f5 d5) (G5 : FnOk P w K mg base CX0 3 f5 d5 ["thing"] (spKind K C (fun _ => True) (tRange 0 999)))
    (D6 : Df K mg "is_moment" s_is_moment ["thing"] f6 d6) (G6 : FnOk P w K mg base CX0 2 f6 d6 ["thing"] (spKind K C (fun _ => True) (tRange (-1000000) 1000000)))
    (D7 : Df K mg "is_number" s_is_number ["many", "thing"] f7 d7) (G7 : FnOk P w K mg base CX0 2 f7 d7 ["many", "thing"] (spNumber K C)) :
    FnOk P w K mg base CX0 4 f fd ["_law_many", "_law_thing_here"] (spDue K C) := by
  refine F.ok scTold (fun vs H Q E h => ?_) (fun cdv A outer s H vs Q E hr h => ?_)
  · obtain ⟨x, t, m, rfl, _⟩ := h
    rfl
  obtain ⟨x, t, m, rfl, any, fit, q⟩ := h
  have nd := scTold.nd
  refine ⟨_, pss_cons (ps_set (i := 2) nd rfl (.inl rfl) (pe_lst (pa_cons (pcall D1 G1 (hr.mono (by decide)) (pa_cons (pv 1) pa_nil)) (pa_cons (pcall D2 G2 (hr.mono (by decide)) (pa_cons (pv 1) pa_nil)) (pa_cons (pcall D3 G3 (hr.mono (by decide)) (pa_cons (pv 1) pa_nil))
      (pa_cons (pcall D4 G4 hr (pa_cons (pv 1) pa_nil)) (pa_cons (pcall D5 G5 hr (pa_cons (pv 1) pa_nil)) (pa_cons (pcall D6 G6 (hr.mono (by decide)) (pa_cons (pv 1) pa_nil)) pa_nil))))))))
    (pss_one (ps_ret (pe_op op_cat (pv 2) (pe_lst (pa_cons (pcall D7 G7 (hr.mono (by decide)) (pa_cons (pv 0) (pa_cons (pv 1) pa_nil))) pa_nil))))), ?_⟩
  refine ⟨x, rfl, x, t, rfl, any, trivial, fun H1 s1 => ⟨x, rfl, x, t, rfl, any.same s1, fit.short, fun H2 s2 => ?_⟩⟩
  have a2 := any.same (s1.trans s2)
  refine ⟨x, rfl, x, t, rfl, a2, fit, fun H3 s3 => ⟨x, rfl, x, t, rfl, a2.same s3, fit, fun H4 s4 => ?_⟩⟩
  have a4 := a2.same (s3.trans s4)
  refine ⟨x, rfl, x, t, rfl, a4, trivial, fun H5 s5 => ⟨x, rfl, x, t, rfl, a4.same s5, trivial, fun H6 s6 => ?_⟩⟩
  refine ⟨by show 6 ≤ sizeLine; decide, fun p np => ?_⟩
  have s7 := same_put (o := .lst ([kWhole t, tLabel t, tName t, tFull t, tRange 0 999 t, tRange (-1000000) 1000000 t].map V.bl)) np
  refine ⟨.ref p, rfl, .int m, rfl, x, rfl, x, t, m, rfl, a4.same ((s5.trans s6).trans s7), fun H8 s8 => ⟨by show 1 ≤ sizeLine; decide, fun l nl => ?_⟩⟩
  have ep : H8 p = some (.lst ([kWhole t, tLabel t, tName t, tFull t, tRange 0 999 t, tRange (-1000000) 1000000 t].map V.bl)) := s8 _ _ upd_same
  refine ⟨p, l, _, _, rfl, rfl, (by rw [upd_ne (ne_of_none ep nl)]; exact ep), upd_same, by rw [sizeLine_eq]; show 6 + 1 ≤ _; decide, fun p2 np2 => ?_⟩
  refine q _ p2 (((((((s1.trans s2).trans s3).trans s4).trans s5).trans s6).trans s7).trans ((s8.trans (same_put nl)).trans (same_put np2))) ?_
  rw [upd_same]
  rfl

theorem scThing : FnScope ["_law_bag_here", "_law_edges", "_law_words", "_law_some", "_law_k"] ["_law_bag_here"] (defScope s_law_thing) := ⟨rfl, rfl, rfl, by decide +kernel, rfl, by decide +kernel, by decide +kernel⟩
theorem ok_thing {f ft fx C : Addr} {fd fdt fdx : FuncData} (F : Fun K "_law_thing" "_law_thing" s_law_thing f fd) (DT : Df K mg "_law_take" s_law_take ["_law_bag_here", "_law_many"] ft fdt)
    (GT : FnOk P w K mg base CX0 1 ft fdt ["_law_bag_here", "_law_many"] spTake) (DX : Df K mg "_law_text" s_law_text ["_law_bag_here"] fx fdx) (GX : FnOk P w K mg base CX0 2 fx fdx ["_law_bag_here"] spText)
    (mr : mg "range" = none) (mt : mg "tuple" = none) : FnOk P w K mg base CX0 3 f fd ["_law_bag_here"] (spThing K C) := by
  refine F.ok scThing (fun vs H Q E h => ?_) (fun cdv A outer s H vs Q E hr h => ?_)
  · obtain ⟨b, bc, rfl, _⟩ := h
    rfl
  obtain ⟨b, bc, rfl, bag, q⟩ := h
  have nd := scThing.nd
  refine ⟨_, C8.pss_cut (ps_set (i := 1) nd rfl (.inl rfl) (pe_lst (pa_cons pe_int (pa_cons pe_int (pa_cons pe_int (pa_cons (pe_un un_neg pe_int) (pa_cons pe_int (pa_cons pe_int (pa_cons (pe_un un_neg pe_int) (pa_cons (pe_un un_neg pe_int)
      (pa_cons (pe_op op_pow pe_int pe_int) (pa_cons (pe_op op_sub pe_int (pe_op op_pow pe_int pe_int)) (pa_cons (pcall DT GT (hr.mono (by decide)) (pa_cons (pv 0) (pa_cons pe_int pa_nil))) pa_nil)))))))))))))
    (C8.pss_cut (ps_setLc (i := 2) (own := [("_law_k", 4)]) (g := gName 4) (tt := tYes) rfl nd rfl rfl (sw_true rfl rfl rfl (by decide +kernel)) (pi_range1 (by rfl) mr (pa_cons (pcall DT GT (hr.mono (by decide)) (pa_cons (pv 0) (pa_cons pe_int pa_nil))) pa_nil))
      (blkOk_by (N := ["_law_bag_here", "_law_edges", "_law_words", "_law_some", "_law_k"]) (sc := defScope s_law_thing) (by decide +kernel)) (fun _ _ _ _ _ => pg_name (i := 4) nd rfl (Or.inl rfl)) (fun _ _ _ _ _ => pts_nil)
      (fun _ _ _ _ _ => pcall DX GX hr (pa_cons (pv 0) pa_nil)))
    (C8.pss_cut (ps_set (i := 3) nd rfl (.inl rfl) (pe_lst (pa_cons (pe_ix ix_list (pv 1) (pcall DT GT (hr.mono (by decide)) (pa_cons (pv 0) (pa_cons pe_int pa_nil))) (fun _ _ => rfl)) (pa_cons (pcall DX GX hr (pa_cons (pv 0) pa_nil))
      (pa_cons (pe_callTy call_tuple_of (by rfl) mt (by decide +kernel) (pa_cons (pv 2) pa_nil)) (pa_cons (pv 2) (pa_cons (pe_callTy call_tuple_of (by rfl) mt (by decide +kernel) (pa_cons (pe_op op_cat (pv 2) (pe_lst (pa_cons pe_int pa_nil))) pa_nil))
      (pa_cons (pe_op op_repD (pe_tup (pa_cons pe_str pa_nil)) pe_int) (pa_cons pe_bl pa_nil)))))))))
    (pss_one (ps_ret (pe_ix ix_list (pe_op op_cat (pv 3) (pe_lst (pa_cons pe_bl (pa_cons pe_non (pa_cons (pe_tup pa_nil) (pa_cons (pe_lst pa_nil) (pa_cons pe_dnewK (pa_cons (pe_tup (pa_cons (pe_tup (pa_cons pe_str pa_nil)) pa_nil))
      (pa_cons (pe_tup (pa_cons pe_str (pa_cons pe_non pa_nil))) (pa_cons (pe_lst (pa_cons (pe_lst (pa_cons (pe_lst (pa_cons (pe_lst pa_nil) pa_nil)) pa_nil)) pa_nil)) (pa_cons (pe_tup (pa_cons pe_str (pa_cons pe_str pa_nil))) pa_nil)))))))))))
      (pcall DT GT (hr.mono (by decide)) (pa_cons (pv 0) (pa_cons pe_int pa_nil))) (fun _ _ => rfl)))))), ?_⟩
  -- the edges
  refine ⟨fun σ' G => ∃ (e : Addr) (es : List V), σ' = [some (.ref b), some (.ref e), none, none, none] ∧ Drew b bc H G ∧ e ≠ b ∧ G e = some (.lst es) ∧ es.length = 11 ∧ ∀ v ∈ es, ∃ i : Int, v = .int i ∧ i.natAbs.log2 < 1920, ?_, ?_⟩
  · refine ⟨_, rfl, _, rfl, _, rfl, _, _, rfl, rfl, ⟨by decide, by decide, by decide⟩, _, _, rfl, rfl, ⟨by decide, by decide, by decide⟩, _, _, rfl, rfl, .ref b, rfl, b, bc, 2000, rfl, bag, by decide, by decide, fun H1 r d1 hr1 => ?_⟩
    refine ⟨by show 11 ≤ sizeLine; decide, fun e ne => ?_⟩
    refine ⟨e, _, rfl, d1.same (same_put ne), (d1.bag.apart ne).1, upd_same, rfl, ?_⟩
    intro v hv
    simp only [List.mem_cons, List.not_mem_nil, or_false] at hv
    have small : ((r : Nat) : Int).natAbs.log2 < 1920 := by
      rw [Int.natAbs_natCast]
      refine Nat.lt_of_le_of_lt ?_ (show (2048 : Nat).log2 < 1920 by decide)
      by_cases z : r = 0
      · rw [z]; decide
      · exact (Nat.le_log2 (by decide)).mpr (Nat.le_trans (Nat.log2_self_le z) (by omega))
    rcases hv with rfl | rfl | rfl | rfl | rfl | rfl | rfl | rfl | rfl | rfl | rfl
    · exact ⟨_, rfl, by decide +kernel⟩
    · exact ⟨_, rfl, by decide +kernel⟩
    · exact ⟨_, rfl, by decide +kernel⟩
    · exact ⟨_, rfl, by decide +kernel⟩
    · exact ⟨_, rfl, by decide +kernel⟩
    · exact ⟨_, rfl, by decide +kernel⟩
    · exact ⟨_, rfl, by decide +kernel⟩
    · exact ⟨_, rfl, by decide +kernel⟩
    · exact ⟨_, rfl, by decide +kernel⟩
    · exact ⟨_, rfl, by decide +kernel⟩
    · exact ⟨_, rfl, small⟩
  rintro _ G ⟨e, es, rfl, dG, neb, ee, el, ints_⟩
  -- the words
  refine ⟨fun σ' G2 => ∃ (wd : Addr) (ws : List Str), σ' = [some (.ref b), some (.ref e), some (.ref wd), none, none] ∧ Drew b bc H G2 ∧ G2 e = some (.lst es) ∧ wd ≠ b ∧ G2 wd = some (.lst (ws.map V.str)) ∧ Labs ws ∧ ws.length ≤ 3, ?_, ?_⟩
  · refine ⟨.ref b, rfl, b, bc, 4, rfl, dG.bag, by decide, by decide, fun G2 r d2 hr2 => ?_⟩
    have e2 := d2.keep e _ neb ee
    refine ⟨r, rfl, by omega, by omega, fun D nD => ?_⟩
    have apart := d2.bag.apart nD
    refine lc_range (lo := 0) (n := r) (fun i G3 => ∃ ws : List Str, G3 D = some (.lst (ws.map V.str)) ∧ Drew b bc G2 G3 ∧ Labs ws ∧ ws.length = i) ⟨[], upd_same, (Drew.refl d2.bag).put d2.bag nD, Labs.nil, rfl⟩ (fun i G3 hi h => ?_) (fun G3 h => ?_)
    · obtain ⟨ws, eD, d3, lab, hl⟩ := h
      refine ⟨rfl, .ref b, rfl, b, bc, rfl, d3.bag, fun G4 x d4 lx => ?_⟩
      refine ⟨ws.map V.str, d4.keep D _ apart.1 eD, small1000 (by rw [List.length_map]; omega), ws ++ [x], ?_, (d3.trans d4).put d2.bag nD, lab.append (Labs.cons lx Labs.nil), by rw [List.length_append, hl]; rfl⟩
      rw [upd_same, List.map_append]
      rfl
    · obtain ⟨ws, eD, d3, lab, hl⟩ := h
      exact ⟨D, ws, rfl, (dG.trans d2).trans d3, d3.keep e _ neb e2, apart.1, eD, lab, by omega⟩
  rintro _ G2 ⟨wd, ws, rfl, d2, e2, nwb, ew, lws, w3⟩
  -- the first seven
  refine ⟨fun σ' G3 => ∃ (sl : Addr) (vs : List V), σ' = [some (.ref b), some (.ref e), some (.ref wd), some (.ref sl), none] ∧ Drew b bc H G3 ∧ G3 sl = some (.lst vs) ∧ vs.length = 7 ∧ ∀ v ∈ vs, ∃ d, Some_ K C G3 v d, ?_, ?_⟩
  · refine ⟨.ref e, rfl, .ref b, rfl, b, bc, 11, rfl, d2.bag, by decide, by decide, fun G3 r d3 hr3 => ?_⟩
    have hr : r < es.length := by omega
    obtain ⟨i1, ei, si⟩ := ints_ es[r] (List.getElem_mem _)
    refine ⟨e, es, _, es[r], rfl, rfl, .inl (.inl (d3.keep e _ neb e2)), atI_nat (List.getElem?_eq_getElem hr), .ref b, rfl, b, bc, rfl, d3.bag, fun G4 x d4 lx => ?_⟩
    have ew4 := d4.keep wd _ nwb (d3.keep wd _ nwb ew)
    refine ⟨.ref wd, rfl, wd, _, rfl, .inl ⟨.inl (.inl ew4), fun t1 n1 => ?_⟩⟩
    have s5 := same_put (o := .tup (ws.map V.str)) n1
    refine ⟨.ref wd, rfl, .ref wd, rfl, by show 1 ≤ sizeLine; decide, fun l3 n3 => ?_⟩
    have s6 := s5.trans (same_put (o := .lst [.int 3]) n3)
    refine ⟨wd, l3, _, _, rfl, rfl, s6 _ _ ew4, upd_same, by rw [List.length_map, sizeLine_eq]; show _ + 1 ≤ _; omega, fun l4 n4 => ?_⟩
    have s7 := s6.trans (same_put (o := .lst (ws.map V.str ++ [.int 3])) n4)
    refine ⟨l4, _, rfl, .inl ⟨.inl (.inl upd_same), fun t2 n2 => ?_⟩⟩
    have s8 := s7.trans (same_put (o := .tup (ws.map V.str ++ [.int 3])) n2)
    refine ⟨by show 1 ≤ sizeLine; decide, fun t3 n3' => ⟨t3, 200, [.str (Str.ofString "a")], rfl, rfl, .inl (.inl upd_same), by simp, by decide, by decide, by decide, fun t4 G9 s9 h4 => ?_⟩⟩
    have s10 := (s8.trans (same_put (o := .tup [.str (Str.ofString "a")]) n3')).trans s9
    refine ⟨by show 7 ≤ sizeLine; decide, fun sl nsl => ?_⟩
    have s11 := s10.trans (same_put (o := .lst [es[r], .str x, .ref t1, .ref wd, .ref t2, .ref t4, .bl true]) nsl)
    refine ⟨sl, _, rfl, ((d2.trans d3).trans d4).same s11, upd_same, rfl, ?_⟩
    intro v hv
    simp only [List.mem_cons, List.not_mem_nil, or_false] at hv
    have sE := same_put (o := .lst [es[r], .str x, .ref t1, .ref wd, .ref t2, .ref t4, .bl true]) nsl
    have from8 := ((same_put (o := .tup [.str (Str.ofString "a")]) n3').trans s9).trans sE
    rcases hv with rfl | rfl | rfl | rfl | rfl | rfl | rfl
    · rw [ei]
      exact ⟨_, some_int si⟩
    · exact ⟨_, some_str lx⟩
    · refine ⟨_, some_tup (ds := ws.map PyData.str) (same_seqT ((((same_put (o := .lst [.int 3]) n3).trans (same_put (o := .lst (ws.map V.str ++ [.int 3])) n4)).trans (same_put (o := .tup (ws.map V.str ++ [.int 3])) n2)).trans from8) (.inl (.inl upd_same))) (dp_strs ws) (good_str lws) (by rw [List.length_map]; omega) (no4_strs _) (few_strs lws)⟩
    · refine ⟨_, some_flat (d := .list (ws.map PyData.str)) (.lst (.inl (.inl (s11 _ _ ew4))) (dp_strs ws)) ((Good.list (good_str lws) (m := 3) (by rw [List.length_map]; exact w3)).mono (by decide) (by decide)) ?_ (fun y z => by cases z) (fun ds z => by cases z)⟩
      show (decide ((ws.map PyData.str).length ≠ 4) && no4s (ws.map PyData.str)) = true
      rw [no4_strs, List.length_map, decide_eq_true (show ws.length ≠ 4 by omega)]
      rfl
    · refine ⟨_, some_tup (ds := ws.map PyData.str ++ [.int 3]) (same_seqT from8 (.inl (.inl upd_same))) (dpa_append (dp_strs ws) (.cons (.int 3) .nil)) ?_ (by rw [List.length_append, List.length_map]; show _ + 1 ≤ _; omega) ?_ ?_⟩
      · intro d hd
        rcases List.mem_append.mp hd with hd | hd
        · exact good_str lws d hd
        · rw [List.mem_singleton.mp hd]
          exact ⟨rfl, by decide +kernel, by decide, by decide +kernel⟩
      · exact no4_snoc ws
      · intro y hy
        rcases List.mem_append.mp hy with hy | hy
        · exact few_strs lws y hy
        · cases List.mem_singleton.mp hy
    · have e200 : (List.replicate (200 : Int).toNat [V.str (Str.ofString "a")]).flatten = (List.replicate 200 (Str.ofString "a")).map V.str := by
        rw [List.map_replicate]
        show (List.replicate 200 [V.str (Str.ofString "a")]).flatten = _
        exact List.flatten_replicate_singleton
      rw [e200] at h4
      have la : Labs (List.replicate 200 (Str.ofString "a")) := fun z hz => by
        rw [(List.mem_replicate.mp hz).2]
        exact ⟨by decide +kernel, by decide +kernel⟩
      exact ⟨_, some_tup (ds := (List.replicate 200 (Str.ofString "a")).map PyData.str) (same_seqT sE h4) (dp_strs _) (good_str la) (by rw [List.length_map, List.length_replicate]; exact Nat.le_refl _) (no4_strs _) (few_strs la)⟩
    · exact ⟨.bool true, some_flat (.bl true) ((Good.bool true).mono (by decide) (by decide)) rfl (fun y z => by cases z) (fun ds z => by cases z)⟩
  rintro _ G3 ⟨sl, vs, rfl, d3, esl, v7, ok⟩
  have z0 : 0 ≤ sizeLine := by decide
  have z1 : 1 ≤ sizeLine := by decide
  have z2 : 2 ≤ sizeLine := by decide
  refine ⟨.ref sl, rfl, z0, fun a1 m1 => ⟨z0, fun a2 m2 => fun a3 m3 => ⟨z1, fun a4 m4 => ⟨z1, fun a5 m5 => ⟨z2, fun a6 m6 => ⟨z0, fun a7 m7 => ⟨z1, fun a8 m8 => ⟨z1, fun a9 m9 => ⟨z1, fun a10 m10 => ⟨z2, fun a11 m11 => ⟨by show 9 ≤ sizeLine; decide, fun l ml => ?_⟩⟩⟩⟩⟩⟩⟩⟩⟩⟩⟩
  have t1 := same_put (o := .tup []) m1
  have t2 := same_put (o := .lst []) m2
  have t3 := same_put (o := .dK []) m3
  have t4 := same_put (o := .tup [.str (Str.ofString "a")]) m4
  have t5 := same_put (o := .tup [.ref a4]) m5
  have t6 := same_put (o := .tup [.str (Str.ofString "a"), .non]) m6
  have t7 := same_put (o := .lst []) m7
  have t8 := same_put (o := .lst [.ref a7]) m8
  have t9 := same_put (o := .lst [.ref a8]) m9
  have t10 := same_put (o := .lst [.ref a9]) m10
  have t11 := same_put (o := .tup [.str (Str.ofString "ab"), .str (Str.ofString "")]) m11
  have tl := same_put (o := .lst [.bl false, .non, .ref a1, .ref a2, .ref a3, .ref a5, .ref a6, .ref a10, .ref a11]) ml
  have all_ := ((((((((((t1.trans t2).trans t3).trans t4).trans t5).trans t6).trans t7).trans t8).trans t9).trans t10).trans t11).trans tl
  refine ⟨sl, l, vs, _, rfl, rfl, all_ _ _ esl, upd_same, by rw [v7, sizeLine_eq]; show 7 + 9 ≤ _; decide, fun p mp => ?_⟩
  have tp := same_put (o := .lst (vs ++ [.bl false, .non, .ref a1, .ref a2, .ref a3, .ref a5, .ref a6, .ref a10, .ref a11])) mp
  have u11 := tl.trans tp
  have u10 := t11.trans u11
  have u9 := t10.trans u10
  have u8 := t9.trans u9
  have u7 := t8.trans u8
  have u6 := t7.trans u7
  have u5 := t6.trans u6
  have u4 := t5.trans u5
  have u3 := t4.trans u4
  have u2 := t3.trans u3
  have u1 := t2.trans u2
  have tE := all_.trans tp
  have pb := (d3.same all_).bag.apart mp
  generalize hE : upd _ p (.lst (vs ++ [V.bl false, .non, .ref a1, .ref a2, .ref a3, .ref a5, .ref a6, .ref a10, .ref a11])) = GE at *
  have ep : GE p = some (.lst (vs ++ [V.bl false, .non, .ref a1, .ref a2, .ref a3, .ref a5, .ref a6, .ref a10, .ref a11])) := by
    rw [← hE]
    exact upd_same
  have dE := d3.same tE
  refine ⟨.ref b, rfl, b, bc, 16, rfl, dE.bag, by decide, by decide, fun G5 r d5 hr5 => ?_⟩
  have la : Lab (Str.ofString "a") := ⟨by decide +kernel, by decide +kernel⟩
  have lab' : Lab (Str.ofString "ab") := ⟨by decide +kernel, by decide +kernel⟩
  have le : Lab (Str.ofString "") := ⟨by decide +kernel, by decide +kernel⟩
  have len : (vs ++ [V.bl false, .non, .ref a1, .ref a2, .ref a3, .ref a5, .ref a6, .ref a10, .ref a11]).length = 16 := by
    rw [List.length_append, v7]
    rfl
  have hr : r < (vs ++ [V.bl false, .non, .ref a1, .ref a2, .ref a3, .ref a5, .ref a6, .ref a10, .ref a11]).length := by omega
  have every : ∀ v ∈ vs ++ [V.bl false, .non, .ref a1, .ref a2, .ref a3, .ref a5, .ref a6, .ref a10, .ref a11], ∃ d, Some_ K C GE v d := by
    intro v hv
    rcases List.mem_append.mp hv with hv | hv
    · obtain ⟨d, hd⟩ := ok v hv
      exact ⟨d, hd.same tE⟩
    · simp only [List.mem_cons, List.not_mem_nil, or_false] at hv
      rcases hv with rfl | rfl | rfl | rfl | rfl | rfl | rfl | rfl | rfl
      · exact ⟨.bool false, some_flat (.bl false) ((Good.bool false).mono (by decide) (by decide)) rfl (fun y z => by cases z) (fun ds z => by cases z)⟩
      · exact ⟨.none, some_flat .non (Good.none.mono (by decide) (by decide)) rfl (fun y z => by cases z) (fun ds z => by cases z)⟩
      · exact ⟨_, some_tup (ds := []) (.inl (.inl (u1 _ _ upd_same))) .nil (fun d hd => absurd hd List.not_mem_nil) (by decide) rfl (fun y hy => absurd hy List.not_mem_nil)⟩
      · exact ⟨.list [], some_flat (.lst (.inl (.inl (u2 _ _ upd_same))) .nil) ((Good.list (ds := []) (k := 0) (n := 0) (m := 0) (fun _ h => absurd h List.not_mem_nil) (Nat.le_refl _)).mono (by decide) (by decide)) rfl (fun y z => by cases z) (fun ds z => by cases z)⟩
      · exact ⟨.dict [], .emp (u3 _ _ upd_same), fit_emp, rfl⟩
      · have in4 : Nm K GE a4 [Str.ofString "a"] := .inl (.inl (u4 _ _ upd_same))
        refine ⟨_, some_tup (ds := [nameD [Str.ofString "a"]]) (.inl (.inl (u5 _ _ upd_same))) (.cons (nm_dp in4) .nil) (fun d hd => ?_) (by decide) rfl (fun y hy => by cases List.mem_singleton.mp hy)⟩
        rw [List.mem_singleton.mp hd]
        have g : ∀ d ∈ [PyData.str (Str.ofString "a")], Good d 0 202 := fun d hd => by
          rw [List.mem_singleton.mp hd]
          exact Good.lab la
        exact (Good.tuple g (m := 1) (Nat.le_refl _)).mono (by decide) (by decide)
      · refine ⟨_, some_tup (ds := [.str (Str.ofString "a"), .none]) (.inl (.inl (u6 _ _ upd_same))) (.cons (.str _) (.cons .non .nil)) (fun d hd => ?_) (by decide) rfl (fun y hy => ?_)⟩
        · simp only [List.mem_cons, List.not_mem_nil, or_false] at hd
          rcases hd with rfl | rfl
          · exact (Good.lab la).mono (by decide) (by decide)
          · exact Good.none.mono (by decide) (by decide)
        · simp only [List.mem_cons, List.not_mem_nil, or_false] at hy
          rcases hy with hy | hy
          · cases hy
            decide +kernel
          · cases hy
      · have g0 : Good (.list []) 1 2 := (Good.list (ds := []) (k := 0) (n := 0) (m := 0) (fun _ h => absurd h List.not_mem_nil) (Nat.le_refl _)).mono (by decide) (by decide)
        have g1 : Good (.list [.list []]) 2 6 := (Good.list (m := 1) (fun d hd => by rw [List.mem_singleton.mp hd]; exact g0) (Nat.le_refl _)).mono (by decide) (by decide)
        have g2 : Good (.list [.list [.list []]]) 3 10 := (Good.list (m := 1) (fun d hd => by rw [List.mem_singleton.mp hd]; exact g1) (Nat.le_refl _)).mono (by decide) (by decide)
        have g3 : Good (.list [.list [.list [.list []]]]) 4 14 := (Good.list (m := 1) (fun d hd => by rw [List.mem_singleton.mp hd]; exact g2) (Nat.le_refl _)).mono (by decide) (by decide)
        have h7 : Dp K GE (.ref a7) (.list []) := .lst (.inl (.inl (u7 _ _ upd_same))) .nil
        have h8 : Dp K GE (.ref a8) (.list [.list []]) := .lst (.inl (.inl (u8 _ _ upd_same))) (.cons h7 .nil)
        have h9 : Dp K GE (.ref a9) (.list [.list [.list []]]) := .lst (.inl (.inl (u9 _ _ upd_same))) (.cons h8 .nil)
        have h10 : Dp K GE (.ref a10) (.list [.list [.list [.list []]]]) := .lst (.inl (.inl (u10 _ _ upd_same))) (.cons h9 .nil)
        exact ⟨_, some_flat h10 (g3.mono (by decide) (by decide)) rfl (fun y z => by cases z) (fun ds z => by cases z)⟩
      · refine ⟨_, some_tup (ds := [.str (Str.ofString "ab"), .str (Str.ofString "")]) (.inl (.inl (u11 _ _ upd_same))) (.cons (.str _) (.cons (.str _) .nil)) (fun d hd => ?_) (by decide) rfl (fun y hy => ?_)⟩
        · simp only [List.mem_cons, List.not_mem_nil, or_false] at hd
          rcases hd with rfl | rfl
          · exact (Good.lab lab').mono (by decide) (by decide)
          · exact (Good.lab le).mono (by decide) (by decide)
        · simp only [List.mem_cons, List.not_mem_nil, or_false] at hy
          rcases hy with hy | hy
          · cases hy
            decide +kernel
          · cases hy
            decide +kernel
  obtain ⟨d, hd⟩ := every _ (List.getElem_mem hr)
  exact ⟨p, _, _, _, rfl, rfl, .inl (.inl (d5.keep p _ pb.1 ep)), atI_nat (List.getElem?_eq_getElem hr), q G5 _ d (dE.trans d5) (hd.drew dE.bag d5)⟩

theorem scValues : FnScope ["thing", "name", "value"] ["thing"] (defScope s_are_values) := ⟨rfl, rfl, rfl, by decide +kernel, rfl, by decide +kernel, by decide +kernel⟩
theorem ok_values {f : Addr} {fd : FuncData} {tk : Tok} (F : Fun K "are_values" "are_values" s_are_values f fd)
    (mis : mg "isinstance" = none) (md : mg "dict" = none) (ml : mg "len" = none) (ma : mg "all" = none) (mM : mg "MOST_NAMES" = some (.int 30 tk)) : FnOk P w K mg base CX0 1 f fd ["thing"] spValues := by
  refine F.ok scValues (fun vs H Q E h => ?_) (fun cdv A outer s H vs Q E hr h => ?_)
  · obtain ⟨a, rfl, _⟩ := h
    rfl
  obtain ⟨a, rfl, ea, q⟩ := h
  have nd := scValues.nd
  refine ⟨_, pss_cons (ps_if (PW.pt (pw_or (pt_not (pt_val (pe_callB call_isi (by rfl) mis (by decide +kernel) (pa_cons (pv 0) (pa_cons (pe_bltn (v := .ty "dict") (by rfl) md (by decide +kernel) rfl) pa_nil)))))
      (pw_or1 (pt_cmpR op_gt (pe_callB call_lenD (by rfl) ml PySem.boot_len (pa_cons (pv 0) pa_nil)) (pe_glob (v := .int 30) rfl mM ⟨_, rfl⟩) (nomark _))))) (pss_one (ps_ret pe_bl)) pss_nil)
    (pss_one (ps_ret (pe_callB (cr_all rfl) (by rfl) ma (by decide +kernel) (pa_cons (pe_lock (pe_lc (own := [("name", 1), ("value", 2)]) (g := gTup K 2 (gCons (gName 1) (gCons (gName 2) gNil))) (tt := tYes) (te := tNeverE) rfl nd (pi_items (pv 0))
      (blkOk_by (N := ["thing", "name", "value"]) (sc := defScope s_are_values) (by decide +kernel)) (fun _ _ _ _ _ => pg_tup rfl (pgs_cons (pg_name (i := 1) nd rfl (Or.inl rfl)) (pgs_cons (pg_name (i := 2) nd rfl (Or.inl rfl)) pgs_nil))) (fun _ _ _ _ _ => pts_nil)
      (fun _ _ _ _ _ => pe_never))) pa_nil)))), ?_⟩
  refine ⟨.ref a, rfl, .ref a, .ty "dict", _, _, _, rfl, .ty "dict", .base (.dK ea), kit_ty (show kitB "dict" "dict" = some true by decide +kernel), true, rfl, iteF ?_⟩
  refine ⟨.ref a, rfl, a, [], rfl, ea, _, _, rfl, rfl, _, rfl, ?_⟩
  refine iteF ?_
  refine ⟨a, .dK [], ea, trivial, fun od => ?_⟩
  refine ⟨.ref a, rfl, a, od, [], rfl, upd_same, fun D nD => ?_⟩
  have naD : D ≠ a := fun z => by rw [z, upd_same] at nD; cases nD
  refine lc_it (walk_items (d := a) (o := od) (kvs := [])) (fun _ G => G a = some (.frz od (.dK [])) ∧ G D = some (.lst []) ∧ Same (upd H a (.frz od (.dK []))) G) ⟨by rw [upd_ne naD.symm, upd_same], upd_same, same_put nD⟩ (fun _ _ _ h => h.1) (fun i x G G' hi => absurd hi (Nat.not_lt_zero _)) (fun G h => ?_)
  obtain ⟨ga, gD, sG⟩ := h
  refine ⟨ga, D, [], rfl, .inl (.inl (by rw [upd_ne naD]; exact gD)), q _ fun b o e => ?_⟩
  by_cases eb : b = a
  · rw [eb, ea] at e
    rw [eb, upd_same]
    exact e
  · rw [upd_ne eb]
    refine sG b o ?_
    rw [upd_ne eb]
    exact e
theorem scZoneInit : FnScope ["self", "values", "name"] ["self", "values"] (defScope s_Zone_init) := ⟨rfl, rfl, rfl, by decide +kernel, rfl, by decide +kernel, by decide +kernel⟩
theorem ok_zone_init {f C fv : Addr} {fd fdv : FuncData} (F : Fun K "__init__" "Zone.__init__" s_Zone_init f fd) (cl : Cls K C) (na : NoAttr K C "_values")
    (DV : Df K mg "are_values" s_are_values ["thing"] fv fdv) (GV : FnOk P w K mg base CX0 1 fv fdv ["thing"] spValues) : FnOk P w K mg base CX0 2 f fd ["self", "values"] (spZone0 C) := by
  refine F.ok scZoneInit (fun vs H Q E h => ?_) (fun cdv A outer s H vs Q E hr h => ?_)
  · obtain ⟨p, dx, a, rfl, _⟩ := h
    rfl
  obtain ⟨p, dx, a, rfl, hp, ea, q⟩ := h
  have nd := scZoneInit.nd
  refine ⟨_, pss_cons (ps_if (pt_not (pt_val (pcall DV GV hr (pa_cons (pv 1) pa_nil)))) pss_never pss_nil)
    (pss_one (ps_fld (pv 0) (pe_lock (pe_dc (own := [("name", 2)]) (g := gName 2) (tt := tYes) (tk := tNeverE) (tv := tNeverE) rfl nd (pi_keys (pv 1))
      (blkOk_by (N := ["self", "values", "name"]) (sc := defScope s_Zone_init) (by decide +kernel)) (fun _ _ _ _ _ => pg_name (i := 2) nd rfl (Or.inl rfl)) (fun _ _ _ _ _ => pts_nil)
      (fun _ _ _ _ _ => pe_never) (fun _ _ _ _ _ => pe_never))) rfl)), ?_⟩
  refine ⟨.ref a, rfl, a, rfl, ea, fun H1 s1 => ⟨true, rfl, iteF ?_⟩⟩
  have npa : p ≠ a := ne_of hp ea (by intro z; cases z)
  have ea1 := s1 _ _ ea
  have hp1 := s1 _ _ hp
  refine ⟨a, .dK [], ea1, trivial, fun od => ?_⟩
  refine ⟨.ref a, rfl, a, od, rfl, .inl ⟨[], upd_same, fun D nD => ?_⟩⟩
  have naD : D ≠ a := fun z => by rw [z, upd_same] at nD; cases nD
  have nD1 : H1 D = none := by rw [upd_ne naD] at nD; exact nD
  have npD : p ≠ D := ne_of_none hp1 nD1
  refine ⟨fun i m G => i = 0 ∧ G = upd (upd H1 a (.frz od (.dK []))) D (.dK []), ⟨0, rfl, rfl⟩, ?_⟩
  rintro i m G ⟨rfl, rfl⟩
  refine .inl ⟨⟨by rw [upd_ne naD.symm, upd_same], Nat.le_refl _⟩, by rw [upd_ne naD.symm, upd_same], ?_⟩
  have keep : ∀ b o, H b = some o → b ≠ p → upd (upd (upd (upd H1 a (.frz od (.dK []))) D (.dK [])) a (.dK [])) p (.ins C dx (putF "_values" (.ref D) [])) b = some o := by
    intro b o e nb
    rw [upd_ne nb]
    by_cases eb : b = a
    · rw [eb, ea] at e
      rw [eb, upd_same]
      exact e
    · rw [upd_ne eb, upd_ne (ne_of_none (s1 _ _ e) nD1), upd_ne eb]
      exact s1 _ _ e
  refine ⟨_, rfl, p, C, dx, [], rfl, (by rw [upd_ne npa, upd_ne npD, upd_ne npa]; exact hp1), cl, na, by show 0 < 1000; decide, ?_⟩
  exact q _ _ upd_same keep

theorem scLaw : FnScope ["_law_script", "_law_bag_here", "_law_turn", "_law_thing_here", "_law_many", "_law_shown", "_law_due_here", "_law_again"] ["_law_script"] (defScope s_law) := ⟨rfl, rfl, rfl, by decide +kernel, rfl, by decide +kernel, by decide +kernel⟩
def spLaw (K : PySem.W.Frag) : Sp := fun vs H Q _ => ∃ (a : Addr) (ns : List Int), vs = [.ref a] ∧ SqL K H a (ns.map V.int) ∧ ns.length ≤ 63 ∧ ∀ H', Q (.bl true) H'
theorem ok_law {f C fbag ft fal fth fdu fto fz : Addr} {fd fdbag fdt fdal fdth fddu fdto fdz : FuncData} (F : Fun K "law" "law" s_law f fd)
    (DBag : Df K mg "_law_bag" s_law_bag ["_law_script"] fbag fdbag) (GBag : FnOk P w K mg base CX0 1 fbag fdbag ["_law_script"] (spBag K))
    (DT : Df K mg "_law_take" s_law_take ["_law_bag_here", "_law_many"] ft fdt) (GT : FnOk P w K mg base CX0 1 ft fdt ["_law_bag_here", "_law_many"] spTake)
    (DA : Df K mg "_law_alike" s_law_alike ["_law_found", "_law_right"] fal fdal) (GA : FnQ P w K mg base 1 fal fdal ["_law_found", "_law_right"] (spAlike K))
    (DTh : Df K mg "_law_thing" s_law_thing ["_law_bag_here"] fth fdth) (GTh : FnOk P w K mg base CX0 3 fth fdth ["_law_bag_here"] (spThing K C))
    (DD : Df K mg "_law_due" s_law_due ["_law_many", "_law_thing_here"] fdu fddu) (GD : FnOk P w K mg base CX0 2 fdu fddu ["_law_many", "_law_thing_here"] (spDue K C))
    (DO : Df K mg "_law_told" s_law_told ["_law_many", "_law_thing_here"] fto fdto) (GO : FnOk P w K mg base CX0 4 fto fdto ["_law_many", "_law_thing_here"] (spDue K C))
    (M : Mk K C fz) (bZ : Binds K fdz ["self", "values"] []) (GZ : FnOk P w K mg base CX0 2 fz fdz ["self", "values"] (spZone0 C)) (mZ : mg "Zone" = some (.ref C))
    (mr : mg "range" = none) (mp : mg "repr" = none) : FnQ P w K mg base 5 f fd ["_law_script"] (spLaw K) := by
  refine okQ F scLaw (fun vs H Q h => ?_) (fun cdv A outer s H vs Q quiet hr h => ?_)
  · obtain ⟨a, ns, rfl, _⟩ := h
    rfl
  obtain ⟨a, ns, rfl, hS, hlen, q⟩ := h
  have nd := scLaw.nd
  have un := hr.un
  refine ⟨_, pss_cons (ps_set (i := 1) nd rfl (.inl rfl) (pcall DBag GBag (hr.mono (by decide)) (pa_cons (pv 0) pa_nil)))
    (pss_cons (ps_for PassesOwn.never rfl (pi_range1 (by rfl) mr (pa_cons pe_int pa_nil)) (pg_name (i := 2) nd rfl (.inl rfl))
      (C8.pss_cut (ps_par (i := 3) (j := 4) (by rfl) nd rfl rfl (by decide) rfl rfl (pa_cons (pcall DTh GTh (hr.mono (by decide)) (pa_cons (pv 1) pa_nil))
          (pa_cons (pe_ix ix_list (pe_lst (pa_cons pe_int (pa_cons pe_int (pa_cons pe_int (pa_cons (pe_op op_pow pe_int pe_int) (pa_cons (pcall DT GT (hr.mono (by decide)) (pa_cons (pv 1) (pa_cons pe_int pa_nil))) pa_nil)))))) (pcall DT GT (hr.mono (by decide)) (pa_cons (pv 1) (pa_cons pe_int pa_nil))) (fun _ _ => rfl)) pa_nil)) (by rfl))
      (C8.pss_cut (ps_par (i := 5) (j := 6) (by rfl) nd rfl rfl (by decide) rfl rfl (pa_cons (pe_callB (cr_reprA (C := C) quiet (by show A.units + 3 + 70 < cLine; have : A.units + 3 + 16 * 4 + 200 < cLine := un; omega)) (by rfl) mp (by decide +kernel) (pa_cons (pv 3) pa_nil))
          (pa_cons (pcall DD GD (hr.mono (by decide)) (pa_cons (pv 4) (pa_cons (pv 3) pa_nil))) pa_nil)) (by rfl))
      (pss_one (ps_for PassesOwn.never rfl (pi_range1 (by rfl) mr (pa_cons pe_int pa_nil)) (pg_name (i := 7) nd rfl (.inl rfl))
        (pss_one (ps_if (PW.pt (pw_or (pt_not (pt_val (qcall DA GA quiet (hr.mono (by decide)) (pa_cons (pcall DO GO hr (pa_cons (pv 4) (pa_cons (pv 3) pa_nil))) (pa_cons (pv 6) pa_nil)))))
          (pw_or1 (pt_cmpR op_ne (pe_callB (cr_reprA (C := C) quiet (by show A.units + 3 + 70 < cLine; have : A.units + 3 + 16 * 4 + 200 < cLine := un; omega)) (by rfl) mp (by decide +kernel) (pa_cons (pv 3) pa_nil)) (pv 5) (nomark _))))) (pss_one (ps_ret pe_bl)) pss_nil)))))))
    (pss_one (ps_ret (pe_cmpR (op_eqD hr.units) (pcall DO GO hr (pa_cons pe_int (pa_cons (pe_make M GZ (hr.mono (by decide)) (by rfl) mZ bZ .nil pass0 (pa_cons pe_dnewK pa_nil)) pa_nil))) (pe_op op_rep (pe_lst (pa_cons pe_bl pa_nil)) pe_int) (nomark _))))), ?_⟩
  refine ⟨.ref a, rfl, a, ns, rfl, hS, hlen, fun H1 b bc s1 fb fbc bag => ?_⟩
  refine ⟨40, rfl, by decide, by decide, ?_⟩
  refine for_range (lo := 0) (n := 40) (fun _ σ' G' => ∃ y2 y3 y4 y5 y6 y7, σ' = [some (.ref a), some (.ref b), y2, y3, y4, y5, y6, y7] ∧ Drew b bc H1 G')
    ⟨none, none, none, none, none, none, rfl, Drew.refl bag⟩ (fun i σ' G' _ h => ?_) (fun σ' G' h => ?_)
  · obtain ⟨y2, y3, y4, y5, y6, y7, rfl, dG⟩ := h
    refine ⟨fun σ' G2 => ∃ x d m, σ' = [some (.ref a), some (.ref b), some (.int (0 + (i : Nat))), some x, some (.int m), y5, y6, y7] ∧ Drew b bc H1 G2 ∧ Some_ K C G2 x d, ?_, ?_⟩
    · refine ⟨.ref b, rfl, b, bc, rfl, dG.bag, fun G2 x d d2 sx => ?_⟩
      refine ⟨_, _, rfl, rfl, ⟨by decide, by decide, by decide⟩, .ref b, rfl, b, bc, 2000, rfl, d2.bag, by decide, by decide, fun G3 r d3 hr3 => ?_⟩
      refine ⟨by show 5 ≤ sizeLine; decide, fun l nl => ?_⟩
      have s4 := same_put (o := .lst [.int 0, .int 1, .int 1000, .int (10 ^ 39), .int r]) nl
      have d4 := d3.same s4
      refine ⟨.ref b, rfl, b, bc, 5, rfl, d4.bag, by decide, by decide, fun G5 r5 d5 hr5 => ?_⟩
      have nlb := (d3.bag.apart nl).1
      have el : SqL K G5 l [.int 0, .int 1, .int 1000, .int (10 ^ 39), .int r] := drew_seq d5 nlb (.inl (.inl upd_same))
      obtain ⟨m, em⟩ : ∃ m : Int, ([V.int 0, V.int 1, V.int 1000, V.int (10 ^ 39), V.int r] : List V)[r5]? = some (.int m) := by
        have : r5 = 0 ∨ r5 = 1 ∨ r5 = 2 ∨ r5 = 3 ∨ r5 = 4 := by omega
        rcases this with rfl | rfl | rfl | rfl | rfl <;> exact ⟨_, rfl⟩
      refine ⟨l, _, _, _, rfl, rfl, el, atI_nat em, ?_⟩
      exact ⟨_, _, rfl, x, d, m, rfl, dG.trans (d2.trans (d4.trans d5)), sx.drew d2.bag (d4.trans d5)⟩
    rintro _ G2 ⟨x, d, m, rfl, d2, sx⟩
    refine ⟨fun σ' G3 => ∃ p, σ' = [some (.ref a), some (.ref b), some (.int (0 + (i : Nat))), some x, some (.int m), some (.str d.shown), some (.ref p), y7] ∧ Same G2 G3 ∧ G3 p = some (.lst ((dueL m (.d d)).map V.bl)), ?_, ?_⟩
    · refine ⟨x, rfl, x, d, rfl, sx.any, sx.fit, _, rfl, x, rfl, x, .d d, m, rfl, sx.any, sx.fit, fun G3 p s3 ep => ?_⟩
      exact ⟨_, _, rfl, p, rfl, s3, ep⟩
    rintro _ G3 ⟨p, rfl, s3, ep⟩
    refine ⟨2, rfl, by decide, by decide, ?_⟩
    refine for_range (lo := 0) (n := 2) (fun _ σ' G' => ∃ y7, σ' = [some (.ref a), some (.ref b), some (.int (0 + (i : Nat))), some x, some (.int m), some (.str d.shown), some (.ref p), y7] ∧ Same G3 G')
      ⟨y7, rfl, Same.refl _⟩ (fun j σ' G4 _ h => ?_) (fun σ' G4 h => ?_)
    · obtain ⟨y7, rfl, s4⟩ := h
      have sx4 := sx.same (s3.trans s4)
      refine ⟨.int m, rfl, x, rfl, x, .d d, m, rfl, sx4.any, sx4.fit, fun G5 p5 s5 ep5 => ?_⟩
      have ep6 := s5 _ _ (s4 _ _ ep)
      have bools : ∀ e ∈ (dueL m (.d d)).map PyData.bool, Good e 0 5 := fun e he => by
        obtain ⟨z, _, rfl⟩ := List.mem_map.mp he
        exact Good.bool z
      have g := Good.list (m := 7) bools (by rw [List.length_map]; exact Nat.le_refl _)
      refine ⟨.ref p, rfl, .ref p5, .ref p, .list ((dueL m (.d d)).map PyData.bool), 1, _, rfl, .lst (.inl (.inl ep5)) (dp_bools _), .lst (.inl (.inl ep6)) (dp_bools _), g, by decide, by decide, true, rfl, iteF ?_⟩
      refine ⟨x, rfl, x, d, rfl, (sx4.same s5).any, sx4.fit, _, rfl, rfl, _, rfl, ?_⟩
      refine iteNS rfl ?_
      exact ⟨_, rfl, s4.trans s5⟩
    · obtain ⟨y7, rfl, s4⟩ := h
      exact ⟨_, _, _, _, _, _, rfl, d2.same (s3.trans s4)⟩
  · obtain ⟨y2, y3, y4, y5, y6, y7, rfl, dG⟩ := h
    intro d nd0 x dx nx ndx ne
    have sx : Same (upd G' d (.dK [])) (upd (upd (upd G' d (.dK [])) dx (.own x)) x (.ins C dx [])) := fun c o e => by
      rw [upd_ne (ne_of_none e nx), upd_ne (ne_of_none e ndx)]
      exact e
    refine ⟨x, dx, d, rfl, upd_same, sx _ _ upd_same, fun H2 fs hx _ => ⟨rfl, ?_⟩⟩
    refine ⟨.ref x, .obj, 5, rfl, .obj hx, fit_obj, fun H3 p s3 ep => ?_⟩
    refine ⟨by show 1 ≤ sizeLine; decide, fun l nl => ⟨l, 7, [.bl false], rfl, rfl, upd_same, by decide, by decide, by decide, fun p2 np2 => ?_⟩⟩
    have s5 := (same_put (o := .lst [.bl false]) nl).trans (same_put (o := .lst (List.replicate (7 : Int).toNat [V.bl false]).flatten) np2)
    refine ⟨.list ((dueL 5 .obj).map PyData.bool), .list ((dueL 5 .obj).map PyData.bool), .lst (.inl (.inl (s5 _ _ ep))) (dp_bools _), .lst (.inl (.inl ?_)) (dp_bools _), by decide +kernel, by decide +kernel, ?_⟩
    · rw [upd_same]
      rfl
    · exact q _

end
theorem all_mk {l : PySem.W.OpenLaw} {w : World} {K : PySem.W.Frag} {h : Heap} {mg : Str → Option Value} {fa f0 f1 f2 f3 f4 f5 f6 f7 f8 f9 f10 f11 f12 f13 f14 f15 f16 C_Zone g0 : Addr} (X : K.In h) (G : h.Ns mainGlobals mg) (hfa : mg "law" = some (.ref fa))
    {mod0 man0 : Option Addr} {msl0 : Array (Option Value)} {moc0 mkV0 mdc0 mpm0 mcd0 mct0 : Value}
    {tk_LABEL_SIGNS tk_GREATEST_VALUE tk_GREATEST_MOMENT tk_MOST_NAMES : Tok}
    (gl_LABEL_SIGNS : PySem.W.nsIn K mainGlobals "LABEL_SIGNS" = some (some (.int 8 tk_LABEL_SIGNS)))
    (gl_GREATEST_VALUE : PySem.W.nsIn K mainGlobals "GREATEST_VALUE" = some (some (.int 999 tk_GREATEST_VALUE)))
    (gl_GREATEST_MOMENT : PySem.W.nsIn K mainGlobals "GREATEST_MOMENT" = some (some (.int 1000000 tk_GREATEST_MOMENT)))
    (gl_MOST_NAMES : PySem.W.nsIn K mainGlobals "MOST_NAMES" = some (some (.int 30 tk_MOST_NAMES)))
    (cC_Zone : PySem.W.nsIn K mainGlobals "Zone" = some (some (.ref C_Zone)))
    (ma0 : PySem.W.findIn K (.ref C_Zone) "__init__" = some (some (.ref g0))) (mi0 : PySem.W.isFn K (.ref g0) = true) (ml0 : K.lookup g0 = some ⟨moc0, mod0, .func (PySem.W.fnOf "__init__" "Zone.__init__" (defArgs s_Zone_init) (defBody s_Zone_init) (defScope s_Zone_init) .none mkV0 mdc0 mpm0 man0 mcd0 mct0), msl0⟩) (mc0 : PySem.W.codeIn K mcd0 "Zone.__init__" = true) (mk0 : PySem.W.keepIn K (.ref g0) = true)
    (pg_Zone : PySem.W.plainGet K C_Zone Str.empty = true) (hd_Zone : PySem.W.hasDictIn K C_Zone = true) (po_Zone : PySem.W.plainOver K C_Zone = true) (sa_Zone : PySem.W.findIn K (.ref C_Zone) "__setattr__" = some (some (.builtin "object.__setattr__"))) (mm_Zone : PySem.W.makesIn K C_Zone = true) (kc_Zone : PySem.W.keepIn K (.ref C_Zone) = true)
    (na_Zone_values : PySem.W.findIn K (.ref C_Zone) "_values" = some none)
    (oa_Zone : PySem.W.findIn K (.ref C_Zone) "__class__" = some (some (.builtin "object.__class__"))) (on_Zone : PySem.W.specialIn K (.builtin "object.__class__") "__get__" = some (some (.builtin "getset_descriptor.__get__"))) (ot_Zone : PySem.W.takesIn K (.builtin "object.__class__") = some true) (om_Zone : PySem.W.mroIn K C_Zone (.type "object") = some true)
    (oi_Zone : PySem.W.kitOne K (.ref C_Zone) (.type "int") = some false) (os_Zone : PySem.W.kitOne K (.ref C_Zone) (.type "str") = some false) (ou_Zone : PySem.W.kitOne K (.ref C_Zone) (.type "tuple") = some false)
    {od0 an0 od1 an1 od2 an2 od3 an3 od4 an4 od5 an5 od6 an6 od7 an7 od8 an8 od9 an9 od10 an10 od11 an11 od12 an12 od13 an13 od14 an14 od15 an15 od16 an16 : Option Addr} {sl0 sl1 sl2 sl3 sl4 sl5 sl6 sl7 sl8 sl9 sl10 sl11 sl12 sl13 sl14 sl15 sl16 : Array (Option Value)} {oc0 kV0 dc0 pm0 cd0 ct0 oc1 kV1 dc1 pm1 cd1 ct1 oc2 kV2 dc2 pm2 cd2 ct2 oc3 kV3 dc3 pm3 cd3 ct3 oc4 kV4 dc4 pm4 cd4 ct4 oc5 kV5 dc5 pm5 cd5 ct5 oc6 kV6 dc6 pm6 cd6 ct6 oc7 kV7 dc7 pm7 cd7 ct7 oc8 kV8 dc8 pm8 cd8 ct8 oc9 kV9 dc9 pm9 cd9 ct9 oc10 kV10 dc10 pm10 cd10 ct10 oc11 kV11 dc11 pm11 cd11 ct11 oc12 kV12 dc12 pm12 cd12 ct12 oc13 kV13 dc13 pm13 cd13 ct13 oc14 kV14 dc14 pm14 cd14 ct14 oc15 kV15 dc15 pm15 cd15 ct15 oc16 kV16 dc16 pm16 cd16 ct16 : Value}
    (a0 : PySem.W.nsIn K mainGlobals "is_integer" = some (some (.ref f0))) (l0 : K.lookup f0 = some ⟨oc0, od0, .func (PySem.W.fnOf "is_integer" "is_integer" (defArgs s_is_integer) (defBody s_is_integer) (defScope s_is_integer) .none kV0 dc0 pm0 an0 cd0 ct0), sl0⟩) (c0 : PySem.W.codeIn K cd0 "is_integer" = true) (k0 : PySem.W.keepIn K (.ref f0) = true)
    (a1 : PySem.W.nsIn K mainGlobals "is_label" = some (some (.ref f1))) (l1 : K.lookup f1 = some ⟨oc1, od1, .func (PySem.W.fnOf "is_label" "is_label" (defArgs s_is_label) (defBody s_is_label) (defScope s_is_label) .none kV1 dc1 pm1 an1 cd1 ct1), sl1⟩) (c1 : PySem.W.codeIn K cd1 "is_label" = true) (k1 : PySem.W.keepIn K (.ref f1) = true)
    (a2 : PySem.W.nsIn K mainGlobals "is_name" = some (some (.ref f2))) (l2 : K.lookup f2 = some ⟨oc2, od2, .func (PySem.W.fnOf "is_name" "is_name" (defArgs s_is_name) (defBody s_is_name) (defScope s_is_name) .none kV2 dc2 pm2 an2 cd2 ct2), sl2⟩) (c2 : PySem.W.codeIn K cd2 "is_name" = true) (k2 : PySem.W.keepIn K (.ref f2) = true)
    (a3 : PySem.W.nsIn K mainGlobals "is_full" = some (some (.ref f3))) (l3 : K.lookup f3 = some ⟨oc3, od3, .func (PySem.W.fnOf "is_full" "is_full" (defArgs s_is_full) (defBody s_is_full) (defScope s_is_full) .none kV3 dc3 pm3 an3 cd3 ct3), sl3⟩) (c3 : PySem.W.codeIn K cd3 "is_full" = true) (k3 : PySem.W.keepIn K (.ref f3) = true)
    (a4 : PySem.W.nsIn K mainGlobals "is_value" = some (some (.ref f4))) (l4 : K.lookup f4 = some ⟨oc4, od4, .func (PySem.W.fnOf "is_value" "is_value" (defArgs s_is_value) (defBody s_is_value) (defScope s_is_value) .none kV4 dc4 pm4 an4 cd4 ct4), sl4⟩) (c4 : PySem.W.codeIn K cd4 "is_value" = true) (k4 : PySem.W.keepIn K (.ref f4) = true)
    (a5 : PySem.W.nsIn K mainGlobals "is_moment" = some (some (.ref f5))) (l5 : K.lookup f5 = some ⟨oc5, od5, .func (PySem.W.fnOf "is_moment" "is_moment" (defArgs s_is_moment) (defBody s_is_moment) (defScope s_is_moment) .none kV5 dc5 pm5 an5 cd5 ct5), sl5⟩) (c5 : PySem.W.codeIn K cd5 "is_moment" = true) (k5 : PySem.W.keepIn K (.ref f5) = true)
    (a6 : PySem.W.nsIn K mainGlobals "is_number" = some (some (.ref f6))) (l6 : K.lookup f6 = some ⟨oc6, od6, .func (PySem.W.fnOf "is_number" "is_number" (defArgs s_is_number) (defBody s_is_number) (defScope s_is_number) .none kV6 dc6 pm6 an6 cd6 ct6), sl6⟩) (c6 : PySem.W.codeIn K cd6 "is_number" = true) (k6 : PySem.W.keepIn K (.ref f6) = true)
    (a7 : PySem.W.nsIn K mainGlobals "are_values" = some (some (.ref f7))) (l7 : K.lookup f7 = some ⟨oc7, od7, .func (PySem.W.fnOf "are_values" "are_values" (defArgs s_are_values) (defBody s_are_values) (defScope s_are_values) .none kV7 dc7 pm7 an7 cd7 ct7), sl7⟩) (c7 : PySem.W.codeIn K cd7 "are_values" = true) (k7 : PySem.W.keepIn K (.ref f7) = true)
    (a8 : PySem.W.nsIn K mainGlobals "_law_bag" = some (some (.ref f8))) (l8 : K.lookup f8 = some ⟨oc8, od8, .func (PySem.W.fnOf "_law_bag" "_law_bag" (defArgs s_law_bag) (defBody s_law_bag) (defScope s_law_bag) .none kV8 dc8 pm8 an8 cd8 ct8), sl8⟩) (c8 : PySem.W.codeIn K cd8 "_law_bag" = true) (k8 : PySem.W.keepIn K (.ref f8) = true)
    (a9 : PySem.W.nsIn K mainGlobals "_law_take" = some (some (.ref f9))) (l9 : K.lookup f9 = some ⟨oc9, od9, .func (PySem.W.fnOf "_law_take" "_law_take" (defArgs s_law_take) (defBody s_law_take) (defScope s_law_take) .none kV9 dc9 pm9 an9 cd9 ct9), sl9⟩) (c9 : PySem.W.codeIn K cd9 "_law_take" = true) (k9 : PySem.W.keepIn K (.ref f9) = true)
    (a10 : PySem.W.nsIn K mainGlobals "_law_alike" = some (some (.ref f10))) (l10 : K.lookup f10 = some ⟨oc10, od10, .func (PySem.W.fnOf "_law_alike" "_law_alike" (defArgs s_law_alike) (defBody s_law_alike) (defScope s_law_alike) .none kV10 dc10 pm10 an10 cd10 ct10), sl10⟩) (c10 : PySem.W.codeIn K cd10 "_law_alike" = true) (k10 : PySem.W.keepIn K (.ref f10) = true)
    (a11 : PySem.W.nsIn K mainGlobals "_law_text" = some (some (.ref f11))) (l11 : K.lookup f11 = some ⟨oc11, od11, .func (PySem.W.fnOf "_law_text" "_law_text" (defArgs s_law_text) (defBody s_law_text) (defScope s_law_text) .none kV11 dc11 pm11 an11 cd11 ct11), sl11⟩) (c11 : PySem.W.codeIn K cd11 "_law_text" = true) (k11 : PySem.W.keepIn K (.ref f11) = true)
    (a12 : PySem.W.nsIn K mainGlobals "_law_thing" = some (some (.ref f12))) (l12 : K.lookup f12 = some ⟨oc12, od12, .func (PySem.W.fnOf "_law_thing" "_law_thing" (defArgs s_law_thing) (defBody s_law_thing) (defScope s_law_thing) .none kV12 dc12 pm12 an12 cd12 ct12), sl12⟩) (c12 : PySem.W.codeIn K cd12 "_law_thing" = true) (k12 : PySem.W.keepIn K (.ref f12) = true)
    (a13 : PySem.W.nsIn K mainGlobals "_law_is_label" = some (some (.ref f13))) (l13 : K.lookup f13 = some ⟨oc13, od13, .func (PySem.W.fnOf "_law_is_label" "_law_is_label" (defArgs s_law_is_label) (defBody s_law_is_label) (defScope s_law_is_label) .none kV13 dc13 pm13 an13 cd13 ct13), sl13⟩) (c13 : PySem.W.codeIn K cd13 "_law_is_label" = true) (k13 : PySem.W.keepIn K (.ref f13) = true)
    (a14 : PySem.W.nsIn K mainGlobals "_law_due" = some (some (.ref f14))) (l14 : K.lookup f14 = some ⟨oc14, od14, .func (PySem.W.fnOf "_law_due" "_law_due" (defArgs s_law_due) (defBody s_law_due) (defScope s_law_due) .none kV14 dc14 pm14 an14 cd14 ct14), sl14⟩) (c14 : PySem.W.codeIn K cd14 "_law_due" = true) (k14 : PySem.W.keepIn K (.ref f14) = true)
    (a15 : PySem.W.nsIn K mainGlobals "_law_told" = some (some (.ref f15))) (l15 : K.lookup f15 = some ⟨oc15, od15, .func (PySem.W.fnOf "_law_told" "_law_told" (defArgs s_law_told) (defBody s_law_told) (defScope s_law_told) .none kV15 dc15 pm15 an15 cd15 ct15), sl15⟩) (c15 : PySem.W.codeIn K cd15 "_law_told" = true) (k15 : PySem.W.keepIn K (.ref f15) = true)
    (a16 : PySem.W.nsIn K mainGlobals "law" = some (some (.ref f16))) (l16 : K.lookup f16 = some ⟨oc16, od16, .func (PySem.W.fnOf "law" "law" (defArgs s_law) (defBody s_law) (defScope s_law) .none kV16 dc16 pm16 an16 cd16 ct16), sl16⟩) (c16 : PySem.W.codeIn K cd16 "law" = true) (k16 : PySem.W.keepIn K (.ref f16) = true)
    (z_abs : PySem.W.nsIn K mainGlobals "abs" = some none)
    (z_len : PySem.W.nsIn K mainGlobals "len" = some none)
    (z_int : PySem.W.nsIn K mainGlobals "int" = some none)
    (z_repr : PySem.W.nsIn K mainGlobals "repr" = some none)
    (z_range : PySem.W.nsIn K mainGlobals "range" = some none)
    (z_tuple : PySem.W.nsIn K mainGlobals "tuple" = some none)
    (z_isinstance : PySem.W.nsIn K mainGlobals "isinstance" = some none)
    (z_bool : PySem.W.nsIn K mainGlobals "bool" = some none)
    (z_str : PySem.W.nsIn K mainGlobals "str" = some none)
    (z_all : PySem.W.nsIn K mainGlobals "all" = some none)
    (z_dict : PySem.W.nsIn K mainGlobals "dict" = some none) :
    ∃ fd : FuncData, (∀ (s : Shared) (v : Value), BindsTo s fd ⟨[v], []⟩ [("_law_script", v)]) ∧ ∀ base : Heap, K.In base → base.Ns mainGlobals mg → FnQ l.prog w K mg base 5 fa fd ["_law_script"] (spLaw K) := by
  have e := hfa.symm.trans (PySem.W.mg_of X G a16)
  cases e
  have F0 := fun_mk (st := s_is_integer) l0 c0 k0
  have D0 : Df K mg "is_integer" s_is_integer ["thing"] f0 _ := ⟨F0, PySem.W.mg_of X G a0, F0.binds (ps := ["thing"]) fun _ _ _ _ _ _ us hl => match us, hl with | [_], _ => rfl⟩
  have F1 := fun_mk (st := s_is_label) l1 c1 k1
  have D1 : Df K mg "is_label" s_is_label ["thing"] f1 _ := ⟨F1, PySem.W.mg_of X G a1, F1.binds (ps := ["thing"]) fun _ _ _ _ _ _ us hl => match us, hl with | [_], _ => rfl⟩
  have F2 := fun_mk (st := s_is_name) l2 c2 k2
  have D2 : Df K mg "is_name" s_is_name ["thing"] f2 _ := ⟨F2, PySem.W.mg_of X G a2, F2.binds (ps := ["thing"]) fun _ _ _ _ _ _ us hl => match us, hl with | [_], _ => rfl⟩
  have F3 := fun_mk (st := s_is_full) l3 c3 k3
  have D3 : Df K mg "is_full" s_is_full ["thing"] f3 _ := ⟨F3, PySem.W.mg_of X G a3, F3.binds (ps := ["thing"]) fun _ _ _ _ _ _ us hl => match us, hl with | [_], _ => rfl⟩
  have F4 := fun_mk (st := s_is_value) l4 c4 k4
  have D4 : Df K mg "is_value" s_is_value ["thing"] f4 _ := ⟨F4, PySem.W.mg_of X G a4, F4.binds (ps := ["thing"]) fun _ _ _ _ _ _ us hl => match us, hl with | [_], _ => rfl⟩
  have F5 := fun_mk (st := s_is_moment) l5 c5 k5
  have D5 : Df K mg "is_moment" s_is_moment ["thing"] f5 _ := ⟨F5, PySem.W.mg_of X G a5, F5.binds (ps := ["thing"]) fun _ _ _ _ _ _ us hl => match us, hl with | [_], _ => rfl⟩
  have F6 := fun_mk (st := s_is_number) l6 c6 k6
  have D6 : Df K mg "is_number" s_is_number ["many", "thing"] f6 _ := ⟨F6, PySem.W.mg_of X G a6, F6.binds (ps := ["many", "thing"]) fun _ _ _ _ _ _ us hl => match us, hl with | [_, _], _ => rfl⟩
  have F7 := fun_mk (st := s_are_values) l7 c7 k7
  have D7 : Df K mg "are_values" s_are_values ["thing"] f7 _ := ⟨F7, PySem.W.mg_of X G a7, F7.binds (ps := ["thing"]) fun _ _ _ _ _ _ us hl => match us, hl with | [_], _ => rfl⟩
  have F8 := fun_mk (st := s_law_bag) l8 c8 k8
  have D8 : Df K mg "_law_bag" s_law_bag ["_law_script"] f8 _ := ⟨F8, PySem.W.mg_of X G a8, F8.binds (ps := ["_law_script"]) fun _ _ _ _ _ _ us hl => match us, hl with | [_], _ => rfl⟩
  have F9 := fun_mk (st := s_law_take) l9 c9 k9
  have D9 : Df K mg "_law_take" s_law_take ["_law_bag_here", "_law_many"] f9 _ := ⟨F9, PySem.W.mg_of X G a9, F9.binds (ps := ["_law_bag_here", "_law_many"]) fun _ _ _ _ _ _ us hl => match us, hl with | [_, _], _ => rfl⟩
  have F10 := fun_mk (st := s_law_alike) l10 c10 k10
  have D10 : Df K mg "_law_alike" s_law_alike ["_law_found", "_law_right"] f10 _ := ⟨F10, PySem.W.mg_of X G a10, F10.binds (ps := ["_law_found", "_law_right"]) fun _ _ _ _ _ _ us hl => match us, hl with | [_, _], _ => rfl⟩
  have F11 := fun_mk (st := s_law_text) l11 c11 k11
  have D11 : Df K mg "_law_text" s_law_text ["_law_bag_here"] f11 _ := ⟨F11, PySem.W.mg_of X G a11, F11.binds (ps := ["_law_bag_here"]) fun _ _ _ _ _ _ us hl => match us, hl with | [_], _ => rfl⟩
  have F12 := fun_mk (st := s_law_thing) l12 c12 k12
  have D12 : Df K mg "_law_thing" s_law_thing ["_law_bag_here"] f12 _ := ⟨F12, PySem.W.mg_of X G a12, F12.binds (ps := ["_law_bag_here"]) fun _ _ _ _ _ _ us hl => match us, hl with | [_], _ => rfl⟩
  have F13 := fun_mk (st := s_law_is_label) l13 c13 k13
  have D13 : Df K mg "_law_is_label" s_law_is_label ["_law_thing_here"] f13 _ := ⟨F13, PySem.W.mg_of X G a13, F13.binds (ps := ["_law_thing_here"]) fun _ _ _ _ _ _ us hl => match us, hl with | [_], _ => rfl⟩
  have F14 := fun_mk (st := s_law_due) l14 c14 k14
  have D14 : Df K mg "_law_due" s_law_due ["_law_many", "_law_thing_here"] f14 _ := ⟨F14, PySem.W.mg_of X G a14, F14.binds (ps := ["_law_many", "_law_thing_here"]) fun _ _ _ _ _ _ us hl => match us, hl with | [_, _], _ => rfl⟩
  have F15 := fun_mk (st := s_law_told) l15 c15 k15
  have D15 : Df K mg "_law_told" s_law_told ["_law_many", "_law_thing_here"] f15 _ := ⟨F15, PySem.W.mg_of X G a15, F15.binds (ps := ["_law_many", "_law_thing_here"]) fun _ _ _ _ _ _ us hl => match us, hl with | [_, _], _ => rfl⟩
  have F16 := fun_mk (st := s_law) l16 c16 k16
  have m_abs := PySem.W.mg_none_of X G z_abs
  have m_len := PySem.W.mg_none_of X G z_len
  have m_int := PySem.W.mg_none_of X G z_int
  have m_repr := PySem.W.mg_none_of X G z_repr
  have m_range := PySem.W.mg_none_of X G z_range
  have m_tuple := PySem.W.mg_none_of X G z_tuple
  have m_isinstance := PySem.W.mg_none_of X G z_isinstance
  have m_bool := PySem.W.mg_none_of X G z_bool
  have m_str := PySem.W.mg_none_of X G z_str
  have m_all := PySem.W.mg_none_of X G z_all
  have m_dict := PySem.W.mg_none_of X G z_dict
  have m_LABEL_SIGNS := PySem.W.mg_of X G gl_LABEL_SIGNS
  have m_GREATEST_VALUE := PySem.W.mg_of X G gl_GREATEST_VALUE
  have m_GREATEST_MOMENT := PySem.W.mg_of X G gl_GREATEST_MOMENT
  have m_MOST_NAMES := PySem.W.mg_of X G gl_MOST_NAMES
  have m_Zone := PySem.W.mg_of X G cC_Zone
  have cl_Zone : Cls K C_Zone := ⟨pg_Zone, hd_Zone, po_Zone, sa_Zone⟩
  have own_Zone : OwnTy K C_Zone := ⟨cl_Zone, oa_Zone, on_Zone, ot_Zone, om_Zone, oi_Zone, os_Zone, ou_Zone⟩
  have M0 := fun_mk (st := s_Zone_init) ml0 mc0 mk0
  have B0 := M0.binds (ps := ["self", "values"]) fun _ _ _ _ _ _ us hl => match us, hl with | [_, _], _ => rfl
  have mk_Zone : Mk K C_Zone g0 := ⟨mm_Zone, ma0, mi0, kc_Zone⟩
  refine ⟨PySem.W.fnOf "law" "law" (defArgs s_law) (defBody s_law) (defScope s_law) .none kV16 dc16 pm16 an16 cd16 ct16, fun s v => .of_eq rfl, fun base _ _ => ?_⟩
  exact (by
    have G0 := ok_integer (P := l.prog) (w := w) (base := base) F0 own_Zone m_isinstance m_int m_bool
    have G1 := ok_label (P := l.prog) (w := w) (base := base) F1 own_Zone m_isinstance m_str m_len m_all m_LABEL_SIGNS
    have G2 := ok_name (P := l.prog) (w := w) (base := base) F2 own_Zone D1 G1 m_isinstance m_tuple m_all
    have G3 := ok_full (P := l.prog) (w := w) (base := base) F3 D2 G2
    have G6 := ok_number (P := l.prog) (w := w) (base := base) F6 D0 G0
    have G4 := ok_value (P := l.prog) (w := w) (base := base) F4 D6 G6 m_GREATEST_VALUE
    have G5 := ok_moment (P := l.prog) (w := w) (base := base) F5 D0 G0 m_GREATEST_MOMENT
    have G7 := ok_values (P := l.prog) (w := w) (base := base) F7 m_isinstance m_dict m_len m_all m_MOST_NAMES
    have G8 := ok_bag (P := l.prog) (w := w) (base := base) F8 m_abs
    have G9 := ok_take (P := l.prog) (w := w) (base := base) F9 m_len m_int
    have G10 := ok_alike (P := l.prog) (w := w) (base := base) F10 m_repr
    have G11 := ok_text (P := l.prog) (w := w) (base := base) F11 D9 G9 m_range
    have G12 := ok_thing (P := l.prog) (w := w) (base := base) (C := C_Zone) F12 D9 G9 D11 G11 m_range m_tuple
    have G13 := ok_law_label (P := l.prog) (w := w) (base := base) F13 own_Zone m_isinstance m_str m_len
    have G14 := ok_due (P := l.prog) (w := w) (base := base) F14 own_Zone D13 G13 m_isinstance m_int m_bool m_tuple
    have G15 := ok_told (P := l.prog) (w := w) (base := base) F15 D0 G0 D1 G1 D2 G2 D3 G3 D4 G4 D5 G5 D6 G6
    have GZ := ok_zone_init (P := l.prog) (w := w) (base := base) M0 cl_Zone na_Zone_values D7 G7
    exact ok_law F16 D8 G8 D9 G9 D10 G10 D12 G12 D14 G14 D15 G15 mk_Zone B0 GZ m_Zone m_range m_repr)
end K11
open PySem PySem.W PyProof.Rows
set_option maxRecDepth 100000 in
set_option maxHeartbeats 0 in
theorem PySem.Challenge.cw_listnames_k11_kinds_of_any_value_holds : PySem.Challenge.rw_listnames_k11_kinds_of_any_value.Holds := by
  w_on; o_law; k_head; (case hw => w_witness2)
  k_fill
  refine LN.walk_ofQ (l := PySem.Challenge.rw_listnames_k11_kinds_of_any_value) (n := 63) (k := 5) (x := "_law_script") (sp := fun w => K11.spLaw _) rfl (by decide) rfl ⟨rfl, by decide, by decide⟩ (fun w h Y => PySem.W.kIn_of Y) ?F (fun _ _ a ns hl _ hS => ⟨a, ns, rfl, hS, hl, fun _ => rfl⟩)
  case F =>
    intro w mg fa h KX G hmg
    refine' K11.all_mk KX G hmg ?gl_LABEL_SIGNS ?gl_GREATEST_VALUE ?gl_GREATEST_MOMENT ?gl_MOST_NAMES ?cC_Zone ?ma0 ?mi0 ?ml0 ?mc0 ?mk0 ?pg_Zone ?hd_Zone ?po_Zone ?sa_Zone ?mm_Zone ?kc_Zone ?na_Zone_values ?oa_Zone ?on_Zone ?ot_Zone ?om_Zone ?oi_Zone ?os_Zone ?ou_Zone ?a0 ?l0 ?c0 ?k0 ?a1 ?l1 ?c1 ?k1 ?a2 ?l2 ?c2 ?k2 ?a3 ?l3 ?c3 ?k3 ?a4 ?l4 ?c4 ?k4 ?a5 ?l5 ?c5 ?k5 ?a6 ?l6 ?c6 ?k6 ?a7 ?l7 ?c7 ?k7 ?a8 ?l8 ?c8 ?k8 ?a9 ?l9 ?c9 ?k9 ?a10 ?l10 ?c10 ?k10 ?a11 ?l11 ?c11 ?k11 ?a12 ?l12 ?c12 ?k12 ?a13 ?l13 ?c13 ?k13 ?a14 ?l14 ?c14 ?k14 ?a15 ?l15 ?c15 ?k15 ?a16 ?l16 ?c16 ?k16 ?z_abs ?z_len ?z_int ?z_repr ?z_range ?z_tuple ?z_isinstance ?z_bool ?z_str ?z_all ?z_dict
    (case gl_LABEL_SIGNS => k_is)
    (case gl_GREATEST_VALUE => k_is)
    (case gl_GREATEST_MOMENT => k_is)
    (case gl_MOST_NAMES => k_is)
    (case cC_Zone => k_is)
    (case ma0 => k_is)
    (case mi0 => k_is)
    (case ml0 => k_is)
    (case mc0 => k_is)
    (case mk0 => k_is)
    (case pg_Zone => k_is)
    (case hd_Zone => k_is)
    (case po_Zone => k_is)
    (case sa_Zone => k_is)
    (case mm_Zone => k_is)
    (case kc_Zone => k_is)
    (case na_Zone_values => k_is)
    (case oa_Zone => k_is)
    (case on_Zone => k_is)
    (case ot_Zone => k_is)
    (case om_Zone => k_is)
    (case oi_Zone => first | kit_is | k_is)
    (case os_Zone => first | kit_is | k_is)
    (case ou_Zone => first | kit_is | k_is)
    (case a0 => k_is)
    (case l0 => k_is)
    (case c0 => k_is)
    (case k0 => k_is)
    (case a1 => k_is)
    (case l1 => k_is)
    (case c1 => k_is)
    (case k1 => k_is)
    (case a2 => k_is)
    (case l2 => k_is)
    (case c2 => k_is)
    (case k2 => k_is)
    (case a3 => k_is)
    (case l3 => k_is)
    (case c3 => k_is)
    (case k3 => k_is)
    (case a4 => k_is)
    (case l4 => k_is)
    (case c4 => k_is)
    (case k4 => k_is)
    (case a5 => k_is)
    (case l5 => k_is)
    (case c5 => k_is)
    (case k5 => k_is)
    (case a6 => k_is)
    (case l6 => k_is)
    (case c6 => k_is)
    (case k6 => k_is)
    (case a7 => k_is)
    (case l7 => k_is)
    (case c7 => k_is)
    (case k7 => k_is)
    (case a8 => k_is)
    (case l8 => k_is)
    (case c8 => k_is)
    (case k8 => k_is)
    (case a9 => k_is)
    (case l9 => k_is)
    (case c9 => k_is)
    (case k9 => k_is)
    (case a10 => k_is)
    (case l10 => k_is)
    (case c10 => k_is)
    (case k10 => k_is)
    (case a11 => k_is)
    (case l11 => k_is)
    (case c11 => k_is)
    (case k11 => k_is)
    (case a12 => k_is)
    (case l12 => k_is)
    (case c12 => k_is)
    (case k12 => k_is)
    (case a13 => k_is)
    (case l13 => k_is)
    (case c13 => k_is)
    (case k13 => k_is)
    (case a14 => k_is)
    (case l14 => k_is)
    (case c14 => k_is)
    (case k14 => k_is)
    (case a15 => k_is)
    (case l15 => k_is)
    (case c15 => k_is)
    (case k15 => k_is)
    (case a16 => k_is)
    (case l16 => k_is)
    (case c16 => k_is)
    (case k16 => k_is)
    (case z_abs => k_is)
    (case z_len => k_is)
    (case z_int => k_is)
    (case z_repr => k_is)
    (case z_range => k_is)
    (case z_tuple => k_is)
    (case z_isinstance => k_is)
    (case z_bool => k_is)
    (case z_str => k_is)
    (case z_all => k_is)
    (case z_dict => k_is)
