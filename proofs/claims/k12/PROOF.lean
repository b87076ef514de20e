import PyProof.Rows.All
import Wide.All
import OpenK.AllK
import Wide.FinOn
import HandS.Base
import HandS.Call
import HandS.List
import HandS.Comp
import HandS.Ends
import HandS.Words
import HandS.Codes
import HandS.TupAny
import HandS.More
import HandS.Iter
import HandS.Text
import HandS.Dict
import HandS.WordsList
import HandS.Evl
import HandS.TupMul
import HandS.IsInst
import HandS.Walk
import HandS.ExcInit
import HandS.ExcField
import HandS.ExcIs
import KE.KExcIs
import HandS.ExcValue
import HandS.ExcOwn
import HandS.DeepEq
import HandS.Style
import PySem.Challenge.RW_listnames_k12_errors_apart
set_option Elab.async false
set_option linter.all false
set_option maxRecDepth 100000
namespace LN
open PySem PySem.Spec PyProof.Rows L2

/-! calls around which no text of a container is being made -/
abbrev Quiet (A : Around) : Prop := A.guards = some []

structure FnQ (P : Program) (w : World) (K : PySem.W.Frag) (mg : Str → Option Value) (base : Heap) (k : Nat) (f : Addr) (fd : FuncData) (ps : List Str) (sp : Sp) : Prop where
  size : ∀ vs H Q, sp vs H Q E0 → vs.length = ps.length
  go : ∀ (A : Around) (outer : List Env) (s : Shared) (H : Hp) (us : List Value) (vs : List V) (Q : VK), Quiet A → Room k A → Env0 P w K mg base A outer s H →
    BindsTo s fd ⟨us, []⟩ (ps.zip us) → Vals vs us → sp vs H Q E0 → codeAny (model P w) A (.call (.ref f) ⟨us, []⟩) (CR CX0 outer P w H s Q E0) s

section
variable {P : Program} {w : World} {K : PySem.W.Frag} {mg : Str → Option Value} {base : Heap}
theorem okQ {x qual : Str} {st : Stmt} {f : Addr} {fd : FuncData} {N ps : List Str} {k : Nat} {sp : Sp} (F : Fun K x qual st f fd) (S : FnScope N ps (defScope st))
    (size : ∀ vs H Q, sp vs H Q E0 → vs.length = ps.length)
    (body : ∀ (cdv : Value) (A : Around) (outer : List Env) (s : Shared) (H : Hp) (vs : List V) (Q : VK), Quiet A →
      Room k (A.deeper (envOfC qual (defScope st) s.heap.objs.size f cdv)) → sp vs H Q E0 →
      ∃ t, PSs (cxOf CX0 P w K mg base N qual (defScope st) f cdv A outer s H E0).nox (defBody st) t ∧ t { nx := fun _ H' => Q .non H', rt := Q } (start N vs) H) :
    FnQ P w K mg base (k + 1) f fd ps sp := by
  obtain ⟨oc, od, kV, doc, pm, an, cdv, ct, osl, rfl, lk, hcd⟩ := F.ex
  constructor
  · exact size
  intro A outer s H us vs Q quiet room env binds rel want
  have inHeap : K.In s.heap := env.mod.kin.keeps (fun b o e => (env.bs b o e).1)
  have noLim : s.heap.NoLimit := env.mod.nolimit.keeps (fun b o e => (env.bs b o e).1)
  have kinds : ∀ y ∈ ps.zip us, (defScope st).names.lookup y.1 = some .local ∨
      ((defScope st).names.lookup y.1 = some .cell ∧ ((cellsFrom (s.heap.objs.size + 1) (defScope st).names []).lookup y.1).isSome = true) := by
    intro y hy
    cases S.par y.1 (List.of_mem_zip (show (y.1, y.2) ∈ ps.zip us from hy)).1 with
    | inl q => exact .inl q
    | inr q => exact .inr ⟨q, PySem.W.cellsFrom_some _ _ _ (.inl q)⟩
  apply codeAny_call_function room.depth (inHeap _ _ lk) rfl S.co S.gen rfl (PySem.W.codeRec_of inHeap hcd) (binds _ _ _ _ _)
  apply wpAny_newFunctionEnv_cells S.kind kinds
  intro env' henv s1 entered
  subst henv
  refine ⟨noLim.keeps entered.toInCall.keep, codeAny_func ?_⟩
  obtain ⟨t, rule, reads⟩ := body cdv A outer s H vs Q quiet (room.deeper _) want
  have inv := inv_start (CX := CX0) (E := E0) S room.hd env (size _ _ _ want) rel entered
  refine wpAny_mono (rule.nox.run [] s1 (start N vs) H _ inv reads) ?_ (fun e s' hs => hs)
  intro fl s' hs
  cases fl with
  | ret u =>
    obtain ⟨v, σ', H', J, rv, q⟩ := hs
    exact ⟨v, H', J.os, J.bare, J.base, J.hok, rv, q⟩
  | next =>
    obtain ⟨σ', H', J, q⟩ := hs
    exact ⟨V.non, H', J.os, J.bare, J.base, J.hok, rfl, q⟩
  | brk =>
    obtain ⟨_, _, _, q⟩ := hs
    cases q
  | cont =>
    obtain ⟨_, _, _, q⟩ := hs
    cases q
end

section
variable {X : Cx} {k : Nat} {f : Addr} {fd : FuncData} {ps : List Str} {sp : Sp} {x : Str} {p pos : Pos} {e : Expr} {es : List Expr} {t : TA}
theorem callQ (F : FnQ X.prog X.w X.K X.mg X.base k f fd ps sp) (quiet : Quiet X.A) (room : Room k X.A) (hg : Gl X x) (hm : X.mg x = some (.ref f)) (hk : PySem.W.keepIn X.K (.ref f) = true)
    (hb : Binds X.K fd ps []) (args : PA X (e :: es) t) (hdb : (x == ("__debug__" : Str)) = false := by decide) (he : starEach (e :: es) X.env = (false, eval e X.env) :: starEach es X.env := by rfl)
    (hpl : (backTo pos (starEach es X.env)).any (·.1) = false := by rfl) : PE X (.Call (.Name x p) (e :: es) [] pos) (tCall sp [] E0 t) := by
  constructor
  intro pins s σ H Q inv want
  apply wpAny_Call_Name_kw (ld_glob inv hg hm _ hdb)
  apply PySem.W.callWith_K (h₀ := X.base) inv.ok.mod.kin hk _ he hpl
  refine thn (args.run pos pins s σ H _ inv want) ?_
  rintro us s1 ⟨vs, H1, I1, r, q⟩
  refine ⟨I1.kIn, ?_⟩
  rw [List.append_nil] at q
  have hl : us.length = ps.length := r.length.symm.trans (F.size _ _ _ q)
  have hbs := hb s1 us I1.kIn (by rw [List.append_nil]; exact hl)
  rw [List.append_nil] at hbs
  refine wpAny_call (codeAny_mono (F.go X.A X.stack s1 H1 us vs Q quiet room I1.env0 hbs r q) ?_)
  intro r' s' hq
  cases r' with
  | error e => cases (show False from hq)
  | ok fl =>
    cases fl with
    | ret u => exact I1.after hq
    | next => cases (show False from hq)
    | brk => cases (show False from hq)
    | cont => cases (show False from hq)

theorem cr_repr (quiet : Quiet X.A) (hu : X.A.units + 70 < cLine) : CallR X (.builtin "repr") (fun xs H Q => ∃ x d, xs = [x] ∧ Dp X.K H x d ∧ d.showable = true ∧ d.hasDict = false ∧ d.depth ≤ 60 ∧ d.shown.length ≤ sizeLine ∧ Q (.str d.shown) H) := by
  intro pins s σ H xs us Q inv rel want
  obtain ⟨x, d, rfl, hd, h1, h2, h3, h4, q⟩ := want
  obtain ⟨u, rfl, ru⟩ := vals1 rel
  obtain ⟨as, rd⟩ := Dp.reads inv d _ _ hd ru
  have fin : ∀ tk t, EP X pins σ Q (.str d.shown t) { s with toks := tk } := fun tk t => ⟨.str d.shown, H, inv.tok _, ⟨t, rfl⟩, q⟩
  cases hd with
  | non =>
    obtain rfl : u = Value.none := ru
    exact PySem.P.repr_of_none (fin _ _)
  | bl b =>
    obtain rfl : u = Value.bool b := ru
    exact PySem.P.repr_of_bool (fin _ _)
  | int i =>
    obtain ⟨t, rfl⟩ := ru
    exact PySem.P.repr_of_int (of_decide_eq_true h1) (fin _ _)
  | str z =>
    obtain ⟨t, rfl⟩ := ru
    exact PySem.P.repr_of_str (fin _ _) h4
  | lst q1 q2 =>
    cases ru
    refine repr_of_reads' rd h1 (PyData.noDict_hsm h2) quiet (by omega) (fun _ _ e => e) ?_ h4
    intro h' u tk hk
    exact ⟨.str (PyData.list _).shown, H, inv.un (t' := tk) (Un.kept hk) (inv.hok.kept hk), ⟨u, rfl⟩, q⟩
  | tup q1 q2 =>
    cases ru
    refine repr_of_reads' rd h1 (PyData.noDict_hsm h2) quiet (by omega) (fun _ _ e => e) ?_ h4
    intro h' u tk hk
    exact ⟨.str (PyData.tuple _).shown, H, inv.un (t' := tk) (Un.kept hk) (inv.hok.kept hk), ⟨u, rfl⟩, q⟩
end
end LN

namespace LN
open PySem PySem.Spec PyProof.Rows L2

section
variable {P : Program} {w : World} {K : PySem.W.Frag} {mg mb : Str → Option Value} {k : Nat} {fa a : Addr} {fd : FuncData} {x : Str} {sp : Sp} {s₁ : Shared} {vs : List Value} {ns : List Int}
abbrev EndsTrue (s₁ : Shared) : Result → Shared → Prop := fun r s' => r = .ok (.ret (.bool true)) ∧ PySem.OldK s₁.heap s'.heap ∧ s'.os = s₁.os ∧ AllBare s'.gens

theorem law_over (inHeap : K.In s₁.heap) (top : s₁.heap.Ns mainGlobals mg) (blt : s₁.heap.Ns builtinsNs mb) (bltIs : ∀ x : Str, x ≠ "__name__" → mb x = bootBuiltins x) (lim : s₁.heap.NoLimit) (gens : s₁.gens = #[])
    (script : s₁.heap.get? a = some { cls := .type "list", data := .seq vs.toArray }) (room : Room k callerA)
    (F : ∀ base : Heap, K.In base → base.Ns mainGlobals mg → FnQ P w K mg base k fa fd [x] sp) (bind : ∀ (s : Shared) (u : Value), BindsTo s fd ⟨[u], []⟩ [(x, u)])
    (H : Hp) (only : Only H) (held : HOk P w H s₁.heap) (there : ∀ b, H b ≠ none → b = a) (off : H a ≠ none → K.lookup a = none) (want : sp [.ref a] H (fun v _ => v = .bl true) E0) :
    codeAny (model P w) callerA (.call (.ref fa) ⟨[.ref a], []⟩) (EndsTrue s₁) s₁ := by
  have stay : ∀ {b : Addr} {o : Obj}, s₁.heap.get? b = some o → H b = none → (hidT s₁.heap H).get? b = some o := fun e n => hidT_get e n
  have notDict : ∀ {b : Addr} {o : Obj} {es : Array DictEntry} {ep : Nat}, s₁.heap.get? b = some o → o.data = .dict es ep → H b = none := by
    intro b o es ep e d
    cases q : H b with
    | none => rfl
    | some u =>
      have eb := there b (by rw [q]; exact Option.some_ne_none u)
      rw [eb, script] at e
      cases e
      cases (show Data.seq vs.toArray _ = Data.dict es ep from d)
  have spaces : ∀ {b : Addr} {m : Str → Option Value}, s₁.heap.Ns b m → (hidT s₁.heap H).Ns b m := by
    rintro b m ⟨o, es, ep, e, d, r⟩
    exact ⟨o, es, ep, stay e (notDict e d), d, r⟩
  have inHid : K.In (hidT s₁.heap H) := by
    intro b o e
    refine stay (inHeap b o e) ?_
    cases q : H b with
    | none => rfl
    | some u =>
      have eb := there b (by rw [q]; exact Option.some_ne_none u)
      have z := off (by rw [← eb, q]; exact Option.some_ne_none u)
      rw [eb, z] at e
      cases e
  have md : Mod K mg (hidT s₁.heap H) := by
    obtain ⟨mc, l1, l2⟩ := lim
    exact ⟨inHid, spaces top, ⟨mb, spaces blt, bltIs⟩, ⟨mc, spaces l1, l2⟩⟩
  have env : Env0 P w K mg (hidT s₁.heap H) callerA [] s₁ H := by
    refine ⟨rfl, md, fun b o e => of_hidT e, Nat.le_of_eq (hidT_size _ _), trivial, ?_, held, .of_eq gens⟩
    intro b hb
    exact absurd (show b ∈ ([] : List Addr) from hb) List.not_mem_nil
  refine codeAny_mono ((F _ inHid (spaces top)).go callerA [] s₁ H [.ref a] [.ref a] _ rfl room env (bind s₁ (.ref a)) (.cons rfl .nil) want) ?_
  intro r s' h
  cases r with
  | error e => cases (show False from h)
  | ok fl =>
    cases fl with
    | next => cases (show False from h)
    | brk => cases (show False from h)
    | cont => cases (show False from h)
    | ret u =>
      obtain ⟨v, H', os, bare, un, held', rv, q⟩ := h
      obtain rfl : v = .bl true := q
      obtain rfl : u = Value.bool true := rv
      refine ⟨rfl, OldK.of_keep ?_, os, bare⟩
      intro b o e
      cases q : H b with
      | none => exact un.keep b o e q (fun z => absurd (show b ∈ ([] : List Addr) from z) List.not_mem_nil) List.not_mem_nil
      | some u =>
        cases only b with
        | inl z => rw [q] at z; cases z
        | inr z =>
          obtain ⟨ob, xs, z⟩ := z
          obtain ⟨e1, _⟩ := held b _ z
          obtain ⟨e2, _⟩ := held' b _ (un.frzs b ob _ z)
          rw [e] at e1
          cases e1
          exact e2

theorem law_callQ (inHeap : K.In s₁.heap) (top : s₁.heap.Ns mainGlobals mg) (blt : s₁.heap.Ns builtinsNs mb) (bltIs : ∀ x : Str, x ≠ "__name__" → mb x = bootBuiltins x) (lim : s₁.heap.NoLimit) (gens : s₁.gens = #[])
    (script : s₁.heap.get? a = some { cls := .type "list", data := .seq vs.toArray }) (whole : IntsAre vs ns) (size : ns.length ≤ sizeLine) (room : Room k callerA)
    (F : ∀ base : Heap, K.In base → base.Ns mainGlobals mg → FnQ P w K mg base k fa fd [x] sp) (bind : ∀ (s : Shared) (u : Value), BindsTo s fd ⟨[u], []⟩ [(x, u)])
    (want : ∀ H : Hp, Only H → SqL K H a (ns.map V.int) → sp [.ref a] H (fun v _ => v = .bl true) E0) :
    codeAny (model P w) callerA (.call (.ref fa) ⟨[.ref a], []⟩) (EndsTrue s₁) s₁ := by
  have rv := vals_ints whole
  cases hk : K.lookup a with
  | some o =>
    have e := inHeap a o hk
    rw [script] at e
    cases e
    have sq : SqL K (fun _ => none) a (ns.map V.int) := by
      refine .inr ⟨_, vs.toArray, _, hk, rfl, rfl, rfl, ?_, by simpa using rv⟩
      rw [List.size_toArray, whole.length]
      exact size
    exact law_over inHeap top blt bltIs lim gens script room F bind (fun _ => none) (fun _ => .inl rfl) (fun b u z => nomatch (show (none : Option HO) = some u from z)) (fun b z => absurd rfl z) (fun z => absurd rfl z) (want _ (fun _ => .inl rfl) sq)
  | none =>
    let H : Hp := fun b => if b = a then some (.frz { cls := .type "list", data := .seq vs.toArray } (.lst (ns.map V.int))) else none
    have ha : H a = some (.frz { cls := .type "list", data := .seq vs.toArray } (.lst (ns.map V.int))) := if_pos rfl
    have hb : ∀ b, b ≠ a → H b = none := fun b n => if_neg n
    have only : Only H := by
      intro b
      by_cases e : b = a
      · rw [e]; exact .inr ⟨_, _, ha⟩
      · exact .inl (hb b e)
    refine law_over inHeap top blt bltIs lim gens script room F bind H only ?_ ?_ (fun _ => hk) (want H only (.inl (.inr ⟨_, ha⟩)))
    · intro b u z
      by_cases e : b = a
      · subst e
        rw [ha] at z
        cases z
        exact ⟨script, by rw [List.length_map]; exact size, vs, _, rv, script⟩
      · rw [hb b e] at z
        cases z
    · intro b z
      by_cases e : b = a
      · exact e
      · exact absurd (hb b e) z
end

theorem walk_ofQ {l : PySem.W.OpenLaw} {n k : Nat} {q : Program} {loose : List Str} {XP : (Str → Option Value) → Heap → Prop} {YP : World → Heap → Prop} {d : DefRec} {K : Params → PySem.W.Frag} {sp : World → Sp} {x : Str}
    (most : l.most = some n) (few : n ≤ sizeLine) (plain : d.params.defaults = []) (room : Room k callerA) (hY : ∀ (w : World) (h : Heap), YP w h → (K w.params).In h)
    (F : ∀ (w : World) (mg : Str → Option Value) (fa : Addr) (h : Heap), (K w.params).In h → h.Ns mainGlobals mg → mg d.name = some (.ref fa) →
      ∃ fd : FuncData, (∀ (s : Shared) (u : Value), BindsTo s fd ⟨[u], []⟩ [(x, u)]) ∧
        ∀ base : Heap, (K w.params).In base → base.Ns mainGlobals mg → FnQ l.prog w (K w.params) mg base k fa fd [x] (sp w))
    (want : ∀ (w : World) (H : Hp) (a : Addr) (ns : List Int), ns.length ≤ n → Only H → SqL (K w.params) H a (ns.map V.int) → sp w [.ref a] H (fun v _ => v = .bl true) E0) :
    PySem.W.WalkO q loose XP YP l.row.toRowW d [] (fun f vs => PySem.call f vs) := by
  apply Att.attach_call most plain
  intro w s₀ s₁ mg mb fa o pm cd doc a vs ns G Y ho hd hcd hmg hobj whole len gens
  obtain ⟨fd, bind, hF⟩ := F w mg fa _ (hY w _ Y) G.T.g hmg
  exact law_callQ (hY w _ Y) G.T.g G.T.b G.T.builtins G.T.nolimit gens hobj whole (Nat.le_trans len few) room hF bind (fun H only sq => want w H a ns len only sq)
end LN

namespace LN
open PySem PySem.Spec PyProof.Rows L2
theorem same_put {H : Hp} {p : Addr} {o : HO} (h : H p = none) : Same H (upd H p o) := fun b x e => by
  rw [upd_ne (ne_of_none e h)]
  exact e
theorem upd_own {H : Hp} {p : Addr} {o : HO} (h : H p = some o) : upd H p o = H := by
  funext b
  by_cases e : b = p
  · rw [e, upd_same, h]
  · rw [upd_ne e]

section
variable {X : Cx}
/-- xs[i], i counted from 0, where the store of xs[i] op= e reads it -/
theorem get_list : PGet X (fun x y H Q => ∃ p xs i v, x = .ref p ∧ y = .int (i : Nat) ∧ i < 1000 ∧ H p = some (.lst xs) ∧ xs[i]? = some v ∧ Q v H) := by
  intro pins s σ H o i ov iv Q inv ro ri want
  obtain ⟨p, xs, j, v, rfl, rfl, small, hp, at_, q⟩ := want
  obtain rfl : ov = Value.ref p := ro
  obtain ⟨t, rfl⟩ := ri
  obtain ⟨its, r, pl, hz⟩ := inv.list (.inl (.inl hp))
  obtain ⟨u, eu, ru⟩ := r.get at_
  refine wpAny_getItem_list pl.isList (Int.natCast_nonneg _) (by omega) (by simpa using eu) ?_
  exact ⟨v, H, inv, ru, q⟩

/-- text * int -/
theorem op_mulStr : OpR X (binaryOp .Mult) (fun x y H Q => ∃ z n, x = .str z ∧ y = .int n ∧ MulOk z n ∧ Q (.str (Txt.mul z n)) H) := by
  intro pins s σ H x y v u Q inv rx ry want
  obtain ⟨z, n, rfl, rfl, ok, q⟩ := want
  obtain ⟨t, rfl⟩ := rx
  obtain ⟨t', rfl⟩ := ry
  refine SB.mul ok ?_
  intro t'' k
  exact ⟨.str _, H, inv.tok _, ⟨_, rfl⟩, q⟩
end

/-- the bag of a law: four places; what is drawn next hangs on the first three -/
def Bag (b bc : Addr) (H : Hp) : Prop := ∃ (x0 x1 x2 : Int) (ns : List Int), bc ≠ b ∧ H b = some (.lst [.int x0, .int x1, .int x2, .ref bc]) ∧ H bc = some (.lst (ns.map V.int)) ∧ 0 ≤ x1 ∧ x1 < 2147483647 ∧ 0 ≤ x2
theorem Bag.same {b bc : Addr} {H H' : Hp} (h : Bag b bc H) (s : Same H H') : Bag b bc H' := by
  obtain ⟨x0, x1, x2, ns, h1, h2, h3, h4⟩ := h
  exact ⟨x0, x1, x2, ns, h1, s _ _ h2, s _ _ h3, h4⟩
/-- all that was tracked, but the bag, is as it was; the bag is one -/
structure Drew (b bc : Addr) (H H' : Hp) : Prop where
  bag : Bag b bc H'
  keep : ∀ a o, a ≠ b → H a = some o → H' a = some o
  held : ∀ a, H a ≠ none → H' a ≠ none
theorem Drew.refl {b bc : Addr} {H : Hp} (h : Bag b bc H) : Drew b bc H H := ⟨h, fun _ _ _ e => e, fun _ e => e⟩
theorem Drew.trans {b bc : Addr} {H H1 H2 : Hp} (h : Drew b bc H H1) (g : Drew b bc H1 H2) : Drew b bc H H2 := ⟨g.bag, fun a o n e => g.keep a o n (h.keep a o n e), fun a e => g.held a (h.held a e)⟩
theorem Drew.same {b bc : Addr} {H H1 H2 : Hp} (h : Drew b bc H H1) (g : Same H1 H2) : Drew b bc H H2 := ⟨h.bag.same g, fun a o n e => g a o (h.keep a o n e), fun a e z => by
  have := h.held a e
  cases q : H1 a with
  | none => exact this q
  | some o => rw [g a o q] at z; cases z⟩
theorem same_drew {b bc : Addr} {H H1 H2 : Hp} (g : Same H H1) (h : Drew b bc H1 H2) : Drew b bc H H2 := ⟨h.bag, fun a o n e => h.keep a o n (g a o e), fun a e z => by
  cases q : H a with
  | none => exact e q
  | some o => exact h.held a (by rw [g a o q]; exact Option.some_ne_none o) z⟩
theorem Drew.free {b bc : Addr} {H H' : Hp} (h : Drew b bc H H') {p : Addr} (e : H' p = none) : H p = none := by
  cases q : H p with
  | none => rfl
  | some o => exact absurd e (h.held p (by rw [q]; exact Option.some_ne_none o))
def spBag (K : PySem.W.Frag) : Sp := fun vs H Q _ => ∃ (a : Addr) (ns : List Int), vs = [.ref a] ∧ SqL K H a (ns.map V.int) ∧ ns.length ≤ 63 ∧ ∀ H' b bc, Same H H' → H b = none → H bc = none → Bag b bc H' → Q (.ref b) H'
def spTake : Sp := fun vs H Q _ => ∃ (b bc : Addr) (m : Nat), vs = [.ref b, .int m] ∧ Bag b bc H ∧ 1 ≤ m ∧ m < 1073741824 ∧ ∀ H' (r : Nat), Drew b bc H H' → r < m → Q (.int r) H'
end LN

namespace LN
open PySem PySem.Spec PyProof.Rows L2

/-! data that can be compared and shown: dep bounds how deep it is, n how long its text -/
structure Good (d : PyData) (dep n : Nat) : Prop where
  lay : d.canLay0 = true
  shows : d.showable = true
  deep : d.depth ≤ dep
  len : d.shown.length ≤ n
theorem Good.mono {d : PyData} {a b n m : Nat} (g : Good d a n) (h : a ≤ b) (h' : n ≤ m) : Good d b m := ⟨g.lay, g.shows, Nat.le_trans g.deep h, Nat.le_trans g.len h'⟩
theorem Good.bool (b : Bool) : Good (.bool b) 0 5 := by cases b <;> exact ⟨rfl, rfl, Nat.le_refl _, by decide⟩
theorem Good.none : Good .none 0 5 := ⟨rfl, rfl, Nat.le_refl _, by decide⟩
theorem Good.str {x : Str} {m : Nat} (h : PyData.strOk x = true) (l : x.length ≤ m) : Good (.str x) 0 (10 * m + 2) := by
  refine ⟨h, rfl, Nat.le_refl _, ?_⟩
  have k := StrLaws.reprText_len x (fun c hc => by
    have := Array.all_eq_true_iff_forall_mem.mp h c (Array.mem_def.mpr hc)
    have := of_decide_eq_true this
    omega)
  show (reprText x).length ≤ _
  omega
theorem piled_le {n : Nat} : ∀ {ds : List PyData}, (∀ d ∈ ds, d.shown.length ≤ n) → piled (PyData.shownAll ds) ≤ ds.length * (n + 2)
  | [], _ => Nat.zero_le _
  | d :: ds, h => by
    have ih := piled_le (ds := ds) fun x hx => h x (List.mem_cons_of_mem _ hx)
    have h1 := h d List.mem_cons_self
    show piled (d.shown :: PyData.shownAll ds) ≤ _
    rw [piled_cons, List.length_cons, Nat.succ_mul]
    omega
theorem listText_le (ts : List Str) : (listText ts).length ≤ 2 + piled ts := by
  cases ts with
  | nil => exact Nat.le_refl 2
  | cons t r =>
    have h := textFrom_length_pos r 1 (("[" : Str) ++ (if (0 : Nat) > 0 then ", " else "" : String) ++ t) (Nat.succ_pos 0)
    have e : (listText (t :: r)).length = (textFrom 1 (("[" : Str) ++ (if (0 : Nat) > 0 then ", " else "" : String) ++ t) r).length + 1 := by
      unfold listText
      rw [strLen_append]
      rfl
    have e2 : ((("[" : Str) ++ (if (0 : Nat) > 0 then ", " else "" : String) ++ t)).length = 1 + t.length := by
      rw [strLen_append, strLen_append]
      rfl
    rw [e, h, e2, piled_cons]
    omega
theorem tupleText_le (ts : List Str) : (tupleText ts).length ≤ 3 + piled ts := by
  unfold tupleText
  rw [strLen_append, strLen_append]
  have e1 : ((("(" : String) : Str)).length = 1 := rfl
  have e3 : (((if ts.length == 1 then ",)" else ")" : String) : Str)).length ≤ 2 := by split <;> decide
  rw [e1]
  by_cases h : ts = []
  · subst h
    have : (Str.join (", " : String) []).length = 0 := rfl
    omega
  · have := join_length_add ts h
    omega
theorem all_lay {ds : List PyData} (h : ∀ d ∈ ds, d.canLay0 = true) : PyData.canLayAll0 ds = true := by
  induction ds with
  | nil => rfl
  | cons d ds ih =>
    show (d.canLay0 && PyData.canLayAll0 ds) = true
    rw [h d List.mem_cons_self, ih fun x hx => h x (List.mem_cons_of_mem _ hx)]
    rfl
theorem all_shows {ds : List PyData} (h : ∀ d ∈ ds, d.showable = true) : PyData.showableAll ds = true := by
  induction ds with
  | nil => rfl
  | cons d ds ih =>
    show (d.showable && PyData.showableAll ds) = true
    rw [h d List.mem_cons_self, ih fun x hx => h x (List.mem_cons_of_mem _ hx)]
    rfl
theorem all_deep {ds : List PyData} {k : Nat} (h : ∀ d ∈ ds, d.depth ≤ k) : PyData.depthAll ds ≤ k := by
  induction ds with
  | nil => exact Nat.zero_le _
  | cons d ds ih =>
    show max d.depth (PyData.depthAll ds) ≤ k
    exact Nat.max_le.mpr ⟨h d List.mem_cons_self, ih fun x hx => h x (List.mem_cons_of_mem _ hx)⟩
theorem Good.list {ds : List PyData} {k n m : Nat} (h : ∀ d ∈ ds, Good d k n) (l : ds.length ≤ m) : Good (.list ds) (k + 1) (2 + m * (n + 2)) := by
  refine ⟨all_lay fun d hd => (h d hd).lay, all_shows fun d hd => (h d hd).shows, Nat.succ_le_succ (all_deep fun d hd => (h d hd).deep), ?_⟩
  show (listText (PyData.shownAll ds)).length ≤ _
  have h1 := listText_le (PyData.shownAll ds)
  have h2 := piled_le fun d hd => (h d hd).len
  have h3 := Nat.mul_le_mul_right (n + 2) l
  omega
theorem Good.tuple {ds : List PyData} {k n m : Nat} (h : ∀ d ∈ ds, Good d k n) (l : ds.length ≤ m) : Good (.tuple ds) (k + 1) (3 + m * (n + 2)) := by
  refine ⟨all_lay fun d hd => (h d hd).lay, all_shows fun d hd => (h d hd).shows, Nat.succ_le_succ (all_deep fun d hd => (h d hd).deep), ?_⟩
  show (tupleText (PyData.shownAll ds)).length ≤ _
  have h1 := tupleText_le (PyData.shownAll ds)
  have h2 := piled_le fun d hd => (h d hd).len
  have h3 := Nat.mul_le_mul_right (n + 2) l
  omega
theorem Good.shaped {d : PyData} {k n : Nat} (g : Good d k n) (h : k ≤ 60) : SeqAt.shaped d = true := by
  unfold SeqAt.shaped
  rw [g.lay, decide_eq_true (Nat.le_trans g.deep (Nat.le_trans h (by decide)))]
  rfl
theorem Good.noDict {d : PyData} {k n : Nat} (g : Good d k n) : d.hasDict = false := PyData.hasDict_of_canLay d g.lay
theorem Good.self {d : PyData} {k n : Nat} (g : Good d k n) : PyData.eqv d d = true := SeqAt.eqv_refl d g.lay

/-! labels and names -/
structure Lab (x : Str) : Prop where
  ok : PyData.strOk x = true
  few : x.length ≤ 20
abbrev Labs (l : List Str) : Prop := ∀ x ∈ l, Lab x
def nameD (l : List Str) : PyData := .tuple (l.map PyData.str)
theorem good_name {l : List Str} (h : Labs l) (n : l.length ≤ 100) : Good (nameD l) 1 20500 := by
  have g : ∀ d ∈ l.map PyData.str, Good d 0 202 := fun d hd => by
    obtain ⟨x, hx, rfl⟩ := List.mem_map.mp hd
    exact Good.str (h x hx).ok (h x hx).few
  exact (Good.tuple g (m := 100) (by rw [List.length_map]; exact n)).mono (Nat.le_refl _) (by decide)
theorem good_names {ls : List (List Str)} (h : ∀ l ∈ ls, Labs l ∧ l.length ≤ 100) (n : ls.length ≤ 100) : Good (.list (ls.map nameD)) 2 2100000 := by
  have g : ∀ d ∈ ls.map nameD, Good d 1 20500 := fun d hd => by
    obtain ⟨x, hx, rfl⟩ := List.mem_map.mp hd
    exact good_name (h x hx).1 (h x hx).2
  exact (Good.list g (m := 100) (by rw [List.length_map]; exact n)).mono (Nat.le_refl _) (by decide)
theorem good_bools {bs : List Bool} (n : bs.length ≤ 1000) : Good (.list (bs.map PyData.bool)) 1 7002 := by
  have g : ∀ d ∈ bs.map PyData.bool, Good d 0 5 := fun d hd => by
    obtain ⟨x, _, rfl⟩ := List.mem_map.mp hd
    exact Good.bool x
  exact (Good.list g (m := 1000) (by rw [List.length_map]; exact n)).mono (Nat.le_refl _) (by decide)
theorem Labs.take {l : List Str} (h : Labs l) (n : Nat) : Labs (l.take n) := fun x hx => h x (List.mem_of_mem_take hx)
theorem Labs.drop {l : List Str} (h : Labs l) (n : Nat) : Labs (l.drop n) := fun x hx => h x (List.mem_of_mem_drop hx)
theorem Labs.append {l m : List Str} (h : Labs l) (g : Labs m) : Labs (l ++ m) := fun x hx => (List.mem_append.mp hx).elim (h x) (g x)
theorem Labs.cons {x : Str} {l : List Str} (h : Lab x) (g : Labs l) : Labs (x :: l) := fun y hy => (List.mem_cons.mp hy).elim (fun e => e ▸ h) (g y)
theorem Labs.nil : Labs [] := fun _ h => absurd h List.not_mem_nil

section
variable {K : PySem.W.Frag} {H H' : Hp}
theorem same_rd {a : Addr} {o : HO} (s : Same H H') (h : Rd H a o) : Rd H' a o := h.elim (fun e => .inl (s _ _ e)) fun ⟨u, e⟩ => .inr ⟨u, s _ _ e⟩
theorem same_seqT {a : Addr} {xs : List V} (s : Same H H') (h : SqT K H a xs) : SqT K H' a xs := h.elim (fun e => .inl (same_rd s e)) .inr
mutual
theorem dp_same (s : Same H H') : ∀ {d : PyData} {v : V}, Dp K H v d → Dp K H' v d
  | _, _, .non => .non
  | _, _, .bl b => .bl b
  | _, _, .int i => .int i
  | _, _, .str x => .str x
  | _, _, .lst q r => .lst (Same.seq s q) (dpa_same s r)
  | _, _, .tup q r => .tup (same_seqT s q) (dpa_same s r)
theorem dpa_same (s : Same H H') : ∀ {ds : List PyData} {vs : List V}, DpAll K H vs ds → DpAll K H' vs ds
  | _, _, .nil => .nil
  | _, _, .cons q r => .cons (dp_same s q) (dpa_same s r)
end
theorem dpa_append : ∀ {vs ws : List V} {ds es : List PyData}, DpAll K H vs ds → DpAll K H ws es → DpAll K H (vs ++ ws) (ds ++ es)
  | _, _, _, _, .nil, g => g
  | _, _, _, _, .cons q r, g => .cons q (dpa_append r g)
theorem dpa_len : ∀ {vs : List V} {ds : List PyData}, DpAll K H vs ds → vs.length = ds.length
  | _, _, .nil => rfl
  | _, _, .cons _ r => congrArg Nat.succ (dpa_len r)
theorem dpa_snoc {vs : List V} {ds : List PyData} {v : V} {d : PyData} (h : DpAll K H vs ds) (g : Dp K H v d) : DpAll K H (vs ++ [v]) (ds ++ [d]) := dpa_append h (.cons g .nil)
theorem dp_strs : ∀ l : List Str, DpAll K H (l.map V.str) (l.map PyData.str)
  | [] => .nil
  | x :: l => .cons (.str x) (dp_strs l)
theorem dp_bools : ∀ l : List Bool, DpAll K H (l.map V.bl) (l.map PyData.bool)
  | [] => .nil
  | x :: l => .cons (.bl x) (dp_bools l)
/-- the name l stands at a -/
abbrev Nm (K : PySem.W.Frag) (H : Hp) (a : Addr) (l : List Str) : Prop := SqT K H a (l.map V.str)
theorem nm_dp {a : Addr} {l : List Str} (h : Nm K H a l) : Dp K H (.ref a) (nameD l) := .tup h (dp_strs l)
theorem Drew.nm {b bc a : Addr} {l : List Str} (s : Drew b bc H H') (hb : ∃ xs, H b = some (.lst xs)) (h : Nm K H a l) : Nm K H' a l := by
  obtain ⟨xs, hb⟩ := hb
  rcases h with (h | ⟨o, h⟩) | h
  · exact .inl (.inl (s.keep a _ (ne_of h hb (by intro z; cases z)) h))
  · exact .inl (.inr ⟨o, s.keep a _ (ne_of h hb (by intro z; cases z)) h⟩)
  · exact .inr h
theorem Bag.lst {b bc : Addr} (h : Bag b bc H) : ∃ xs, H b = some (.lst xs) := by
  obtain ⟨_, _, _, _, _, h, _⟩ := h
  exact ⟨_, h⟩
end

/-- a def of the text, by its name -/
structure Df (K : PySem.W.Frag) (mg : Str → Option Value) (x : Str) (st : Stmt) (ps : List Str) (f : Addr) (fd : FuncData) : Prop where
  F : Fun K x x st f fd
  g : mg x = some (.ref f)
  b : Binds K fd ps []
section
variable {X : Cx} {k : Nat} {f : Addr} {fd : FuncData} {ps : List Str} {sp : Sp} {x : Str} {st : Stmt} {p pos : Pos} {e : Expr} {es : List Expr} {t : TA}
theorem pcall (D : Df X.K X.mg x st ps f fd) (G : FnOk X.prog X.w X.K X.mg X.base CX0 k f fd ps sp) (hr : Room k X.A) (ha : PA X (e :: es) t) (hg : Gl X x := by rfl) (hdb : (x == ("__debug__" : Str)) = false := by decide)
    (he : starEach (e :: es) X.env = (false, eval e X.env) :: starEach es X.env := by rfl) (hpl : (backTo pos (starEach es X.env)).any (·.1) = false := by rfl) : PE X (.Call (.Name x p) (e :: es) [] pos) (tCall sp [] E0 t) :=
  pe_call G hr hg D.g D.F.kp D.b .nil pass0 ha hdb he hpl
theorem qcall (D : Df X.K X.mg x st ps f fd) (G : FnQ X.prog X.w X.K X.mg X.base k f fd ps sp) (q : Quiet X.A) (hr : Room k X.A) (ha : PA X (e :: es) t) (hg : Gl X x := by rfl) (hdb : (x == ("__debug__" : Str)) = false := by decide)
    (he : starEach (e :: es) X.env = (false, eval e X.env) :: starEach es X.env := by rfl) (hpl : (backTo pos (starEach es X.env)).any (·.1) = false := by rfl) : PE X (.Call (.Name x p) (e :: es) [] pos) (tCall sp [] E0 t) :=
  callQ G q hr hg D.g D.F.kp D.b ha hdb he hpl
end
/-- two things with the same data are alike -/
def spAlike (K : PySem.W.Frag) : Sp := fun vs H Q _ => ∃ (x y : V) (d : PyData) (k n : Nat), vs = [x, y] ∧ Dp K H x d ∧ Dp K H y d ∧ Good d k n ∧ k ≤ 60 ∧ n ≤ sizeLine ∧ Q (.bl true) H
end LN
namespace LN
open PySem PySem.Spec PyProof.Rows L2
section
variable {K : PySem.W.Frag} {H H' : Hp}
theorem drew_seq {b bc l : Addr} {xs : List V} (s : Drew b bc H H') (n : l ≠ b) (h : SqL K H l xs) : SqL K H' l xs := by
  rcases h with (h | ⟨o, h⟩) | h
  · exact .inl (.inl (s.keep l _ n h))
  · exact .inl (.inr ⟨o, s.keep l _ n h⟩)
  · exact .inr h
end
def spPick (K : PySem.W.Frag) : Sp := fun vs H Q _ => ∃ (b bc l : Addr) (xs : List V), vs = [.ref b, .ref l] ∧ Bag b bc H ∧ l ≠ b ∧ SqL K H l xs ∧ 1 ≤ xs.length ∧ xs.length ≤ 1000 ∧ ∀ H' (i : Nat) v, Drew b bc H H' → xs[i]? = some v → Q v H'
def spUnder (K : PySem.W.Frag) : Sp := fun vs H Q _ => ∃ (a c : Addr) (n t : List Str), vs = [.ref a, .ref c] ∧ Nm K H a n ∧ Nm K H c t ∧ Labs n ∧ Labs t ∧ n.length ≤ 100 ∧ t.length ≤ 100 ∧ ∀ H', Same H H' → Q (.bl (decide (t <:+ n))) H'
def spBeneath (K : PySem.W.Frag) : Sp := fun vs H Q _ => ∃ (a c : Addr) (n t : List Str), vs = [.ref a, .ref c] ∧ Nm K H a n ∧ Nm K H c t ∧ Labs n ∧ Labs t ∧ n.length ≤ 100 ∧ t.length ≤ 100 ∧ ∀ H', Same H H' → Q (.bl (decide (t.length < n.length ∧ t <:+ n))) H'
def tails (n : List Str) : List (List Str) := (List.range (n.length + 1)).map fun k => n.drop k
def spTops (K : PySem.W.Frag) : Sp := fun vs H Q _ => ∃ (a : Addr) (n : List Str), vs = [.ref a] ∧ Nm K H a n ∧ Labs n ∧ n.length ≤ 100 ∧ ∀ H' p vs, Same H H' → H p = none → H' p = some (.lst vs) → DpAll K H' vs ((tails n).map nameD) → Q (.ref p) H'
theorem eqv_str (x y : Str) : PyData.eqv (.str x) (.str y) = decide (x = y) := by
  show (x == y) = decide (x = y)
  by_cases h : x = y
  · subst h
    simp
  · simp [h]
theorem eqv_strs : ∀ (a b : List Str), PyData.eqvAll (a.map PyData.str) (b.map PyData.str) = decide (a = b)
  | [], [] => rfl
  | [], _ :: _ => rfl
  | _ :: _, [] => rfl
  | x :: a, y :: b => by
    show (PyData.eqv (.str x) (.str y) && PyData.eqvAll (a.map PyData.str) (b.map PyData.str)) = _
    rw [eqv_str, eqv_strs a b]
    by_cases h : x = y
    · by_cases g : a = b <;> simp [h, g]
    · simp [h]
theorem eqv_name (a b : List Str) : PyData.eqv (nameD a) (nameD b) = decide (a = b) := eqv_strs a b
end LN
namespace LN
open PySem PySem.Spec PyProof.Rows L2
section
variable {K : PySem.W.Frag} {H H' : Hp}
/-! data without lists: what the change of a list does not touch -/
mutual
def noLst : PyData → Bool
  | .list _ => false
  | .tuple xs => noLsts xs
  | _ => true
def noLsts : List PyData → Bool
  | [] => true
  | d :: ds => noLst d && noLsts ds
end
mutual
theorem dp_put {D : Addr} {ys zs : List V} (e : H D = some (.lst ys)) : ∀ {d : PyData} {v : V}, Dp K H v d → noLst d = true → Dp K (upd H D (.lst zs)) v d
  | _, _, .non, _ => .non
  | _, _, .bl b, _ => .bl b
  | _, _, .int i, _ => .int i
  | _, _, .str x, _ => .str x
  | _, _, .lst q r, h => absurd h (by simp [noLst])
  | _, _, .tup q r, h => by
    refine .tup ?_ (dpa_put e r (by simpa [noLst] using h))
    rcases q with (q | ⟨o, q⟩) | q
    · exact .inl (.inl (by rw [upd_ne (ne_of q e (by intro z; cases z))]; exact q))
    · exact .inl (.inr ⟨o, by rw [upd_ne (ne_of q e (by intro z; cases z))]; exact q⟩)
    · exact .inr q
theorem dpa_put {D : Addr} {ys zs : List V} (e : H D = some (.lst ys)) : ∀ {ds : List PyData} {vs : List V}, DpAll K H vs ds → noLsts ds = true → DpAll K (upd H D (.lst zs)) vs ds
  | _, _, .nil, _ => .nil
  | _, _, .cons q r, h => by
    have h' : (noLst _ && noLsts _) = true := h
    rw [Bool.and_eq_true] at h'
    exact .cons (dp_put e q h'.1) (dpa_put e r h'.2)
end
theorem strs_noLst : ∀ l : List Str, noLsts (l.map PyData.str) = true
  | [] => rfl
  | x :: l => strs_noLst l
theorem names_noLst : ∀ ls : List (List Str), noLsts (ls.map nameD) = true
  | [] => rfl
  | l :: ls => by
    show (noLsts (l.map PyData.str) && noLsts (ls.map nameD)) = true
    rw [strs_noLst, names_noLst ls]
    rfl
end
end LN
namespace LN
open PySem PySem.Spec PyProof.Rows L2
theorem strOk_cat {x y : Str} (h : PyData.strOk x = true) (g : PyData.strOk y = true) : PyData.strOk (x ++ y) = true := by
  have h' : x.cps.all (· < 0x110000) = true := h
  have g' : y.cps.all (· < 0x110000) = true := g
  show (x.cps ++ y.cps).all (· < 0x110000) = true
  rw [Array.all_append, h', g']
  rfl
theorem mulOk0 (x : Str) : MulOk x 0 := ⟨by decide, fun h => absurd (by decide) h, fun h => absurd (by decide) h⟩
theorem mulOk1 (x : Str) : MulOk x 1 := ⟨by decide, fun _ h => absurd h (by simp), fun _ h => absurd h (by simp)⟩
theorem mul_0 (x : Str) : Txt.mul x 0 = Str.empty := rfl
theorem mul_1 (x : Str) : Txt.mul x 1 = x := rfl
theorem mul_few {x : Str} {k : Int} (h0 : 0 ≤ k) (h2 : k < 2) : MulOk x k ∧ (Txt.mul x k = Str.empty ∨ Txt.mul x k = x) := by
  have : k = 0 ∨ k = 1 := by omega
  rcases this with rfl | rfl
  · exact ⟨mulOk0 x, .inl rfl⟩
  · exact ⟨mulOk1 x, .inr rfl⟩
def stems : List Str := ["", "a", "zzzzzzz", "aaaaaaa"]
theorem stem_ok : ∀ x ∈ stems, PyData.strOk x = true ∧ x.length ≤ 7 := by decide +kernel
def letters : Str := "abcdefghijklmnopqrstuvwxyz"
theorem letters_at {i : Nat} (h : i < 26) : ∃ c, letters.cps[i]? = some c ∧ c < 0x110000 := by
  have all : ∀ j, j < 26 → ((letters.cps[j]?).elim false fun c => decide (c < 0x110000)) = true := by decide +kernel
  have := all i h
  cases e : letters.cps[i]? with
  | none => rw [e] at this; cases this
  | some c => rw [e] at this; exact ⟨c, rfl, of_decide_eq_true this⟩
theorem strOk_one {c : Nat} (h : c < 0x110000) : PyData.strOk ⟨#[c]⟩ = true := by
  show (#[c] : Array Nat).all (· < 0x110000) = true
  simp [h]
def spLabels : Sp := fun vs H Q _ => ∃ (b bc : Addr) (n : Nat), vs = [.ref b, .int n] ∧ Bag b bc H ∧ n ≤ 100 ∧
  ∀ H' p (ls : List Str), Drew b bc H H' → H p = none → H' p = some (.lst (ls.map V.str)) → Labs ls → (∀ x ∈ ls, x.length ≤ 10) → ls.length = n → Q (.ref p) H'
theorem bag_put {b bc D : Addr} {H : Hp} {o : HO} (h : Bag b bc H) (n : D ≠ b) (n2 : D ≠ bc) : Bag b bc (upd H D o) := by
  obtain ⟨x0, x1, x2, ns, h1, h2, h3, h4⟩ := h
  refine ⟨x0, x1, x2, ns, h1, by rw [upd_ne n.symm]; exact h2, by rw [upd_ne n2.symm]; exact h3, h4⟩
theorem Bag.there {b bc : Addr} {H : Hp} (h : Bag b bc H) : H b ≠ none ∧ H bc ≠ none := by
  obtain ⟨x0, x1, x2, ns, h1, h2, h3, h4⟩ := h
  rw [h2, h3]
  exact ⟨Option.some_ne_none _, Option.some_ne_none _⟩
theorem Bag.apart {b bc D : Addr} {H : Hp} (h : Bag b bc H) (e : H D = none) : D ≠ b ∧ D ≠ bc := ⟨fun z => h.there.1 (z ▸ e), fun z => h.there.2 (z ▸ e)⟩
/-- a list that was made behind H is changed -/
theorem Drew.put {b bc D : Addr} {H G : Hp} {o : HO} (d : Drew b bc H G) (h : Bag b bc H) (e : H D = none) : Drew b bc H (upd G D o) := by
  have n := h.apart e
  refine ⟨bag_put d.bag n.1 n.2, fun a u ne q => ?_, fun a q z => ?_⟩
  · rw [upd_ne (ne_of_none q e)]
    exact d.keep a u ne q
  · by_cases ea : a = D
    · rw [ea] at q
      exact q e
    · rw [upd_ne ea] at z
      exact d.held a q z
end LN
namespace LN
open PySem PySem.Spec PyProof.Rows L2
def spWord (K : PySem.W.Frag) : Sp := fun vs H Q _ => ∃ (b bc l : Addr) (ls : List Str) (lo hi : Nat), vs = [.ref b, .ref l, .int lo, .int hi] ∧ Bag b bc H ∧ l ≠ b ∧ SqL K H l (ls.map V.str) ∧ Labs ls ∧ 1 ≤ ls.length ∧ ls.length ≤ 1000 ∧ lo ≤ hi ∧ hi ≤ 90 ∧
  ∀ H' p nm, Drew b bc H H' → Nm K H' p nm → Labs nm → lo ≤ nm.length → nm.length ≤ hi → Q (.ref p) H'
def spMore (K : PySem.W.Frag) : Sp := fun vs H Q _ => ∃ (b bc l : Addr) (ls : List Str), vs = [.ref b, .ref l] ∧ Bag b bc H ∧ l ≠ b ∧ H l = some (.lst (ls.map V.str)) ∧ Labs ls ∧ (∀ x ∈ ls, x.length ≤ 10) ∧ 1 ≤ ls.length ∧ ls.length ≤ 100 ∧
  ∀ H' p ms, Drew b bc H H' → H p = none → H' p = some (.lst (ms.map V.str)) → Labs ms → 1 ≤ ms.length → ms.length ≤ 101 → Q (.ref p) H'
def spNear (K : PySem.W.Frag) : Sp := fun vs H Q _ => ∃ (b bc l a : Addr) (ls nm : List Str), vs = [.ref b, .ref l, .ref a] ∧ Bag b bc H ∧ l ≠ b ∧ SqL K H l (ls.map V.str) ∧ Labs ls ∧ 1 ≤ ls.length ∧ ls.length ≤ 1000 ∧ Nm K H a nm ∧ Labs nm ∧ nm.length ≤ 90 ∧
  ∀ H' p rs, Drew b bc H H' → Nm K H' p rs → Labs rs → rs.length ≤ nm.length + 1 → Q (.ref p) H'
def spRight (K : PySem.W.Frag) : Sp := fun vs H Q _ => ∃ (a c : Addr) (n t : List Str), vs = [.ref a, .ref c] ∧ Nm K H a n ∧ Nm K H c t ∧ Labs n ∧ Labs t ∧ n.length ≤ 49 ∧ t.length ≤ 49 ∧ ∀ H', Same H H' → Q (.bl true) H'
end LN
namespace LN
open PySem PySem.Spec PyProof.Rows L2
section
variable {X : Cx}
/-- t[lo:hi], the whole and any other part alike -/
def rSlD (K : PySem.W.Frag) : V → Option Int → Option Int → Hp → VK → Prop := fun x lo hi H Q => ∃ a xs, x = .ref a ∧ SqT K H a xs ∧ ∀ p H', Same H H' → SqT K H' p (cutV xs lo hi) → Q (.ref p) H'
theorem sl_tupD : SlR X (rSlD X.K) := by
  intro pins s σ H x v vl vu lo hi sl Q inv rx hs pl pu want
  obtain ⟨a, xs, rfl, hx, q⟩ := want
  refine sl_tupA pins s σ H _ v vl vu lo hi sl Q inv rx hs pl pu ⟨a, xs, rfl, hx, fun hw => q a H (Same.refl H) ?_, fun _ p np => q p _ (same_put np) (.inl (.inl upd_same))⟩
  have e : cutV xs lo hi = xs := by
    unfold cutV
    rw [hw.1, hw.2]
    simp
  rw [e]
  exact hx
/-- t + u, empty ones too -/
def rCatD (K : PySem.W.Frag) : R2 := fun x y H Q => ∃ a b xs ys, x = .ref a ∧ y = .ref b ∧ SqT K H a xs ∧ SqT K H b ys ∧ xs.length + ys.length ≤ sizeLine ∧ ∀ p H', Same H H' → SqT K H' p (xs ++ ys) → Q (.ref p) H'
theorem op_catD : OpR X (binaryOp .Add) (rCatD X.K) := by
  intro pins s σ H x y v u Q inv rx ry want
  obtain ⟨a, b, xs, ys, rfl, rfl, ha, hb, hz, q⟩ := want
  refine op_catA pins s σ H _ _ v u Q inv rx ry ⟨a, b, xs, ys, rfl, rfl, ha, hb, hz, fun e => q b H (Same.refl H) ?_, fun _ e => q a H (Same.refl H) ?_, fun _ _ p np => q p _ (same_put np) (.inl (.inl upd_same))⟩
  · rw [e]
    exact hb
  · rw [e, List.append_nil]
    exact ha
end
theorem cut_to {xs : List V} {k : Nat} : cutV xs none (some (k : Int)) = xs.take k := by
  unfold cutV
  rw [HT.sIx_none, HT.sIx_nat, List.drop_zero]
  by_cases h : k ≤ xs.length
  · rw [Nat.min_eq_left h, Nat.sub_zero]
  · rw [Nat.min_eq_right (by omega), Nat.sub_zero, List.take_length, List.take_of_length_le (by omega)]
theorem cut_from {xs : List V} {k : Nat} : cutV xs (some (k : Int)) none = xs.drop k := by
  unfold cutV
  rw [HT.sIx_none, HT.sIx_nat]
  by_cases h : k ≤ xs.length
  · rw [Nat.min_eq_left h]
    exact List.take_of_length_le (by simp)
  · rw [Nat.min_eq_right (by omega), List.drop_length, List.drop_of_length_le (by omega), List.take_nil]
end LN
namespace LN
open PySem PySem.Spec PyProof.Rows L2
section
variable {K : PySem.W.Frag} {H H' : Hp}
theorem dpa_strs : ∀ {l : List Str} {vs : List V}, DpAll K H vs (l.map PyData.str) → vs = l.map V.str
  | [], _, .nil => rfl
  | x :: l, _, .cons q r => by
    have e := dpa_strs (l := l) r
    cases q
    rw [e]
    rfl
theorem dp_nm {v : V} {l : List Str} (h : Dp K H v (nameD l)) : ∃ a, v = .ref a ∧ Nm K H a l := by
  have h' : Dp K H v (.tuple (l.map PyData.str)) := h
  cases h' with
  | tup q r =>
    have e := dpa_strs r
    rw [e] at q
    exact ⟨_, rfl, q⟩
theorem dpa_get : ∀ {vs : List V} {ds : List PyData} {i : Nat} {v : V}, DpAll K H vs ds → vs[i]? = some v → ∃ d, ds[i]? = some d ∧ Dp K H v d
  | _, _, _, _, .nil, e => by simp at e
  | _, _, 0, _, .cons q r, e => by
    have e' := Option.some.inj e
    exact ⟨_, rfl, e' ▸ q⟩
  | _, _, i + 1, _, .cons q r, e => by
    obtain ⟨d, h1, h2⟩ := dpa_get (i := i) r (by simpa using e)
    exact ⟨d, by simpa using h1, h2⟩
end
def heads (n : List Str) (i : Nat) : List (List Str) := (List.range i).map fun k => n.take k
def fits (n t : List Str) (i : Nat) : List (List Str) := (heads n i).filter fun h => decide (h ++ t = n)
theorem one_fit (n t h : List Str) : [h].filter (fun h => decide (h ++ t = n)) = if h ++ t = n then [h] else [] := by
  by_cases y : h ++ t = n
  · rw [if_pos y]
    simp [y]
  · rw [if_neg y]
    simp [y]
theorem range_only (c : Nat) : ∀ m, (List.range m).filter (fun k => decide (k = c)) = if c < m then [c] else []
  | 0 => rfl
  | m + 1 => by
    rw [List.range_succ, List.filter_append, range_only c m]
    by_cases h : c < m
    · rw [if_pos h, if_pos (by omega), List.filter_cons_of_neg (by simp; omega)]
      rfl
    · rw [if_neg h]
      by_cases e : m = c
      · subst e
        rw [if_pos (by omega), List.filter_cons_of_pos (by simp)]
        rfl
      · rw [if_neg (by omega), List.filter_cons_of_neg (by simp; exact e)]
        rfl
theorem take_fits {n t : List Str} {k : Nat} (h : k ≤ n.length) : n.take k ++ t = n ↔ t <:+ n ∧ k = n.length - t.length := by
  constructor
  · intro e
    have l := congrArg List.length e
    rw [List.length_append, List.length_take, Nat.min_eq_left h] at l
    exact ⟨⟨_, e⟩, by omega⟩
  · rintro ⟨⟨z, rfl⟩, rfl⟩
    have e : (z ++ t).length - t.length = z.length := by rw [List.length_append]; omega
    rw [e, List.take_left]
theorem fits_all {n t : List Str} : fits n t (n.length + 1) = if t <:+ n then [n.take (n.length - t.length)] else [] := by
  have e : fits n t (n.length + 1) = ((List.range (n.length + 1)).filter fun k => decide (t <:+ n ∧ k = n.length - t.length)).map fun k => n.take k := by
    unfold fits heads
    rw [List.filter_map]
    congr 1
    apply List.filter_congr
    intro k hk
    have := List.mem_range.mp hk
    exact decide_eq_decide.mpr (take_fits (by omega))
  rw [e]
  by_cases s : t <:+ n
  · rw [if_pos s]
    have e2 : (fun k => decide (t <:+ n ∧ k = n.length - t.length)) = fun k => decide (k = n.length - t.length) := by
      funext k
      exact decide_eq_decide.mpr ⟨fun z => z.2, fun z => ⟨s, z⟩⟩
    rw [e2, range_only, if_pos (by omega)]
    rfl
  · rw [if_neg s]
    have e2 : (fun k => decide (t <:+ n ∧ k = n.length - t.length)) = fun _ => false := by
      funext k
      exact decide_eq_false fun z => s z.1
    rw [e2, List.filter_eq_nil_iff.mpr (fun _ _ => Bool.false_ne_true)]
    rfl
end LN
namespace LN
open PySem PySem.Spec PyProof.Rows L2
/-- a tuple of two names -/
def Two (K : PySem.W.Frag) (H : Hp) (x : V) : Prop := ∃ (t u v : Addr) (n m : List Str), x = .ref t ∧ H t = some (.tup [.ref u, .ref v]) ∧ Nm K H u n ∧ Nm K H v m ∧ Labs n ∧ Labs m ∧ n.length ≤ 49 ∧ m.length ≤ 49
theorem Two.same {K : PySem.W.Frag} {H H' : Hp} {x : V} (h : Two K H x) (s : Same H H') : Two K H' x := by
  obtain ⟨t, u, v, n, m, e, h1, h2, h3, h4⟩ := h
  exact ⟨t, u, v, n, m, e, s _ _ h1, same_seqT s h2, same_seqT s h3, h4⟩
theorem good_tails {n : List Str} (h : Labs n) (k : n.length ≤ 90) : Good (.list ((tails n).map nameD)) 2 2100000 := by
  refine good_names (fun l hl => ?_) ?_
  · obtain ⟨i, _, rfl⟩ := List.mem_map.mp hl
    exact ⟨h.drop i, by rw [List.length_drop]; omega⟩
  · unfold tails
    rw [List.length_map, List.length_range]
    omega
end LN

namespace LN
open PySem PySem.Spec PyProof.Rows L2
set_option maxHeartbeats 4000000 in
theorem tuple_mul_same (l : Addr) (items : Array Value) (n : Nat) (dd : Option Addr) (sl : Array (Option Value)) (u : Tok) :
    Meets (Builtin.«tuple.__mul__» ⟨[.ref l, .int 1 u], []⟩) (fun _ R s => s.heap.get? l = some { cls := .type "tuple", dict := dd, data := .seq items n, slots := sl } ∧ R (.ok (.ret (.ref l))) s) :=
  .of_wp fun prog w A R s h => by
    obtain ⟨hp, g, d, tk, os⟩ := s
    obtain ⟨hl, h⟩ := h
    have f1 := AutoSeq1.idx_int
    wp_walk using wpAny_loadPart' hl
    exact ⟨_, rfl, h⟩
section
variable {X : Cx}
/-- t * k, k from 1 on -/
def rRepD (K : PySem.W.Frag) : R2 := fun x y H Q => ∃ l k xs, x = .ref l ∧ y = .int k ∧ SqT K H l xs ∧ xs ≠ [] ∧ 1 ≤ k ∧ k ≤ 1000 ∧ xs.length ≤ 1000 ∧ ∀ p H', Same H H' → SqT K H' p (List.replicate k.toNat xs).flatten → Q (.ref p) H'
theorem op_repD : OpR X (binaryOp .Mult) (rRepD X.K) := by
  intro pins s σ H x y v u Q inv rx ry want
  obtain ⟨l, k, xs, rfl, rfl, hT, ne, h1, h2, hz, q⟩ := want
  by_cases one : k = 1
  · subst one
    cases rx
    obtain ⟨t, rfl⟩ := ry
    obtain ⟨its, r, ⟨⟨cls, dd, data, sl⟩, ho, hc, n, hd⟩, hs⟩ := inv.tuple hT
    simp only at hc hd
    subst hc hd
    refine wpAny_binaryOp_repeat_ref (T := "tuple") (U := "int") (by decide) ⟨_, ho, rfl⟩ (fun s' => typeIs_int s' 1 t) noFill_tuple_mul F.fills_int_mul F.slot_int_rmul repeat_tuple F.slot_int_index.lookup
      (call_meets F.slot_int_rmul (typeIs_int s 1 t) F.entry_int_rmul (F.args_int_rmul_2 _ _) (int_rmul_tuple 1 t l its.toArray n dd sl)
        ⟨ho, rfl, ⟨_, ho, rfl⟩, call_meets F.slot_tuple_mul ⟨_, ho, rfl⟩ F.entry_tuple_mul (F.args_tuple_mul_2 _ _) (tuple_mul_same l its.toArray n dd sl t) ⟨ho, ?_⟩⟩)
    refine ⟨.ref l, H, inv, rfl, q l H (Same.refl H) ?_⟩
    have e : (List.replicate (1 : Int).toNat xs).flatten = xs := by
      show (List.replicate 1 xs).flatten = xs
      simp
    rw [e]
    exact hT
  · exact op_repT pins s σ H _ _ v u Q inv rx ry ⟨l, k, xs, rfl, rfl, hT, ne, by omega, h2, hz, fun p np => q p _ (same_put np) (.inl (.inl upd_same))⟩
end
end LN
namespace LN
open PySem PySem.Spec PyProof.Rows L2
def rLenK (K : PySem.W.Frag) : List V → Hp → VK → Prop := fun xs H Q => ∃ p ys, xs = [.ref p] ∧ (SqL K H p ys ∨ SqT K H p ys) ∧ Q (.int ys.length) H
theorem call_lenK {X : Cx} : CallR X (.builtin "len") (rLenK X.K) := call_len_seq
end LN

namespace LN
open PySem PySem.Spec PyProof.Rows L2
/-! own errors as values -/
/-- what is asked of an own error's class -/
structure ErrC (K : PySem.W.Frag) (C : Addr) : Prop where
  oex : OexC K C
  xf : XfC K C
  ca : PySem.W.findIn K (.ref C) "__class__" = some (some (.builtin "object.__class__"))
  cn : PySem.W.specialIn K (.builtin "object.__class__") "__get__" = some (some (.builtin "getset_descriptor.__get__"))
  ct : PySem.W.takesIn K (.builtin "object.__class__") = some true
  cm : PySem.W.mroIn K C (.type "object") = some true
/-- the error at a: its class, its dict, what it keeps -/
def Err (H : Hp) (a C d : Addr) (fs : List (Str × V)) : Prop := H a = some (exo a C (some d)) ∧ H d = some (exd d fs)
def tMkE (C : Addr) (sp : Sp) (ta : TA) : TE := fun σ H Q => ta σ H fun vs H1 => vs.length ≤ 1000 ∧ ∀ a, H1 a = none → sp (.ref a :: vs) (upd H1 a (exo a C none)) (fun v H2 => v = .non ∧ Q (.ref a) H2) (fun _ _ _ => False)
section
variable {X : Cx} {e : Expr} {es : List Expr} {ta : TA} {te : TE} {p pos : Pos}
theorem pe_error {CX : CXT} {x : Str} {C fI : Addr} {k : Nat} {fd : FuncData} {ps : List Str} {sp : Sp} (T : OexC X.K C) (iC : PySem.W.findIn X.K (.ref C) "__init__" = some (some (.ref fI))) (tI : PySem.W.typeIn X.K (.ref fI) = some (.type "function"))
    (F1 : FnOk X.prog X.w X.K X.mg X.base CX k fI fd ps sp) (hr : Room (k + 1) X.A) (hb : Binds X.K fd ps []) (hx : Passes CX X (fun _ _ _ => False)) (hg : Gl X x) (hm : X.mg x = some (.ref C)) (ha : PA X (e :: es) ta)
    (hdb : (x == ("__debug__" : Str)) = false := by decide) (he : starEach (e :: es) X.env = (false, eval e X.env) :: starEach es X.env := by rfl) (hpl : (backTo pos (starEach es X.env)).any (·.1) = false := by rfl) :
    PE X (.Call (.Name x p) (e :: es) [] pos) (tMkE C sp ta) := by
  refine ⟨fun pins s σ H Q I want => ?_⟩
  obtain ⟨nm, q, N, bs, bm, sn, sub, ab, col, dd, k0, k1, k2, k3, k5, hC, hbm⟩ := T.cls
  refine wpAny_Call_Name_kw (ld_glob I hg hm ?_ hdb)
  refine PySem.W.callWith_K (h₀ := X.base) I.ok.mod.kin T.kC (thn (ha.run pos pins s σ H _ I want) fun us s1 ⟨vs, H1, I1, r1, few, q1⟩ => ⟨I1.kIn, ?_⟩) he hpl
  show wpAny _ _ (call (.ref C) us) _ _ _
  obtain ⟨hp, g, dr, tk, os⟩ := s1
  have new := q1 (hp.objs.size + 1) (I1.hok.fresh (Nat.le_succ _))
  have I2 : Inv X pins σ (upd H1 (hp.objs.size + 1) (exo (hp.objs.size + 1) C none)) ⟨(hp.push (PySem.W.kdv_tup us)).push (PySem.HandSPX.excO C hp.objs.size), g, dr, tk, os⟩ :=
    I1.laid (t' := tk) (a := hp.objs.size + 1) (fun b o e => Heap.get?_push_of_some _ (Heap.get?_push_of_some _ e)) (Nat.le_succ _) (exo_ok (by heap_get))
  have r2 : Vals (V.ref (hp.objs.size + 1) :: vs) (Value.ref (hp.objs.size + 1) :: us) := .cons rfl r1
  have len : (Value.ref (hp.objs.size + 1) :: us ++ []).length = ps.length := by
    rw [List.append_nil, ← r2.length]
    exact F1.len _ _ _ _ new
  have line : us.length ≤ sizeLine := by rw [← Paired.length r1, sizeLine_eq]; omega
  have binds := hb ⟨(hp.push (PySem.W.kdv_tup us)).push (PySem.HandSPX.excO C hp.objs.size), g, dr, tk, os⟩ (Value.ref (hp.objs.size + 1) :: us) I2.kIn len
  rw [List.append_nil] at binds
  refine wpAny_call (PySem.HandSPX.call_own F.excBase_ValueError (fun Y => PySem.HandSPX.refsVE_contains Y bm hbm) (I1.kIn _ _ hC) (PySem.W.looks_findIn I1.kIn iC) (fun self => PySem.W.bind_fn I1.kIn self tI) line
    (codeAny_mono (F1.run _ X.stack _ _ ⟨Value.ref (hp.objs.size + 1) :: us, []⟩ (Value.ref (hp.objs.size + 1) :: us) _ _ (fun _ _ _ => False) (hr.make C us []) (I2.env0.make C us []) binds r2 new) fun r s' hq => ?_))
  cases r with
  | error er => exact hx pins σ _ _ er s' I2 hq
  | ok fl =>
    cases fl with
    | ret u =>
      obtain ⟨v, H3, I3, rv, ev, q3⟩ := I2.after hq
      subst ev
      exact ⟨rv, .ref (hp.objs.size + 1), H3, I3, rfl, q3⟩
    | next => exact False.elim hq
    | brk => exact False.elim hq
    | cont => exact False.elim hq
/-- err.f -/
def tErrF (K : PySem.W.Frag) (f : Str) (te : TE) : TE := fun σ H Q => te σ H fun x H1 => ∃ a C d fs v, x = .ref a ∧ Err H1 a C d fs ∧ XfC K C ∧ PySem.W.findIn K (.ref C) f = some none ∧ fs.lookup f = some v ∧ Q v H1
theorem pe_errf {n : Str} (he : PE X e te) (hb : attributeBase e n X.env (eval e X.env) = eval e X.env := by rfl) : PE X (.Attribute e n pos) (tErrF X.K n te) := by
  refine ⟨fun pins s σ H Q I want => ?_⟩
  refine attr_of hb (thn (he.run pins s σ H _ I want) fun u s1 got => ?_)
  obtain ⟨x, H1, I1, rx, a, C, d, fs, v, rfl, ⟨ea, ed⟩, T, hno, l, q⟩ := got
  obtain rfl : u = Value.ref a := rx
  obtain ⟨t1, ho⟩ := exo_at I1.hok ea
  obtain ⟨mA, hns, rel⟩ := exd_at I1.hok ed
  have hns' := hns
  obtain ⟨od, hod, hl⟩ := lookIn_ns hns
  obtain ⟨w', hw, rw'⟩ := RelO.some_of (v := v) (o := mA n) (by rw [← l]; exact rel n)
  exact HandSPX.exc_get I1.kIn ⟨ho, rfl, rfl, hod⟩ T.ga T.gg T.exC (PySem.W.findObj_own T.hdC hno rfl (by rw [hl, hw])) (handed_of rw') ⟨v, H1, I1.tok _, rw', q⟩
/-- C() of an own error without an __init__ of its own -/
theorem pe_error0 {x : Str} {C : Addr} {bmB : List Value} {B newId initId : String} (F : ExcBaseFacts B newId initId bmB) (q : PySem.W.excIn X.K C bmB newId = true) (hm : X.mg x = some (.ref C)) (kC : PySem.W.keepIn X.K (.ref C) = true) (hg : Gl X x)
    (hdb : (x == ("__debug__" : Str)) = false := by decide) : PE X (.Call (.Name x p) [] [] pos) (fun _ H Q => ∀ a, H a = none → Q (.ref a) (upd H a (exo a C none))) := by
  refine ⟨fun pins s σ H Q I want => ?_⟩
  refine wpAny_Call_Name_kw (ld_glob I hg hm ?_ hdb)
  refine PySem.W.callWith_K0 I.kIn kC ?_
  show wpAny _ _ (call (.ref C) []) _ _ _
  obtain ⟨bm, N, nm, qn, bs, hdct, sn, sub, ab, col, dd, k0, k1, k2, k3, k5, mN, hC, hN, hni, T⟩ := exc_obj I.kIn q
  refine wpAny_call_exc_subT F T hC hN hni (fun h' e made => ?_) (by show 0 ≤ sizeLine; decide)
  obtain ⟨t, he, _, _⟩ := made.there
  have free := I.hok.gone made.new
  exact ⟨.ref e, _, I.laidN (t' := s.toks) made.keeps made.new free (exo_ok he), rfl, want e free⟩
/-- isinstance(err, c) -/
theorem call_isErr : CallR X (.builtin "isinstance") (fun xs H Q => ∃ (a C : Addr) (d : Option Addr) (c : V) (cv : Value) (b : Bool), xs = [.ref a, c] ∧ H a = some (exo a C d) ∧ (∀ dd, d = some dd → ∃ fs, H dd = some (exd dd fs)) ∧ ErrC X.K C ∧ (∀ u, RelV c u → u = cv) ∧ PySem.W.kitOne X.K (.ref C) cv = some b ∧ Q (.bl b) H) := by
  intro pins s σ H xs us Q I r want
  obtain ⟨a, C, d, c, cv, b, rfl, ea, ed, T, hcv, e, q⟩ := want
  obtain ⟨u1, u2, rfl, r1, r2⟩ := vals2 r
  obtain rfl : u1 = Value.ref a := r1
  rw [hcv _ r2]
  obtain ⟨t1, ho⟩ := exo_at I.hok ea
  obtain ⟨od, at_⟩ : ∃ od, PySem.W.InstAt s.heap a { cls := .ref C, dict := d, data := .fields #[.ref t1, .none, .none, .none, .bool false, .none] } C od := by
    cases d with
    | none => exact ⟨none, ho, rfl, rfl, trivial⟩
    | some dd =>
      obtain ⟨fs, ed⟩ := ed dd rfl
      obtain ⟨mA, hns, _⟩ := exd_at I.hok ed
      obtain ⟨od, hod, _⟩ := lookIn_ns hns
      exact ⟨some od, ho, rfl, rfl, hod⟩
  have there : (PySem.W.clsIn X.K C).isSome = true := by
    obtain ⟨cd, hc, _⟩ := PySem.W.any_some T.xf.hdC
    rw [hc]
    rfl
  exact PySem.W.kia_one (PySem.W.kitx_exc there T.xf.ga T.xf.gg T.xf.exC T.ca T.cn T.ct T.cm) I.kIn at_ e (fun z => nomatch z) fun tk => ⟨.bl b, H, I.kept (t' := tk) fun _ _ z => z, rfl, q⟩
end
end LN

namespace LN
open PySem PySem.Spec PyProof.Rows L2
/-! an error and its fields -/
def ErrAt (H : Hp) (a C : Addr) (fs : List (Str × V)) : Prop := ∃ d : Option Addr, H a = some (exo a C d) ∧ match d with
  | none => fs = []
  | some dd => H dd = some (exd dd fs)
theorem ErrAt.keep {H H' : Hp} {a C : Addr} {fs : List (Str × V)} (h : ErrAt H a C fs) (s : ∀ b o, H b = some o → (∀ xs, o ≠ .lst xs) → H' b = some o) : ErrAt H' a C fs := by
  obtain ⟨d, e, q⟩ := h
  refine ⟨d, s _ _ e (fun xs z => by have z' : HO.ext _ = HO.lst xs := z; cases z'), ?_⟩
  cases d with
  | none => exact q
  | some dd => exact s _ _ q (fun xs z => by have z' : HO.ext _ = HO.lst xs := z; cases z')
theorem ErrAt.same {H H' : Hp} {a C : Addr} {fs : List (Str × V)} (h : ErrAt H a C fs) (s : Same H H') : ErrAt H' a C fs := h.keep fun b o e _ => s b o e
/-- an __init__ that keeps its arguments -/
def spEI (C : Addr) (fn : List Str) : Sp := fun vs H Q _ => ∃ (a : Addr) (ws : List V), vs = .ref a :: ws ∧ ws.length = fn.length ∧ H a = some (exo a C none) ∧ ∀ H', (∀ b o, H b = some o → b ≠ a → H' b = some o) → ErrAt H' a C (fn.zip ws).reverse → Q .non H'
section
variable {P : Program} {w : World} {K : PySem.W.Frag} {mg : Str → Option Value} {base : Heap} {C fI : Addr} {fd : FuncData} {qual f f1 f2 f3 : Str} {st : Stmt}
theorem ok_ei1 {q1 q2 q3 q4 : Pos} (F : L2.Fun K "__init__" qual st fI fd) (T : OexC K C) (no : PySem.W.findIn K (.ref C) f = some none)
    (sc : FnScope ["self", f] ["self", f] (defScope st)) (loc1 : (defScope st).names.lookup ("self" : Str) = some NameKind.local) (loc2 : (defScope st).names.lookup f = some NameKind.local) (hf : (f == ("__debug__" : Str)) = false) (hcd : (f == ("__classdict__" : Str)) = false)
    (body : defBody st = [.Assign [.Attribute (.Name "self" q1) f q2] (.Name f q3) q4]) : FnOk P w K mg base CX0 1 fI fd ["self", f] (spEI C [f]) := by
  refine F.ok sc (fun vs H Q E h => ?_) (fun cdv A outer s H vs Q E hr h => ?_)
  · obtain ⟨a, ws, rfl, hl, _⟩ := h
    obtain ⟨v, rfl⟩ := List.length_eq_one_iff.mp hl
    rfl
  obtain ⟨a, ws, rfl, hl, ha, q⟩ := h
  obtain ⟨v, rfl⟩ := List.length_eq_one_iff.mp hl
  rw [body]
  refine ⟨_, pss_one (ps_ost (pe_var (i := 0) rfl (.inl loc1)) (pe_var (i := 1) rfl (.inl loc2) hf hcd)), ?_⟩
  refine ⟨v, rfl, .ref a, rfl, a, C, rfl, T, no, .inl ⟨ha, fun dx nd ne => ?_⟩⟩
  refine q _ (fun b o e nb => ?_) ⟨some dx, upd_same, ?_⟩
  · rw [upd_ne nb, upd_ne (ne_of_none e nd)]
    exact e
  · show upd (upd H dx (exd dx [(f, v)])) a (exo a C (some dx)) dx = _
    rw [upd_ne ne, upd_same]
    rfl
theorem ok_ei3 {q1 q2 q3 q4 r1 r2 r3 r4 t1 t2 t3 t4 : Pos} (F : L2.Fun K "__init__" qual st fI fd) (T : OexC K C) (no1 : PySem.W.findIn K (.ref C) f1 = some none) (no2 : PySem.W.findIn K (.ref C) f2 = some none) (no3 : PySem.W.findIn K (.ref C) f3 = some none)
    (sc : FnScope ["self", f1, f2, f3] ["self", f1, f2, f3] (defScope st)) (loc0 : (defScope st).names.lookup ("self" : Str) = some NameKind.local) (loc1 : (defScope st).names.lookup f1 = some NameKind.local) (loc2 : (defScope st).names.lookup f2 = some NameKind.local) (loc3 : (defScope st).names.lookup f3 = some NameKind.local)
    (hf1 : (f1 == ("__debug__" : Str)) = false) (hc1 : (f1 == ("__classdict__" : Str)) = false) (hf2 : (f2 == ("__debug__" : Str)) = false) (hc2 : (f2 == ("__classdict__" : Str)) = false) (hf3 : (f3 == ("__debug__" : Str)) = false) (hc3 : (f3 == ("__classdict__" : Str)) = false)
    (body : defBody st = [.Assign [.Attribute (.Name "self" q1) f1 q2] (.Name f1 q3) q4, .Assign [.Attribute (.Name "self" r1) f2 r2] (.Name f2 r3) r4, .Assign [.Attribute (.Name "self" t1) f3 t2] (.Name f3 t3) t4]) : FnOk P w K mg base CX0 1 fI fd ["self", f1, f2, f3] (spEI C [f1, f2, f3]) := by
  refine F.ok sc (fun vs H Q E h => ?_) (fun cdv A outer s H vs Q E hr h => ?_)
  · obtain ⟨a, ws, rfl, hl, _⟩ := h
    rw [List.length_cons, hl]
    rfl
  obtain ⟨a, ws, rfl, hl, ha, q⟩ := h
  obtain ⟨v1, v2, v3, rfl⟩ : ∃ v1 v2 v3, ws = [v1, v2, v3] := by
    match ws, hl with
    | [v1, v2, v3], _ => exact ⟨v1, v2, v3, rfl⟩
  rw [body]
  refine ⟨_, pss_cons (ps_ost (pe_var (i := 0) rfl (.inl loc0)) (pe_var (i := 1) rfl (.inl loc1) hf1 hc1)) (pss_cons (ps_ost (pe_var (i := 0) rfl (.inl loc0)) (pe_var (i := 2) rfl (.inl loc2) hf2 hc2)) (pss_one (ps_ost (pe_var (i := 0) rfl (.inl loc0)) (pe_var (i := 3) rfl (.inl loc3) hf3 hc3)))), ?_⟩
  refine ⟨v1, rfl, .ref a, rfl, a, C, rfl, T, no1, .inl ⟨ha, fun dx nd ne => ?_⟩⟩
  refine ⟨v2, rfl, .ref a, rfl, a, C, rfl, T, no2, .inr ⟨dx, [(f1, v1)], upd_same, by rw [upd_ne ne, upd_same], by show 1 ≤ 900; decide, ?_⟩⟩
  refine ⟨v3, rfl, .ref a, rfl, a, C, rfl, T, no3, .inr ⟨dx, [(f2, v2), (f1, v1)], by rw [upd_ne (Ne.symm ne), upd_same], upd_same, by show 2 ≤ 900; decide, ?_⟩⟩
  refine q _ (fun b o e nb => ?_) ⟨some dx, ?_, upd_same⟩
  · have nd' := ne_of_none e nd
    rw [upd_ne nd', upd_ne nd', upd_ne nb, upd_ne nd']
    exact e
  · rw [upd_ne (Ne.symm ne), upd_ne (Ne.symm ne), upd_same]
end
/-- such a class -/
structure EInit (P : Program) (w : World) (K : PySem.W.Frag) (mg : Str → Option Value) (base : Heap) (x : Str) (C : Addr) (fn : List Str) : Prop where
  oex : OexC K C
  ex : ∃ fI fd, PySem.W.findIn K (.ref C) "__init__" = some (some (.ref fI)) ∧ PySem.W.typeIn K (.ref fI) = some (.type "function") ∧ FnOk P w K mg base CX0 1 fI fd ("self" :: fn) (spEI C fn) ∧ Binds K fd ("self" :: fn) []
  m : mg x = some (.ref C)
section
variable {X : Cx} {e : Expr} {es : List Expr} {ta : TA} {te : TE} {p pos : Pos}
theorem pe_mkE {x : Str} {C : Addr} {fn : List Str} (T : EInit X.prog X.w X.K X.mg X.base x C fn) (hr : Room 2 X.A) (hx : Passes CX0 X (fun _ _ _ => False)) (ha : PA X (e :: es) ta) (hg : Gl X x := by rfl)
    (hdb : (x == ("__debug__" : Str)) = false := by decide) (he : starEach (e :: es) X.env = (false, eval e X.env) :: starEach es X.env := by rfl) (hpl : (backTo pos (starEach es X.env)).any (·.1) = false := by rfl) :
    PE X (.Call (.Name x p) (e :: es) [] pos) (tMkE C (spEI C fn) ta) := by
  obtain ⟨fI, fd, iC, tI, F1, hb⟩ := T.ex
  exact pe_error T.oex iC tI F1 hr hb hx hg T.m ha hdb he hpl
theorem mkE_of {C : Addr} {fn : List Str} {vs : List V} {H1 : Hp} {Q : Addr → Hp → Prop} (h1 : vs.length ≤ 1000) (h2 : vs.length = fn.length) (h : ∀ H2 a, Same H1 H2 → ErrAt H2 a C (fn.zip vs).reverse → Q a H2) :
    vs.length ≤ 1000 ∧ ∀ a, H1 a = none → spEI C fn (.ref a :: vs) (upd H1 a (exo a C none)) (fun v H2 => v = .non ∧ Q a H2) (fun _ _ _ => False) := by
  refine ⟨h1, fun a na => ⟨a, vs, rfl, h2, upd_same, fun H' kp er => ⟨rfl, h H' a (fun b o e => ?_) er⟩⟩⟩
  have nb := ne_of_none e na
  exact kp b o (by rw [upd_ne nb]; exact e) nb
theorem err0 {H : Hp} {e : Addr} (m : H e = none) (C : Addr) : ErrAt (upd H e (exo e C none)) e C [] := ⟨none, upd_same, rfl⟩
theorem isE_of {K : PySem.W.Frag} {a C D : Addr} {fs : List (Str × V)} {b : Bool} {H : Hp} {Q : Bool → Prop} (h : ErrAt H a C fs) (T : ErrC K C) (k : PySem.W.kitOne K (.ref C) (.ref D) = some b) (q : Q b) :
    ∃ (a' C : Addr) (d : Option Addr) (c : V) (cv : Value) (b : Bool), [V.ref a, V.ref D] = [.ref a', c] ∧ H a' = some (exo a' C d) ∧ (∀ dd, d = some dd → ∃ fs, H dd = some (exd dd fs)) ∧ ErrC K C ∧ (∀ u, RelV c u → u = cv) ∧ PySem.W.kitOne K (.ref C) cv = some b ∧ Q b := by
  obtain ⟨d, e, z⟩ := h
  exact ⟨a, C, d, .ref D, .ref D, b, rfl, e, fun dd y => by subst y; exact ⟨fs, z⟩, T, fun u r => r, k, q⟩
theorem isE_ty {K : PySem.W.Frag} {a C : Addr} {n : String} {fs : List (Str × V)} {b : Bool} {H : Hp} {Q : Bool → Prop} (h : ErrAt H a C fs) (T : ErrC K C) (k : PySem.W.kitOne K (.ref C) (.type n) = some b) (q : Q b) :
    ∃ (a' C : Addr) (d : Option Addr) (c : V) (cv : Value) (b : Bool), [V.ref a, V.ty n] = [.ref a', c] ∧ H a' = some (exo a' C d) ∧ (∀ dd, d = some dd → ∃ fs, H dd = some (exd dd fs)) ∧ ErrC K C ∧ (∀ u, RelV c u → u = cv) ∧ PySem.W.kitOne K (.ref C) cv = some b ∧ Q b := by
  obtain ⟨d, e, z⟩ := h
  exact ⟨a, C, d, .ty n, .type n, b, rfl, e, fun dd y => by subst y; exact ⟨fs, z⟩, T, fun u r => r, k, q⟩
theorem errF_of {K : PySem.W.Frag} {f : Str} {a C : Addr} {fs : List (Str × V)} {v : V} {H : Hp} {Q : V → Prop} (h : ErrAt H a C fs) (T : XfC K C) (no : PySem.W.findIn K (.ref C) f = some none) (l : fs.lookup f = some v) (q : Q v) :
    ∃ a' C d fs v, V.ref a = .ref a' ∧ Err H a' C d fs ∧ XfC K C ∧ PySem.W.findIn K (.ref C) f = some none ∧ fs.lookup f = some v ∧ Q v := by
  obtain ⟨d, e, z⟩ := h
  cases d with
  | none =>
    have z' : fs = [] := z
    subst z'
    cases l
  | some dd => exact ⟨a, C, dd, fs, v, rfl, ⟨e, z⟩, T, no, l, q⟩
end
/-! what is drawn -/
inductive Fl : V → PyData → Prop
  | non : Fl .non .none
  | bl (b : Bool) : Fl (.bl b) (.bool b)
  | int (i : Int) : Fl (.int i) (.int i)
  | str (x : Str) : Fl (.str x) (.str x)
structure Sm (k n : Nat) (d : PyData) : Prop where
  shows : d.showable = true
  deep : d.depth ≤ k
  len : d.shown.length ≤ n
def FlS (v : V) (d : PyData) : Prop := Fl v d ∧ Sm 0 45 d
inductive Vx (K : PySem.W.Frag) (H : Hp) (n : Nat) : V → PyData → Prop
  | flat {v : V} {d : PyData} : FlS v d → Vx K H n v d
  | tup {a : Addr} {xs : List V} {ds : List PyData} : SqT K H a xs → Paired FlS xs ds → xs.length ≤ 4 → Vx K H n (.ref a) (.tuple ds)
  | emp {a : Addr} : H a = some (.dK []) → Vx K H n (.ref a) (.dict [])
  | lst {a : Addr} {xs : List V} {ds : List PyData} : H a = some (.lst xs) → a ≠ sysModules → Paired FlS xs ds → xs.length ≤ n → Vx K H n (.ref a) (.list ds)
theorem paired_mem {α β : Type} {R : α → β → Prop} {Q : β → Prop} (h : ∀ a b, R a b → Q b) : ∀ {l : List α} {m : List β}, Paired R l m → ∀ b ∈ m, Q b
  | _, _, .nil, _, z => absurd z List.not_mem_nil
  | _, _, .cons r t, b, z => (List.mem_cons.mp z).elim (fun e => e ▸ h _ _ r) (paired_mem h t b)
theorem Sm.mono {k n k' n' : Nat} {d : PyData} (h : Sm k n d) (a : k ≤ k') (b : n ≤ n') : Sm k' n' d := ⟨h.shows, Nat.le_trans h.deep a, Nat.le_trans h.len b⟩
theorem Sm.list {ds : List PyData} {k n m : Nat} (h : ∀ d ∈ ds, Sm k n d) (l : ds.length ≤ m) : Sm (k + 1) (2 + m * (n + 2)) (.list ds) := by
  refine ⟨all_shows fun d hd => (h d hd).shows, Nat.succ_le_succ (all_deep fun d hd => (h d hd).deep), ?_⟩
  show (listText (PyData.shownAll ds)).length ≤ _
  have h1 := listText_le (PyData.shownAll ds)
  have h2 := piled_le fun d hd => (h d hd).len
  have h3 := Nat.mul_le_mul_right (n + 2) l
  omega
theorem Sm.tuple {ds : List PyData} {k n m : Nat} (h : ∀ d ∈ ds, Sm k n d) (l : ds.length ≤ m) : Sm (k + 1) (3 + m * (n + 2)) (.tuple ds) := by
  refine ⟨all_shows fun d hd => (h d hd).shows, Nat.succ_le_succ (all_deep fun d hd => (h d hd).deep), ?_⟩
  show (tupleText (PyData.shownAll ds)).length ≤ _
  have h1 := tupleText_le (PyData.shownAll ds)
  have h2 := piled_le fun d hd => (h d hd).len
  have h3 := Nat.mul_le_mul_right (n + 2) l
  omega
theorem Vx.sm {K : PySem.W.Frag} {H : Hp} {n : Nat} {v : V} {d : PyData} (h : Vx K H n v d) (hn : n ≤ 4) : Sm 1 200 d := by
  cases h with
  | flat q => exact q.2.mono (by decide) (by decide)
  | tup h1 h2 h3 => exact (Sm.tuple (m := 4) (paired_mem (fun _ _ q => q.2) h2) (by rw [← Paired.length h2]; exact h3)).mono (by decide) (by decide)
  | emp _ => exact ⟨rfl, by decide, by decide⟩
  | lst h1 _ h2 h3 => exact (Sm.list (m := 4) (paired_mem (fun _ _ q => q.2) h2) (by rw [← Paired.length h2]; exact Nat.le_trans h3 hn)).mono (by decide) (by decide)
section
variable {X : Cx} {pins : List (Addr × Obj)} {σ : L2.St} {H : Hp} {s : Shared}
theorem fl_reads {h : Heap} {v : V} {d : PyData} {u : Value} (f : Fl v d) (r : RelV v u) : Reads h u d [] := by
  cases f with
  | non => cases (show u = Value.none from r); exact .none
  | bl b => cases (show u = Value.bool b from r); exact .bool b
  | int i => obtain ⟨t, rfl⟩ := r; exact .int i t
  | str x => obtain ⟨t, rfl⟩ := r; exact .str x t
theorem fls_reads {h : Heap} : ∀ {vs : List V} {ds : List PyData} {us : List Value}, Paired FlS vs ds → Vals vs us → ReadsAll h us ds []
  | _, _, _, .nil, .nil => .nil
  | _, _, _, .cons f t, .cons r t' => .cons (as := []) (bs := []) (fl_reads f.1 r) (fls_reads t t')
theorem Vx.reads (I : Inv X pins σ H s) {n : Nat} {v : V} {d : PyData} {u : Value} (h : Vx X.K H n v d) (r : RelV v u) : ∃ as, Reads s.heap u d as ∧ sysModules ∉ as := by
  cases h with
  | flat q => exact ⟨[], fl_reads q.1 r, List.not_mem_nil⟩
  | tup h1 h2 _ =>
    cases (show u = Value.ref _ from r)
    obtain ⟨its, rv, ⟨o, ho, hc, m, hd⟩, _⟩ := I.tuple h1
    exact ⟨[], .tuple ho hc hd (by simpa using fls_reads h2 rv), List.not_mem_nil⟩
  | emp h1 =>
    rename_i a
    cases (show u = Value.ref a from r)
    obtain ⟨_, off, vs, kv, o, es, ep, ho, ex, hd, _, prs, _⟩ := dk_of I.hok h1
    cases kv
    have len := prs.length
    have nil : es.toList = [] := List.length_eq_zero_iff.mp len
    refine ⟨a :: [] ++ [], .dict ho ex.1 hd (by rw [nil]; exact .nil) (by rw [nil]; exact .nil), fun m => ?_⟩
    simp only [List.append_nil, List.mem_singleton] at m
    exact absurd m.symm (beq_eq_false_iff_ne.mp off)
  | lst h1 h0 h2 _ =>
    rename_i xs a ds
    cases (show u = Value.ref _ from r)
    obtain ⟨_, its, m, rv, ho⟩ := (show ObjOk X.prog X.w H s.heap _ (.lst _) from I.hok _ _ h1)
    refine ⟨[_], .list ho rfl rfl (by simpa using fls_reads h2 rv), fun z => ?_⟩
    rw [List.mem_singleton] at z
    exact h0 z.symm
theorem vxs_reads (I : Inv X pins σ H s) {n : Nat} : ∀ {vs : List V} {ds : List PyData} {us : List Value}, Paired (Vx X.K H n) vs ds → Vals vs us → ∃ as, ReadsAll s.heap us ds as ∧ sysModules ∉ as
  | _, _, _, .nil, .nil => ⟨[], .nil, List.not_mem_nil⟩
  | _, _, _, .cons f t, .cons r t' => by
    obtain ⟨as, h1, h2⟩ := f.reads I r
    obtain ⟨bs, h3, h4⟩ := vxs_reads I t t'
    exact ⟨as ++ bs, .cons h1 h3, fun z => (List.mem_append.mp z).elim h2 h4⟩
end
section
variable {X : Cx}
/-! lists that are new, and stand behind what the world began with -/
def tLstN (ta : TA) : TE := fun σ H Q => ta σ H fun xs G => xs.length ≤ sizeLine ∧ ∀ p, G p = none → p ≠ sysModules → Q (.ref p) (upd G p (.lst xs))
theorem pe_lstN {es : List Expr} {ta : TA} {pos : Pos} (h : PA X es ta) : PE X (.List es pos) (tLstN ta) := by
  constructor
  intro pins s σ H Q I want
  apply wpAny_List_spliced
  apply thn (h.run pos pins s σ H _ I want)
  rintro us s1 ⟨xs, G, J, r, few, q⟩
  refine ⟨by rw [← r.length]; exact few, ?_⟩
  have big := J.big
  exact ⟨.ref s1.heap.objs.size, _, J.lnew (t' := s1.toks) r few, rfl, q _ J.fresh (Nat.ne_of_gt big)⟩
def rCatN : R2 := fun x y G Q => ∃ a b xs ys, x = .ref a ∧ y = .ref b ∧ G a = some (.lst xs) ∧ G b = some (.lst ys) ∧ xs.length + ys.length ≤ sizeLine ∧ ∀ p, G p = none → p ≠ sysModules → Q (.ref p) (upd G p (.lst (xs ++ ys)))
theorem op_catN : OpR X (binaryOp .Add) rCatN := by
  intro pins s σ G x y v u Q J r1 r2 want
  obtain ⟨a, b, xs, ys, rfl, rfl, ea, eb, few, q⟩ := want
  cases r1
  cases r2
  obtain ⟨_, us, _, ru, lu, au⟩ := J.lstM ea
  obtain ⟨_, ws, _, rw_, lw, aw⟩ := J.lstM eb
  apply PySem.P.add_list au aw _ (by rw [List.size_toArray, List.size_toArray]; omega)
  have big := J.big
  rw [show us.toArray ++ ws.toArray = (us ++ ws).toArray by simp]
  exact ⟨.ref _, _, J.lnew (t' := s.toks) (ru.append rw_) (by rw [List.length_append]; omega), rfl, q _ J.fresh (Nat.ne_of_gt big)⟩
theorem cr_reprV (quiet : Quiet X.A) (hu : X.A.units + 70 < cLine) : CallR X (.builtin "repr") (fun xs H Q => ∃ a vs ds n, xs = [.ref a] ∧ H a = some (.lst vs) ∧ a ≠ sysModules ∧ Paired (Vx X.K H n) vs ds ∧ n ≤ 4 ∧ vs.length ≤ 100 ∧ Q (.str (PyData.list ds).shown) H) := by
  intro pins s σ H xs us Q inv rel want
  obtain ⟨a, vs, ds, n, rfl, ha, off, hp, hn, hl, q⟩ := want
  obtain ⟨u, rfl, ru⟩ := vals1 rel
  obtain rfl : u = Value.ref a := ru
  obtain ⟨_, its, m, rv, ho⟩ := (show ObjOk X.prog X.w H s.heap a (.lst vs) from inv.hok a _ ha)
  obtain ⟨as, h1, h2⟩ := vxs_reads inv hp rv
  have rd : Reads s.heap (.ref a) (.list ds) (a :: as) := .list ho rfl rfl (by simpa using h1)
  have sm : Sm 2 20202 (.list ds) := Sm.list (m := 100) (paired_mem (fun _ _ q => Vx.sm q hn) hp) (by rw [← Paired.length hp]; exact hl)
  have dp := sm.deep
  refine repr_of_reads' rd sm.shows (fun _ z => ?_) quiet (by omega) (fun _ _ e => e) ?_ (Nat.le_trans sm.len (by decide))
  · exact (List.mem_cons.mp z).elim (fun e => off e.symm) h2
  intro h' u tk hk
  exact ⟨.str (PyData.list ds).shown, H, inv.un (t' := tk) (Un.kept hk) (inv.hok.kept hk), ⟨u, rfl⟩, q⟩
end
theorem vx_eq {K : PySem.W.Frag} {H : Hp} {n : Nat} : ∀ {vs : List V} {ds : List PyData}, Paired (Vx K H n) vs ds → Paired (EqV K H 1) vs vs
  | _, _, .nil => .nil
  | _, _, .cons h t => .cons (by
      cases h with
      | flat q =>
        refine .inl ⟨rfl, ?_⟩
        obtain ⟨q, _⟩ := q
        cases q <;> rfl
      | tup => exact .inr (.inl ⟨_, rfl, rfl⟩)
      | emp => exact .inr (.inl ⟨_, rfl, rfl⟩)
      | lst => exact .inr (.inl ⟨_, rfl, rfl⟩)) (vx_eq t)
end LN

namespace LN
open PySem PySem.Spec PyProof.Rows L2
/-! what an own error's class must have, as one check -/
def veNew : String := "ValueError.__new__"
def veBase : List Value := [.type "ValueError", .type "Exception", .type "BaseException", .type "object"]
def clsB (K : PySem.W.Frag) (C : Addr) : Bool := match K.lookup C with
  | some ⟨.type "type", _, .cls cd, sl⟩ => (match cd.mro, sl.toList with
    | .ref D :: bm, [_, _, _, _, some (.builtin n), _] => D == C && (n == veNew && (!cd.hasDel && (cd.hasDict && PySem.HandSPX.refsVE bm)))
    | _, _ => false)
  | _ => false
theorem clsB_ok {K : PySem.W.Frag} {C : Addr} (h : clsB K C = true) : ∃ nm q N bs bm sn sub ab col dd k0 k1 k2 k3 k5, K.lookup C = some (excClassObj nm q C N bs bm true sn sub ab col dd k0 k1 k2 k3 k5 "ValueError.__new__") ∧ PySem.HandSPX.refsVE bm = true := by
  unfold clsB at h
  split at h
  · rename_i dd cd sl ho
    split at h
    · rename_i D bm k0 k1 k2 k3 n k5 hm hs
      simp only [Bool.and_eq_true, beq_iff_eq, Bool.not_eq_true'] at h
      obtain ⟨rfl, rfl, hdel, hd, hv⟩ := h
      obtain ⟨nm, bs, mro, ns, qn, hd', sn, sub, ab, col, del⟩ := cd
      dsimp only at hm hdel hd
      subst hm hdel hd
      have hsl : sl = #[k0, k1, k2, k3, some (.builtin veNew), k5] := by
        obtain ⟨l⟩ := sl
        simp only at hs
        rw [hs]
      subst hsl
      exact ⟨nm, qn, ns, bs, bm, sn, sub, ab, col, dd, k0, k1, k2, k3, k5, ho, hv⟩
    · cases h
  · cases h
def errB (K : PySem.W.Frag) (C : Addr) : Bool := clsB K C && (decide (PySem.W.findIn K (.ref C) "__setattr__" = some (some (.builtin "object.__setattr__"))) && (decide (PySem.W.subIn K (.ref C) (.type "BaseException") = some true) && (decide (PySem.W.typeIn K (.ref C) = some (.type "type")) && (PySem.W.keepIn K (.ref C) && (xfB K C &&
  (decide (PySem.W.findIn K (.ref C) "__class__" = some (some (.builtin "object.__class__"))) && (decide (PySem.W.specialIn K (.builtin "object.__class__") "__get__" = some (some (.builtin "getset_descriptor.__get__"))) && (decide (PySem.W.takesIn K (.builtin "object.__class__") = some true) && decide (PySem.W.mroIn K C (.type "object") = some true)))))))))
theorem errB_ok {K : PySem.W.Frag} {C : Addr} (h : errB K C = true) : ErrC K C := by
  unfold errB at h
  simp only [Bool.and_eq_true, decide_eq_true_eq] at h
  obtain ⟨h1, h2, h3, h4, h5, h6, h7, h8, h9, h10⟩ := h
  exact ⟨⟨clsB_ok h1, h2, h3, h4, h5⟩, xfB_ok h6, h7, h8, h9, h10⟩
/-- nineteen such classes under one, none under another one -/
def tabB (K : PySem.W.Frag) (Cs : List Addr) (L : Addr) : Bool := errB K L && (Cs.all (errB K) && ((List.range Cs.length).all (fun i => (List.range Cs.length).all fun j => decide (PySem.W.kitOne K (.ref (Cs.getD i 0)) (.ref (Cs.getD j 0)) = some (decide (i = j)))) &&
  (Cs.all (fun C => decide (PySem.W.kitOne K (.ref L) (.ref C) = some false) && (decide (PySem.W.kitOne K (.ref C) (.ref L) = some true) && decide (PySem.W.kitOne K (.ref C) (.type "ValueError") = some true))))))
structure Tab (K : PySem.W.Frag) (n : Nat) (E : Nat → Addr) (L : Addr) : Prop where
  low : ErrC K L
  ec : ∀ i, i < n → ErrC K (E i)
  kk : ∀ i j, i < n → j < n → PySem.W.kitOne K (.ref (E i)) (.ref (E j)) = some (decide (i = j))
  lk : ∀ j, j < n → PySem.W.kitOne K (.ref L) (.ref (E j)) = some false
  up : ∀ i, i < n → PySem.W.kitOne K (.ref (E i)) (.ref L) = some true
  uv : ∀ i, i < n → PySem.W.kitOne K (.ref (E i)) (.type "ValueError") = some true
theorem tab_of {K : PySem.W.Frag} {Cs : List Addr} {L : Addr} (h : tabB K Cs L = true) : Tab K Cs.length (fun i => Cs.getD i 0) L := by
  unfold tabB at h
  simp only [Bool.and_eq_true, List.all_eq_true, decide_eq_true_eq, List.mem_range] at h
  obtain ⟨h1, h2, h3, h4⟩ := h
  have mem : ∀ i, i < Cs.length → Cs.getD i 0 ∈ Cs := fun i hi => by
    rw [List.getD_eq_getElem?_getD, List.getElem?_eq_getElem hi]
    exact List.getElem_mem hi
  exact ⟨errB_ok h1, fun i hi => errB_ok (h2 _ (mem i hi)), fun i j hi hj => h3 i hi j hj, fun j hj => (h4 _ (mem j hj)).1, fun i hi => (h4 _ (mem i hi)).2.1, fun i hi => (h4 _ (mem i hi)).2.2⟩
end LN

namespace K12
open PySem PySem.Spec PyProof.Rows L2 LN
def topS (i : Nat) : Stmt := PySem.Challenge.pw_listnames_k12_errors_apart.main.body.getD i (.Pass ⟨0, 0, 0, 0⟩)
abbrev s_ListError : Stmt := topS 1
abbrev s_Wrong : Stmt := topS 2
abbrev s_Wrong_init : Stmt := inClass (topS 2) 0
abbrev s_NoName : Stmt := topS 3
abbrev s_NoName_init : Stmt := inClass (topS 3) 0
abbrev s_Full : Stmt := topS 4
abbrev s_Full_init : Stmt := inClass (topS 4) 0
abbrev s_NoEntry : Stmt := topS 5
abbrev s_NoEntry_init : Stmt := inClass (topS 5) 0
abbrev s_There : Stmt := topS 6
abbrev s_There_init : Stmt := inClass (topS 6) 0
abbrev s_TooMany : Stmt := topS 7
abbrev s_TooMany_init : Stmt := inClass (topS 7) 0
abbrev s_BadFacts : Stmt := topS 8
abbrev s_BadFacts_init : Stmt := inClass (topS 8) 0
abbrev s_NoAnswer : Stmt := topS 9
abbrev s_NoAnswer_init : Stmt := inClass (topS 9) 0
abbrev s_NoHouse : Stmt := topS 10
abbrev s_NoHouse_init : Stmt := inClass (topS 10) 0
abbrev s_BadChange : Stmt := topS 11
abbrev s_BadChange_init : Stmt := inClass (topS 11) 0
abbrev s_NoStep : Stmt := topS 12
abbrev s_Late : Stmt := topS 13
abbrev s_Nothing : Stmt := topS 14
abbrev s_NoAsk : Stmt := topS 15
abbrev s_NoAsk_init : Stmt := inClass (topS 15) 0
abbrev s_Hopeless : Stmt := topS 16
abbrev s_Hopeless_init : Stmt := inClass (topS 16) 0
abbrev s_NoDeed : Stmt := topS 17
abbrev s_Broken : Stmt := topS 18
abbrev s_Broken_init : Stmt := inClass (topS 18) 0
abbrev s_NoText : Stmt := topS 19
abbrev s_NoCommand : Stmt := topS 20
abbrev s_law_bag : Stmt := topS 22
abbrev s_law_take : Stmt := topS 23
abbrev s_law_alike : Stmt := topS 24
abbrev s_law_errors : Stmt := topS 25
abbrev s_law_flags : Stmt := topS 26
abbrev s_law_fields : Stmt := topS 27
abbrev s_law_value : Stmt := topS 28
abbrev s_law : Stmt := topS 29
section
variable {P : Program} {w : World} {K : PySem.W.Frag} {mg : Str → Option Value} {base : Heap}
theorem scBag : FnScope ["_law_script", "_law_cell"] ["_law_script"] (defScope s_law_bag) := ⟨rfl, rfl, rfl, by decide +kernel, rfl, by decide +kernel, by decide +kernel⟩
theorem ok_bag {f : Addr} {fd : FuncData} (F : Fun K "_law_bag" "_law_bag" s_law_bag f fd) (ma : mg "abs" = none) : FnOk P w K mg base CX0 1 f fd ["_law_script"] (spBag K) := by
  refine F.ok scBag (fun vs H Q E h => ?_) (fun cdv A outer s H vs Q E hr h => ?_)
  · obtain ⟨a, ns, rfl, _⟩ := h
    rfl
  obtain ⟨a, ns, rfl, hS, hlen, q⟩ := h
  refine ⟨_, pss_one (ps_ret (pe_lst (pa_cons pe_int (pa_cons pe_int (pa_cons pe_int (pa_cons
    (pe_lc (own := [("_law_cell", 1)]) (g := gName 1) (tt := tYes) rfl scBag.nd (pi_list (pe_slice sl_list (pv 0) po_none (po_some pe_int)))
      (blkOk_by (N := ["_law_script", "_law_cell"]) (sc := defScope s_law_bag) (by decide +kernel)) (fun _ _ _ _ _ => pg_name (i := 1) scBag.nd rfl (Or.inl rfl)) (fun _ _ _ _ _ => pts_nil)
      (fun _ _ _ _ _ => pe_callB call_abs (by rfl) ma (by decide +kernel) (pa_cons (pv 1) pa_nil))) pa_nil)))))), ?_⟩
  refine ⟨.ref a, rfl, 63, rfl, a, _, rfl, hS, fun p np => ?_⟩
  have s1 : Same H (upd H p (.lst (cutV (ns.map V.int) none (some 63)))) := same_put np
  refine ⟨p, rfl, ⟨_, .inl (.inl upd_same)⟩, fun D nD => ?_⟩
  have nDp : D ≠ p := fun e => by rw [e, upd_same] at nD; cases nD
  have s2 := s1.trans (same_put (o := .lst []) nD)
  refine lc_list (K := K) (a := p) (xs := cutV (ns.map V.int) none (some 63))
    (fun i G => ∃ ms : List Int, ms.length = i ∧ G D = some (.lst (ms.map V.int)) ∧ Same H G ∧ G p = some (.lst (cutV (ns.map V.int) none (some 63))))
    ⟨[], rfl, upd_same, s2, by rw [upd_ne nDp.symm]; exact upd_same⟩ (fun i G _ h => .inl (.inl h.choose_spec.2.2.2)) (fun i x G hx h => ?_) (fun G h => ?_)
  · obtain ⟨ms, hm, eD, sm, ep⟩ := h
    have hx' := List.mem_of_getElem? hx
    have : x ∈ ns.map V.int := by
      unfold cutV at hx'
      exact List.mem_of_mem_drop (List.mem_of_mem_take hx')
    obtain ⟨n, _, rfl⟩ := List.mem_map.mp this
    have hi : i < 64 := by
      have h1 := (List.getElem?_eq_some_iff.mp hx).1
      have h2 := cutV_length (ns.map V.int) none (some 63)
      rw [List.length_map] at h2
      omega
    have hn : H D = none := s1.free nD
    refine ⟨rfl, .int n, rfl, n, rfl, ms.map V.int, eD, ?_, ms ++ [if n < 0 then -n else n], ?_, ?_, ?_, ?_⟩
    · rw [List.length_map, hm]
      exact small1000 (by omega)
    · rw [List.length_append, hm]
      rfl
    · rw [upd_same, List.map_append]
      rfl
    · exact fun b o e => by rw [upd_ne (ne_of_none e hn)]; exact sm _ _ e
    · rw [upd_ne nDp.symm]
      exact ep
  · obtain ⟨ms, hm, eD, sm, ep⟩ := h
    refine ⟨by show 4 ≤ sizeLine; decide, fun b nb => ?_⟩
    refine q _ b D (sm.trans (same_put nb)) (sm.free nb) (s1.free nD) ⟨0, 1234567891, 0, ms, ne_of_none eD nb, upd_same, ?_, by decide, by decide, by decide⟩
    rw [upd_ne (ne_of_none eD nb)]
    exact eD

theorem scTake : FnScope ["_law_bag_here", "_law_many", "_law_cell", "_law_more", "_law_drawn"] ["_law_bag_here", "_law_many"] (defScope s_law_take) := ⟨rfl, rfl, rfl, by decide +kernel, rfl, by decide +kernel, by decide +kernel⟩
theorem ok_take {f : Addr} {fd : FuncData} (F : Fun K "_law_take" "_law_take" s_law_take f fd) (ml : mg "len" = none) (mi : mg "int" = none) : FnOk P w K mg base CX0 1 f fd ["_law_bag_here", "_law_many"] spTake := by
  refine F.ok scTake (fun vs H Q E h => ?_) (fun cdv A outer s H vs Q E hr h => ?_)
  · obtain ⟨b, bc, m, rfl, _⟩ := h
    rfl
  obtain ⟨b, c, m, rfl, bag, m1, m2, q⟩ := h
  have nd := scTake.nd
  refine ⟨_, C8.pss_cut (ps_if (pt_cmpR op_eq (pe_ix ix_list (pv 0) pe_int (fun _ _ => rfl)) pe_int (nomark _))
      (pss_cons (ps_set (i := 2) nd rfl (.inl rfl) pe_int)
      (C8.pss_cut (ps_if (pt_cmpR op_lt (pe_ix ix_list (pv 0) pe_int (fun _ _ => rfl)) (pe_callB call_len_seq (by rfl) ml PySem.boot_len (pa_cons (pe_ix ix_list (pv 0) pe_int (fun _ _ => rfl)) pa_nil)) (nomark _))
        (pss_one (ps_set (i := 2) nd rfl (.inl rfl) (pe_ix ix_list (pe_ix ix_list (pv 0) pe_int (fun _ _ => rfl)) (pe_ix ix_list (pv 0) pe_int (fun _ _ => rfl)) (fun _ _ => rfl)))) pss_nil)
      (pss_cons (ps_augS (pv 0) pe_int get_list pe_int ip_add set_list)
      (C8.pss_cut (ps_if (pt_cmpR op_ge (pv 2) pe_int (nomark _)) (pss_one (ps_asg (pv 2) (pg_sub (pv 0) pe_int set_list))) pss_nil)
      (pss_cons (ps_set (i := 3) nd rfl (.inl rfl) (pe_op op_add (pe_op op_mod (pe_callTy call_int1 (by rfl) mi (by decide +kernel) (pa_cons (pv 2) pa_nil)) pe_int)
          (pe_op op_mul pe_int (pe_ix ix_list (pv 0) pe_int (fun _ _ => rfl)))))
      (pss_one (ps_asg (pe_op op_mod (pe_callTy call_int1 (by rfl) mi (by decide +kernel) (pa_cons (pe_op op_add (pe_op op_mul (pe_ix ix_list (pv 0) pe_int (fun _ _ => rfl)) pe_int) (pv 3)) pa_nil)) pe_int) (pg_sub (pv 0) pe_int set_list)))))))) pss_nil)
    (pss_cons (ps_if (pt_cmpR op_gt (pe_ix ix_list (pv 0) pe_int (fun _ _ => rfl)) pe_int (nomark _))
      (pss_cons (ps_set (i := 4) nd rfl (.inl rfl) (pe_op op_mod (pe_callTy call_int1 (by rfl) mi (by decide +kernel) (pa_cons (pe_ix ix_list (pv 0) pe_int (fun _ _ => rfl)) pa_nil)) (pv 1)))
      (pss_cons (ps_asg (pe_op op_fdiv (pe_ix ix_list (pv 0) pe_int (fun _ _ => rfl)) (pv 1)) (pg_sub (pv 0) pe_int set_list)) (pss_one (ps_ret (pv 4))))) pss_nil)
    (C8.pss_cut (ps_asg (pe_op op_mod (pe_callTy call_int1 (by rfl) mi (by decide +kernel) (pa_cons (pe_op op_add (pe_op op_mul (pe_ix ix_list (pv 0) pe_int (fun _ _ => rfl)) pe_int) pe_int) pa_nil)) pe_int) (pg_sub (pv 0) pe_int set_list))
    (pss_one (ps_ret (pe_op op_mod (pe_callTy call_int1 (by rfl) mi (by decide +kernel) (pa_cons (pe_op op_fdiv (pe_ix ix_list (pv 0) pe_int (fun _ _ => rfl)) pe_int) pa_nil)) (pv 1)))))), ?_⟩
  obtain ⟨x0, x1, x2, ns, hcb, hb, hc, h1, h2, h3⟩ := bag
  let G : Int → Int → Int → Hp := fun x0 x1 x2 => upd H b (.lst [.int x0, .int x1, .int x2, .ref c])
  have gc : ∀ x0 x1 x2, G x0 x1 x2 c = some (.lst (ns.map V.int)) := fun x0 x1 x2 => (upd_ne hcb).trans hc
  have gb : ∀ x0 x1 x2, G x0 x1 x2 b = some (.lst [.int x0, .int x1, .int x2, .ref c]) := fun x0 x1 x2 => upd_same
  have st : ∀ x0 x1 x2 z0 z1 z2, upd (G x0 x1 x2) b (.lst [.int z0, .int z1, .int z2, .ref c]) = G z0 z1 z2 := fun _ _ _ _ _ _ => upd_upd
  have g0 : H = G x0 x1 x2 := (upd_own hb).symm
  have dr : ∀ z0 z1 z2, 0 ≤ z1 → z1 < 2147483647 → 0 ≤ z2 → Drew b c H (G z0 z1 z2) := fun z0 z1 z2 k1 k2 k3 =>
    ⟨⟨z0, z1, z2, ns, hcb, gb _ _ _, gc _ _ _, k1, k2, k3⟩, fun a o n e => (upd_ne n).trans e, fun a e z => by
      by_cases ea : a = b
      · rw [ea] at z
        exact absurd ((gb z0 z1 z2).symm.trans z) (Option.some_ne_none _)
      · exact e ((upd_ne (o := .lst [.int z0, .int z1, .int z2, .ref c]) ea).symm.trans z)⟩
  clear_value G
  subst g0
  have modr : ∀ z : Int, 0 ≤ z % 2147483647 ∧ z % 2147483647 < 2147483647 := fun z => ⟨Int.emod_nonneg z (by decide), Int.emod_lt_of_pos z (by decide)⟩
  have nat : ∀ z : Int, ∃ r : Nat, z % (m : Int) = (r : Int) ∧ r < m := fun z => by
    have a1 : 0 ≤ z % (m : Int) := Int.emod_nonneg z (by omega)
    have a2 : z % (m : Int) < (m : Int) := Int.emod_lt_of_pos z (by omega)
    exact ⟨(z % (m : Int)).toNat, by omega, by omega⟩
  refine ⟨fun σ' H' => ∃ y2 y3 z0 z1 z2, σ' = [some (.ref b), some (.int m), y2, y3, none] ∧ H' = G z0 z1 z2 ∧ 0 ≤ z1 ∧ z1 < 2147483647 ∧ 0 ≤ z2, ?_, ?_⟩
  · refine ⟨.ref b, rfl, b, _, 0, _, rfl, rfl, .inl (.inl (gb _ _ _)), rfl, rfl, _, rfl, ite2 (fun _ => ?_) (fun _ => ?_)⟩
    · refine ⟨fun σ' H' => ∃ z, σ' = [some (.ref b), some (.int m), some (.int z), none, none] ∧ H' = G x0 x1 x2, ?_, ?_⟩
      · refine ⟨.ref b, rfl, b, _, 2, _, rfl, rfl, .inl (.inl (gb _ _ _)), rfl, .ref b, rfl, b, _, 3, _, rfl, rfl, .inl (.inl (gb _ _ _)), rfl, c, _, rfl, .inl (.inl (.inl (gc _ _ _))), ?_⟩
        refine ⟨_, _, rfl, rfl, _, rfl, ite2 (fun e => ?_) (fun _ => ⟨0, rfl, rfl⟩)⟩
        have lt := of_decide_eq_true e
        rw [List.length_map] at lt
        obtain ⟨k, rfl⟩ := Int.eq_ofNat_of_zero_le h3
        have hk : k < ns.length := by omega
        refine ⟨.ref b, rfl, b, _, 3, _, rfl, rfl, .inl (.inl (gb _ _ _)), rfl, .ref b, rfl, b, _, 2, _, rfl, rfl, .inl (.inl (gb _ _ _)), rfl, c, _, k, .int ns[k], rfl, rfl, .inl (.inl (gc _ _ _)), atI_nat ?_, ⟨_, rfl, rfl⟩⟩
        rw [List.getElem?_map, List.getElem?_eq_getElem hk]
        rfl
      · rintro _ _ ⟨z, rfl, rfl⟩
        refine ⟨.ref b, rfl, b, _, 2, _, rfl, rfl, by decide, gb _ _ _, rfl, _, _, rfl, rfl, b, _, _, _, rfl, rfl, gb _ _ _, rfl, ?_⟩
        show C8.tCut _ _ _ _ (upd (G x0 x1 x2) b (.lst [.int x0, .int x1, .int (x2 + 1), .ref c]))
        rw [st]
        refine ⟨fun σ' H' => ∃ z z0, σ' = [some (.ref b), some (.int m), some (.int z), none, none] ∧ H' = G z0 x1 (x2 + 1), ?_, ?_⟩
        · refine ⟨_, rfl, _, _, rfl, rfl, _, rfl, ite2 (fun _ => ?_) (fun _ => ⟨_, _, rfl, rfl⟩)⟩
          refine ⟨_, rfl, .ref b, rfl, b, _, 0, _, rfl, rfl, gb _ _ _, rfl, ⟨z, z, rfl, ?_⟩⟩
          exact st _ _ _ _ _ _
        · rintro _ _ ⟨z, z0, rfl, rfl⟩
          refine ⟨_, rfl, .inl ⟨z, rfl, _, _, rfl, rfl, (by show (0 : Int) < 2147483647; decide), .ref b, rfl, b, _, 2, _, rfl, rfl, .inl (.inl (gb _ _ _)), rfl, _, _, rfl, rfl, .inl ⟨by decide, by decide⟩, _, _, rfl, rfl, ?_⟩⟩
          refine ⟨.ref b, rfl, b, _, 1, _, rfl, rfl, .inl (.inl (gb _ _ _)), rfl, _, _, rfl, rfl, .inl ⟨by omega, by omega⟩, _, rfl, _, _, rfl, rfl, .inl ⟨_, rfl, _, _, rfl, rfl, (by show (0 : Int) < 2147483647; decide), ?_⟩⟩
          refine ⟨.ref b, rfl, b, _, 1, _, rfl, rfl, gb _ _ _, rfl, ⟨_, _, z0, _, x2 + 1, rfl, st _ _ _ _ _ _, (modr _).1, (modr _).2, by omega⟩⟩
    · exact ⟨none, none, x0, x1, x2, rfl, rfl, h1, h2, h3⟩
  · rintro _ _ ⟨y2, y3, z0, z1, z2, rfl, rfl, k1, k2, k3⟩
    refine ⟨.ref b, rfl, b, _, 0, _, rfl, rfl, .inl (.inl (gb _ _ _)), rfl, _, _, rfl, rfl, _, rfl, ite2 (fun _ => ?_) (fun _ => ?_)⟩
    · obtain ⟨r, er, hr'⟩ := nat z0
      refine ⟨.ref b, rfl, b, _, 0, _, rfl, rfl, .inl (.inl (gb _ _ _)), rfl, .inl ⟨_, rfl, _, rfl, _, _, rfl, rfl, (by show (0 : Int) < (m : Int); omega), ?_⟩⟩
      refine ⟨.ref b, rfl, b, _, 0, _, rfl, rfl, .inl (.inl (gb _ _ _)), rfl, _, rfl, _, _, rfl, rfl, ⟨by omega, by omega⟩, .ref b, rfl, b, _, 0, _, rfl, rfl, gb _ _ _, rfl, _, rfl, ?_⟩
      show Q (V.int (z0 % (m : Int))) _
      rw [er]
      refine q _ r ?_ hr'
      show Drew b c _ (upd (G z0 z1 z2) b (.lst [.int (z0 / (m : Int)), .int z1, .int z2, .ref c]))
      rw [st]
      exact dr _ _ _ k1 k2 k3
    · refine ⟨fun σ' H' => σ' = [some (.ref b), some (.int m), y2, y3, none] ∧ H' = G z0 ((z1 * 48271 + 11) % 2147483647) z2, ⟨.ref b, rfl, b, _, 1, _, rfl, rfl, .inl (.inl (gb _ _ _)), rfl, _, _, rfl, rfl, .inl ⟨by omega, by omega⟩, _, _, rfl, rfl, .inl ⟨_, rfl, _, _, rfl, rfl, (by show (0 : Int) < 2147483647; decide), ?_⟩⟩, ?_⟩
      · exact ⟨.ref b, rfl, b, _, 1, _, rfl, rfl, gb _ _ _, rfl, rfl, st _ _ _ _ _ _⟩
      rintro _ _ ⟨rfl, rfl⟩
      obtain ⟨r, er, hr'⟩ := nat ((z1 * 48271 + 11) % 2147483647 / 64)
      refine ⟨.ref b, rfl, b, _, 1, _, rfl, rfl, .inl (.inl (gb _ _ _)), rfl, _, _, rfl, rfl, ⟨by decide, by decide⟩, .inl ⟨_, rfl, _, rfl, _, _, rfl, rfl, (by show (0 : Int) < (m : Int); omega), ?_⟩⟩
      show Q (V.int ((z1 * 48271 + 11) % 2147483647 / 64 % (m : Int))) _
      rw [er]
      exact q _ r (dr _ _ _ (modr _).1 (modr _).2 k3) hr'

def fieldsOf (i : Nat) (x y z : V) : List (Str × V) := match i with
  | 0 => [("place", x)]
  | 1 => [("name", x)]
  | 2 => [("limit", x)]
  | 3 => [("entry", x)]
  | 4 => [("name", x)]
  | 5 => [("limit", x)]
  | 6 => [("name", x)]
  | 7 => [("answer", x)]
  | 8 => [("house", x)]
  | 9 => [("at", x)]
  | 10 => [("at", x)]
  | 11 => [("at", x)]
  | 12 => [("answer", z), ("demand", y), ("many", x)]
  | _ => []
structure Kit (P : Program) (w : World) (K : PySem.W.Frag) (mg : Str → Option Value) (base : Heap) (E : Nat → Addr) (L : Addr) : Prop where
  tab : Tab K 19 E L
  mi : mg "isinstance" = none
  i0 : EInit P w K mg base "Wrong" (E 0) ["place"]
  i1 : EInit P w K mg base "NoName" (E 1) ["name"]
  i2 : EInit P w K mg base "Full" (E 2) ["limit"]
  i3 : EInit P w K mg base "NoEntry" (E 3) ["entry"]
  i4 : EInit P w K mg base "There" (E 4) ["name"]
  i5 : EInit P w K mg base "TooMany" (E 5) ["limit"]
  i6 : EInit P w K mg base "BadFacts" (E 6) ["name"]
  i7 : EInit P w K mg base "NoAnswer" (E 7) ["answer"]
  i8 : EInit P w K mg base "NoHouse" (E 8) ["house"]
  i9 : EInit P w K mg base "BadChange" (E 9) ["at"]
  i10 : EInit P w K mg base "NoAsk" (E 10) ["at"]
  i11 : EInit P w K mg base "Broken" (E 11) ["at"]
  i12 : EInit P w K mg base "Hopeless" (E 12) ["many", "demand", "answer"]
  m13 : mg "NoStep" = some (.ref (E 13))
  z13 : PySem.W.excIn K (E 13) veBase veNew = true
  m14 : mg "Late" = some (.ref (E 14))
  z14 : PySem.W.excIn K (E 14) veBase veNew = true
  m15 : mg "Nothing" = some (.ref (E 15))
  z15 : PySem.W.excIn K (E 15) veBase veNew = true
  m16 : mg "NoDeed" = some (.ref (E 16))
  z16 : PySem.W.excIn K (E 16) veBase veNew = true
  m17 : mg "NoText" = some (.ref (E 17))
  z17 : PySem.W.excIn K (E 17) veBase veNew = true
  m18 : mg "NoCommand" = some (.ref (E 18))
  z18 : PySem.W.excIn K (E 18) veBase veNew = true
  mL : mg "ListError" = some (.ref L)
  zL : PySem.W.excIn K L veBase veNew = true
  n0 : PySem.W.findIn K (.ref (E 0)) "place" = some none
  n1 : PySem.W.findIn K (.ref (E 1)) "name" = some none
  n2 : PySem.W.findIn K (.ref (E 2)) "limit" = some none
  n3 : PySem.W.findIn K (.ref (E 3)) "entry" = some none
  n4 : PySem.W.findIn K (.ref (E 4)) "name" = some none
  n5 : PySem.W.findIn K (.ref (E 5)) "limit" = some none
  n6 : PySem.W.findIn K (.ref (E 6)) "name" = some none
  n7 : PySem.W.findIn K (.ref (E 7)) "answer" = some none
  n8 : PySem.W.findIn K (.ref (E 8)) "house" = some none
  n9 : PySem.W.findIn K (.ref (E 9)) "at" = some none
  n10 : PySem.W.findIn K (.ref (E 10)) "at" = some none
  n11 : PySem.W.findIn K (.ref (E 11)) "at" = some none
  n12many : PySem.W.findIn K (.ref (E 12)) "many" = some none
  n12demand : PySem.W.findIn K (.ref (E 12)) "demand" = some none
  n12answer : PySem.W.findIn K (.ref (E 12)) "answer" = some none
def Errs (E : Nat → Addr) (H : Hp) (es : List Addr) (x y z : V) : Prop := es.length = 19 ∧ ∀ i, i < 19 → ∃ e, es[i]? = some e ∧ ErrAt H e (E i) (fieldsOf i x y z)
theorem Errs.keep {E : Nat → Addr} {H H' : Hp} {es : List Addr} {x y z : V} (h : Errs E H es x y z) (s : ∀ b o, H b = some o → (∀ xs, o ≠ .lst xs) → H' b = some o) : Errs E H' es x y z := ⟨h.1, fun i hi => let ⟨e, a, r⟩ := h.2 i hi; ⟨e, a, r.keep s⟩⟩
def spErrors (E : Nat → Addr) : Sp := fun vs H Q _ => ∃ x y z, vs = [x, y, z] ∧ ∀ H' p es, Same H H' → H' p = some (.lst (es.map V.ref)) → Errs E H' es x y z → Q (.ref p) H'
theorem scErrors : FnScope ["_law_x", "_law_y", "_law_z", "_law_found"] ["_law_x", "_law_y", "_law_z"] (defScope s_law_errors) := ⟨rfl, rfl, rfl, by decide +kernel, rfl, by decide +kernel, by decide +kernel⟩
theorem ok_errors {E : Nat → Addr} {L : Addr} {f : Addr} {fd : FuncData} (Fn : Fun K "_law_errors" "_law_errors" s_law_errors f fd) (T : Kit P w K mg base E L) : FnOk P w K mg base CX0 3 f fd ["_law_x", "_law_y", "_law_z"] (spErrors E) := by
  refine Fn.ok scErrors (fun vs H Q X h => ?_) (fun cdv A outer s H vs Q X hr h => ?_)
  · obtain ⟨x, y, z, rfl, _⟩ := h
    rfl
  obtain ⟨x, y, z, rfl, q⟩ := h
  have nd := scErrors.nd
  refine ⟨_, pss_cons (ps_set (i := 3) nd rfl (.inl rfl) (pe_lst (pa_cons (pe_mkE T.i0 hr pass0 (pa_cons (pv 0) pa_nil)) (pa_cons (pe_mkE T.i1 hr pass0 (pa_cons (pv 0) pa_nil)) (pa_cons (pe_mkE T.i2 hr pass0 (pa_cons (pv 0) pa_nil)) (pa_cons (pe_mkE T.i3 hr pass0 (pa_cons (pv 0) pa_nil)) (pa_cons (pe_mkE T.i4 hr pass0 (pa_cons (pv 0) pa_nil)) (pa_cons (pe_mkE T.i5 hr pass0 (pa_cons (pv 0) pa_nil)) (pa_cons (pe_mkE T.i6 hr pass0 (pa_cons (pv 0) pa_nil)) (pa_cons (pe_mkE T.i7 hr pass0 (pa_cons (pv 0) pa_nil)) (pa_cons (pe_mkE T.i8 hr pass0 (pa_cons (pv 0) pa_nil)) pa_nil)))))))))))
    (pss_cons (ps_set (i := 3) nd rfl (.inl rfl) (pe_op op_cat (pv 3) (pe_lst (pa_cons (pe_mkE T.i9 hr pass0 (pa_cons (pv 0) pa_nil)) (pa_cons (pe_mkE T.i10 hr pass0 (pa_cons (pv 0) pa_nil)) (pa_cons (pe_mkE T.i11 hr pass0 (pa_cons (pv 0) pa_nil)) (pa_cons (pe_mkE T.i12 hr pass0 (pa_cons (pv 0) (pa_cons (pv 1) (pa_cons (pv 2) pa_nil)))) (pa_cons (pe_error0 F.excBase_ValueError T.z13 T.m13 (T.tab.ec 13 (by decide)).oex.kC (by rfl)) (pa_cons (pe_error0 F.excBase_ValueError T.z14 T.m14 (T.tab.ec 14 (by decide)).oex.kC (by rfl)) (pa_cons (pe_error0 F.excBase_ValueError T.z15 T.m15 (T.tab.ec 15 (by decide)).oex.kC (by rfl)) (pa_cons (pe_error0 F.excBase_ValueError T.z16 T.m16 (T.tab.ec 16 (by decide)).oex.kC (by rfl)) pa_nil)))))))))))
    (pss_one (ps_ret (pe_op op_cat (pv 3) (pe_lst (pa_cons (pe_error0 F.excBase_ValueError T.z17 T.m17 (T.tab.ec 17 (by decide)).oex.kC (by rfl)) (pa_cons (pe_error0 F.excBase_ValueError T.z18 T.m18 (T.tab.ec 18 (by decide)).oex.kC (by rfl)) pa_nil))))))), ?_⟩
  refine ⟨x, rfl, mkE_of (by show 1 ≤ 1000; decide) rfl fun H0 e0 s0 r0 => ?_⟩
  refine ⟨x, rfl, mkE_of (by show 1 ≤ 1000; decide) rfl fun H1 e1 s1 r1 => ?_⟩
  refine ⟨x, rfl, mkE_of (by show 1 ≤ 1000; decide) rfl fun H2 e2 s2 r2 => ?_⟩
  refine ⟨x, rfl, mkE_of (by show 1 ≤ 1000; decide) rfl fun H3 e3 s3 r3 => ?_⟩
  refine ⟨x, rfl, mkE_of (by show 1 ≤ 1000; decide) rfl fun H4 e4 s4 r4 => ?_⟩
  refine ⟨x, rfl, mkE_of (by show 1 ≤ 1000; decide) rfl fun H5 e5 s5 r5 => ?_⟩
  refine ⟨x, rfl, mkE_of (by show 1 ≤ 1000; decide) rfl fun H6 e6 s6 r6 => ?_⟩
  refine ⟨x, rfl, mkE_of (by show 1 ≤ 1000; decide) rfl fun H7 e7 s7 r7 => ?_⟩
  refine ⟨x, rfl, mkE_of (by show 1 ≤ 1000; decide) rfl fun H8 e8 s8 r8 => ?_⟩
  refine ⟨by show 9 ≤ sizeLine; decide, fun p1 n1 => ⟨.ref p1, rfl, ?_⟩⟩
  refine ⟨x, rfl, mkE_of (by show 1 ≤ 1000; decide) rfl fun H9 e9 s9 r9 => ?_⟩
  refine ⟨x, rfl, mkE_of (by show 1 ≤ 1000; decide) rfl fun H10 e10 s10 r10 => ?_⟩
  refine ⟨x, rfl, mkE_of (by show 1 ≤ 1000; decide) rfl fun H11 e11 s11 r11 => ?_⟩
  refine ⟨x, rfl, y, rfl, z, rfl, mkE_of (by show 3 ≤ 1000; decide) rfl fun H12 e12 s12 r12 => ?_⟩
  refine fun e13 m13 => ?_
  have s13 := same_put (o := exo e13 (E 13) none) m13
  have r13 := err0 m13 (E 13)
  refine fun e14 m14 => ?_
  have s14 := same_put (o := exo e14 (E 14) none) m14
  have r14 := err0 m14 (E 14)
  refine fun e15 m15 => ?_
  have s15 := same_put (o := exo e15 (E 15) none) m15
  have r15 := err0 m15 (E 15)
  refine fun e16 m16 => ?_
  have s16 := same_put (o := exo e16 (E 16) none) m16
  have r16 := err0 m16 (E 16)
  have f1 := (s9.trans (s10.trans (s11.trans (s12.trans (s13.trans (s14.trans (s15.trans s16))))))) _ _ (upd_same (H := H8) (a := p1) (o := .lst [.ref e0, .ref e1, .ref e2, .ref e3, .ref e4, .ref e5, .ref e6, .ref e7, .ref e8]))
  refine ⟨by show 8 ≤ sizeLine; decide, fun p2 n2 => ⟨p1, p2, _, _, rfl, rfl, same_put n2 _ _ f1, upd_same, by show 9 + 8 ≤ sizeLine; decide, fun p3 n3 => ⟨.ref p3, rfl, ?_⟩⟩⟩
  refine fun e17 m17 => ?_
  have s17 := same_put (o := exo e17 (E 17) none) m17
  have r17 := err0 m17 (E 17)
  refine fun e18 m18 => ?_
  have s18 := same_put (o := exo e18 (E 18) none) m18
  have r18 := err0 m18 (E 18)
  refine ⟨by show 2 ≤ sizeLine; decide, fun p4 n4 => ⟨p3, p4, _, _, rfl, rfl, same_put n4 _ _ (s18 _ _ (s17 _ _ upd_same)), upd_same, by show 17 + 2 ≤ sizeLine; decide, fun p5 n5 => ?_⟩⟩
  have c18 := (same_put (o := .lst [.ref e17, .ref e18]) n4).trans (same_put (o := .lst [.ref e0, .ref e1, .ref e2, .ref e3, .ref e4, .ref e5, .ref e6, .ref e7, .ref e8, .ref e9, .ref e10, .ref e11, .ref e12, .ref e13, .ref e14, .ref e15, .ref e16, .ref e17, .ref e18]) n5)
  have c17 := s18.trans c18
  have c16 := (same_put n2).trans ((same_put n3).trans (s17.trans c17))
  have c15 := s16.trans c16
  have c14 := s15.trans c15
  have c13 := s14.trans c14
  have c12 := s13.trans c13
  have c11 := s12.trans c12
  have c10 := s11.trans c11
  have c9 := s10.trans c10
  have c8 := (same_put n1).trans (s9.trans c9)
  have c7 := s8.trans c8
  have c6 := s7.trans c7
  have c5 := s6.trans c6
  have c4 := s5.trans c5
  have c3 := s4.trans c4
  have c2 := s3.trans c3
  have c1 := s2.trans c2
  have c0 := s1.trans c1
  refine q _ p5 [e0, e1, e2, e3, e4, e5, e6, e7, e8, e9, e10, e11, e12, e13, e14, e15, e16, e17, e18] (s0.trans c0) upd_same ⟨rfl, fun i hi => ?_⟩
  match i, hi with
  | 0, _ => exact ⟨e0, rfl, r0.same c0⟩
  | 1, _ => exact ⟨e1, rfl, r1.same c1⟩
  | 2, _ => exact ⟨e2, rfl, r2.same c2⟩
  | 3, _ => exact ⟨e3, rfl, r3.same c3⟩
  | 4, _ => exact ⟨e4, rfl, r4.same c4⟩
  | 5, _ => exact ⟨e5, rfl, r5.same c5⟩
  | 6, _ => exact ⟨e6, rfl, r6.same c6⟩
  | 7, _ => exact ⟨e7, rfl, r7.same c7⟩
  | 8, _ => exact ⟨e8, rfl, r8.same c8⟩
  | 9, _ => exact ⟨e9, rfl, r9.same c9⟩
  | 10, _ => exact ⟨e10, rfl, r10.same c10⟩
  | 11, _ => exact ⟨e11, rfl, r11.same c11⟩
  | 12, _ => exact ⟨e12, rfl, r12.same c12⟩
  | 13, _ => exact ⟨e13, rfl, r13.same c13⟩
  | 14, _ => exact ⟨e14, rfl, r14.same c14⟩
  | 15, _ => exact ⟨e15, rfl, r15.same c15⟩
  | 16, _ => exact ⟨e16, rfl, r16.same c16⟩
  | 17, _ => exact ⟨e17, rfl, r17.same c17⟩
  | 18, _ => exact ⟨e18, rfl, r18.same c18⟩
  | n + 19, h => exact absurd h (by omega)
theorem scFlags : FnScope ["_law_e", "_law_found"] ["_law_e"] (defScope s_law_flags) := ⟨rfl, rfl, rfl, by decide +kernel, rfl, by decide +kernel, by decide +kernel⟩
def spFlags (K : PySem.W.Frag) (E : Nat → Addr) : Sp := fun vs H Q _ => ∃ (e C : Addr) (fs : List (Str × V)) (b : Nat → Bool), vs = [.ref e] ∧ ErrAt H e C fs ∧ ErrC K C ∧ (∀ j, j < 19 → PySem.W.kitOne K (.ref C) (.ref (E j)) = some (b j)) ∧ ∀ H' p, Same H H' → H' p = some (.lst (((List.range 19).map b).map V.bl)) → Q (.ref p) H'
theorem ok_flags {E : Nat → Addr} {L : Addr} {f : Addr} {fd : FuncData} (Fn : Fun K "_law_flags" "_law_flags" s_law_flags f fd) (T : Kit P w K mg base E L) : FnOk P w K mg base CX0 2 f fd ["_law_e"] (spFlags K E) := by
  refine Fn.ok scFlags (fun vs H Q X h => ?_) (fun cdv A outer s H vs Q X hr h => ?_)
  · obtain ⟨e, C, fs, b, rfl, _⟩ := h
    rfl
  obtain ⟨e, C, fs, b, rfl, he, ec, k, q⟩ := h
  have nd := scFlags.nd
  refine ⟨_, pss_cons (ps_set (i := 1) nd rfl (.inl rfl) (pe_lst (pa_cons (pe_callB call_isErr (by rfl) T.mi (by decide +kernel) (pa_cons (pv 0) (pa_cons (pe_glob (v := .ref (E 0)) (by rfl) T.i0.m rfl) pa_nil))) (pa_cons (pe_callB call_isErr (by rfl) T.mi (by decide +kernel) (pa_cons (pv 0) (pa_cons (pe_glob (v := .ref (E 1)) (by rfl) T.i1.m rfl) pa_nil))) (pa_cons (pe_callB call_isErr (by rfl) T.mi (by decide +kernel) (pa_cons (pv 0) (pa_cons (pe_glob (v := .ref (E 2)) (by rfl) T.i2.m rfl) pa_nil))) (pa_cons (pe_callB call_isErr (by rfl) T.mi (by decide +kernel) (pa_cons (pv 0) (pa_cons (pe_glob (v := .ref (E 3)) (by rfl) T.i3.m rfl) pa_nil))) pa_nil))))))
    (pss_cons (ps_set (i := 1) nd rfl (.inl rfl) (pe_op op_cat (pv 1) (pe_lst (pa_cons (pe_callB call_isErr (by rfl) T.mi (by decide +kernel) (pa_cons (pv 0) (pa_cons (pe_glob (v := .ref (E 4)) (by rfl) T.i4.m rfl) pa_nil))) (pa_cons (pe_callB call_isErr (by rfl) T.mi (by decide +kernel) (pa_cons (pv 0) (pa_cons (pe_glob (v := .ref (E 5)) (by rfl) T.i5.m rfl) pa_nil))) (pa_cons (pe_callB call_isErr (by rfl) T.mi (by decide +kernel) (pa_cons (pv 0) (pa_cons (pe_glob (v := .ref (E 6)) (by rfl) T.i6.m rfl) pa_nil))) (pa_cons (pe_callB call_isErr (by rfl) T.mi (by decide +kernel) (pa_cons (pv 0) (pa_cons (pe_glob (v := .ref (E 7)) (by rfl) T.i7.m rfl) pa_nil))) pa_nil)))))))
    (pss_cons (ps_set (i := 1) nd rfl (.inl rfl) (pe_op op_cat (pv 1) (pe_lst (pa_cons (pe_callB call_isErr (by rfl) T.mi (by decide +kernel) (pa_cons (pv 0) (pa_cons (pe_glob (v := .ref (E 8)) (by rfl) T.i8.m rfl) pa_nil))) (pa_cons (pe_callB call_isErr (by rfl) T.mi (by decide +kernel) (pa_cons (pv 0) (pa_cons (pe_glob (v := .ref (E 9)) (by rfl) T.i9.m rfl) pa_nil))) (pa_cons (pe_callB call_isErr (by rfl) T.mi (by decide +kernel) (pa_cons (pv 0) (pa_cons (pe_glob (v := .ref (E 10)) (by rfl) T.i10.m rfl) pa_nil))) (pa_cons (pe_callB call_isErr (by rfl) T.mi (by decide +kernel) (pa_cons (pv 0) (pa_cons (pe_glob (v := .ref (E 11)) (by rfl) T.i11.m rfl) pa_nil))) pa_nil)))))))
    (pss_cons (ps_set (i := 1) nd rfl (.inl rfl) (pe_op op_cat (pv 1) (pe_lst (pa_cons (pe_callB call_isErr (by rfl) T.mi (by decide +kernel) (pa_cons (pv 0) (pa_cons (pe_glob (v := .ref (E 12)) (by rfl) T.i12.m rfl) pa_nil))) (pa_cons (pe_callB call_isErr (by rfl) T.mi (by decide +kernel) (pa_cons (pv 0) (pa_cons (pe_glob (v := .ref (E 13)) (by rfl) T.m13 rfl) pa_nil))) (pa_cons (pe_callB call_isErr (by rfl) T.mi (by decide +kernel) (pa_cons (pv 0) (pa_cons (pe_glob (v := .ref (E 14)) (by rfl) T.m14 rfl) pa_nil))) (pa_cons (pe_callB call_isErr (by rfl) T.mi (by decide +kernel) (pa_cons (pv 0) (pa_cons (pe_glob (v := .ref (E 15)) (by rfl) T.m15 rfl) pa_nil))) pa_nil)))))))
    (pss_one (ps_ret (pe_op op_cat (pv 1) (pe_lst (pa_cons (pe_callB call_isErr (by rfl) T.mi (by decide +kernel) (pa_cons (pv 0) (pa_cons (pe_glob (v := .ref (E 16)) (by rfl) T.m16 rfl) pa_nil))) (pa_cons (pe_callB call_isErr (by rfl) T.mi (by decide +kernel) (pa_cons (pv 0) (pa_cons (pe_glob (v := .ref (E 17)) (by rfl) T.m17 rfl) pa_nil))) (pa_cons (pe_callB call_isErr (by rfl) T.mi (by decide +kernel) (pa_cons (pv 0) (pa_cons (pe_glob (v := .ref (E 18)) (by rfl) T.m18 rfl) pa_nil))) pa_nil)))))))))), ?_⟩
  have h0 := he
  refine ⟨.ref e, rfl, isE_of h0 ec (k 0 (by decide)) ?_⟩
  refine ⟨.ref e, rfl, isE_of h0 ec (k 1 (by decide)) ?_⟩
  refine ⟨.ref e, rfl, isE_of h0 ec (k 2 (by decide)) ?_⟩
  refine ⟨.ref e, rfl, isE_of h0 ec (k 3 (by decide)) ?_⟩
  refine ⟨by show 4 ≤ sizeLine; decide, fun p1 n1 => ?_⟩
  have h1 := h0.same (same_put (o := .lst [.bl (b 0), .bl (b 1), .bl (b 2), .bl (b 3)]) n1)
  refine ⟨.ref p1, rfl, ?_⟩
  refine ⟨.ref e, rfl, isE_of h1 ec (k 4 (by decide)) ?_⟩
  refine ⟨.ref e, rfl, isE_of h1 ec (k 5 (by decide)) ?_⟩
  refine ⟨.ref e, rfl, isE_of h1 ec (k 6 (by decide)) ?_⟩
  refine ⟨.ref e, rfl, isE_of h1 ec (k 7 (by decide)) ?_⟩
  refine ⟨by show 4 ≤ sizeLine; decide, fun p2 n2 => ⟨p1, p2, _, _, rfl, rfl, same_put n2 _ _ upd_same, upd_same, by show 4 + 4 ≤ sizeLine; decide, fun p3 n3 => ?_⟩⟩
  have h2 := (h1.same (same_put (o := .lst [.bl (b 4), .bl (b 5), .bl (b 6), .bl (b 7)]) n2)).same (same_put (o := .lst [.bl (b 0), .bl (b 1), .bl (b 2), .bl (b 3), .bl (b 4), .bl (b 5), .bl (b 6), .bl (b 7)]) n3)
  refine ⟨.ref p3, rfl, ?_⟩
  refine ⟨.ref e, rfl, isE_of h2 ec (k 8 (by decide)) ?_⟩
  refine ⟨.ref e, rfl, isE_of h2 ec (k 9 (by decide)) ?_⟩
  refine ⟨.ref e, rfl, isE_of h2 ec (k 10 (by decide)) ?_⟩
  refine ⟨.ref e, rfl, isE_of h2 ec (k 11 (by decide)) ?_⟩
  refine ⟨by show 4 ≤ sizeLine; decide, fun p4 n4 => ⟨p3, p4, _, _, rfl, rfl, same_put n4 _ _ upd_same, upd_same, by show 8 + 4 ≤ sizeLine; decide, fun p5 n5 => ?_⟩⟩
  have h3 := (h2.same (same_put (o := .lst [.bl (b 8), .bl (b 9), .bl (b 10), .bl (b 11)]) n4)).same (same_put (o := .lst [.bl (b 0), .bl (b 1), .bl (b 2), .bl (b 3), .bl (b 4), .bl (b 5), .bl (b 6), .bl (b 7), .bl (b 8), .bl (b 9), .bl (b 10), .bl (b 11)]) n5)
  refine ⟨.ref p5, rfl, ?_⟩
  refine ⟨.ref e, rfl, isE_of h3 ec (k 12 (by decide)) ?_⟩
  refine ⟨.ref e, rfl, isE_of h3 ec (k 13 (by decide)) ?_⟩
  refine ⟨.ref e, rfl, isE_of h3 ec (k 14 (by decide)) ?_⟩
  refine ⟨.ref e, rfl, isE_of h3 ec (k 15 (by decide)) ?_⟩
  refine ⟨by show 4 ≤ sizeLine; decide, fun p6 n6 => ⟨p5, p6, _, _, rfl, rfl, same_put n6 _ _ upd_same, upd_same, by show 12 + 4 ≤ sizeLine; decide, fun p7 n7 => ?_⟩⟩
  have h4 := (h3.same (same_put (o := .lst [.bl (b 12), .bl (b 13), .bl (b 14), .bl (b 15)]) n6)).same (same_put (o := .lst [.bl (b 0), .bl (b 1), .bl (b 2), .bl (b 3), .bl (b 4), .bl (b 5), .bl (b 6), .bl (b 7), .bl (b 8), .bl (b 9), .bl (b 10), .bl (b 11), .bl (b 12), .bl (b 13), .bl (b 14), .bl (b 15)]) n7)
  refine ⟨.ref p7, rfl, ?_⟩
  refine ⟨.ref e, rfl, isE_of h4 ec (k 16 (by decide)) ?_⟩
  refine ⟨.ref e, rfl, isE_of h4 ec (k 17 (by decide)) ?_⟩
  refine ⟨.ref e, rfl, isE_of h4 ec (k 18 (by decide)) ?_⟩
  refine ⟨by show 3 ≤ sizeLine; decide, fun p8 n8 => ⟨p7, p8, _, _, rfl, rfl, same_put n8 _ _ upd_same, upd_same, by show 16 + 3 ≤ sizeLine; decide, fun p9 n9 => ?_⟩⟩
  have h5 := (h4.same (same_put (o := .lst [.bl (b 16), .bl (b 17), .bl (b 18)]) n8)).same (same_put (o := .lst [.bl (b 0), .bl (b 1), .bl (b 2), .bl (b 3), .bl (b 4), .bl (b 5), .bl (b 6), .bl (b 7), .bl (b 8), .bl (b 9), .bl (b 10), .bl (b 11), .bl (b 12), .bl (b 13), .bl (b 14), .bl (b 15), .bl (b 16), .bl (b 17), .bl (b 18)]) n9)
  refine q _ p9 ?_ upd_same
  exact ((((((((same_put n1).trans (same_put n2)).trans (same_put n3)).trans (same_put n4)).trans (same_put n5)).trans (same_put n6)).trans (same_put n7)).trans (same_put n8)).trans (same_put n9)
theorem scFields : FnScope ["_law_some", "_law_found"] ["_law_some"] (defScope s_law_fields) := ⟨rfl, rfl, rfl, by decide +kernel, rfl, by decide +kernel, by decide +kernel⟩
def dueV (x y z : V) : List V := [x, x, x, x, x, x, x, x, x, x, x, x, x, y, z]
def spFields (E : Nat → Addr) : Sp := fun vs H Q _ => ∃ (p : Addr) (es : List Addr) (x y z : V), vs = [.ref p] ∧ H p = some (.lst (es.map V.ref)) ∧ Errs E H es x y z ∧ ∀ H' r, Same H H' → r ≠ sysModules → H' r = some (.lst (dueV x y z)) → Q (.ref r) H'
theorem ok_fields {E : Nat → Addr} {L : Addr} {f : Addr} {fd : FuncData} (Fn : Fun K "_law_fields" "_law_fields" s_law_fields f fd) (T : Kit P w K mg base E L) : FnOk P w K mg base CX0 2 f fd ["_law_some"] (spFields E) := by
  refine Fn.ok scFields (fun vs H Q X h => ?_) (fun cdv A outer s H vs Q X hr h => ?_)
  · obtain ⟨p, es, x, y, z, rfl, _⟩ := h
    rfl
  obtain ⟨p, es, x, y, z, rfl, hp, ⟨_, er⟩, q⟩ := h
  have nd := scFields.nd
  refine ⟨_, pss_cons (ps_set (i := 1) nd rfl (.inl rfl) (pe_lst (pa_cons (pe_errf (pe_ix ix_list (pv 0) pe_int (fun _ _ => rfl))) (pa_cons (pe_errf (pe_ix ix_list (pv 0) pe_int (fun _ _ => rfl))) (pa_cons (pe_errf (pe_ix ix_list (pv 0) pe_int (fun _ _ => rfl))) (pa_cons (pe_errf (pe_ix ix_list (pv 0) pe_int (fun _ _ => rfl))) (pa_cons (pe_errf (pe_ix ix_list (pv 0) pe_int (fun _ _ => rfl))) (pa_cons (pe_errf (pe_ix ix_list (pv 0) pe_int (fun _ _ => rfl))) (pa_cons (pe_errf (pe_ix ix_list (pv 0) pe_int (fun _ _ => rfl))) pa_nil)))))))))
    (pss_cons (ps_set (i := 1) nd rfl (.inl rfl) (pe_op op_cat (pv 1) (pe_lst (pa_cons (pe_errf (pe_ix ix_list (pv 0) pe_int (fun _ _ => rfl))) (pa_cons (pe_errf (pe_ix ix_list (pv 0) pe_int (fun _ _ => rfl))) (pa_cons (pe_errf (pe_ix ix_list (pv 0) pe_int (fun _ _ => rfl))) (pa_cons (pe_errf (pe_ix ix_list (pv 0) pe_int (fun _ _ => rfl))) (pa_cons (pe_errf (pe_ix ix_list (pv 0) pe_int (fun _ _ => rfl))) pa_nil))))))))
    (pss_one (ps_ret (pe_op op_catN (pv 1) (pe_lst (pa_cons (pe_errf (pe_ix ix_list (pv 0) pe_int (fun _ _ => rfl))) (pa_cons (pe_errf (pe_ix ix_list (pv 0) pe_int (fun _ _ => rfl))) (pa_cons (pe_errf (pe_ix ix_list (pv 0) pe_int (fun _ _ => rfl))) pa_nil)))))))), ?_⟩
  have at_ : ∀ {k : Nat} {e : Addr}, es[k]? = some e → (es.map V.ref)[k]? = some (.ref e) := fun h => by rw [List.getElem?_map, h]; rfl
  obtain ⟨e0, a0, r0⟩ := er 0 (by decide)
  obtain ⟨e1, a1, r1⟩ := er 1 (by decide)
  obtain ⟨e2, a2, r2⟩ := er 2 (by decide)
  obtain ⟨e3, a3, r3⟩ := er 3 (by decide)
  obtain ⟨e4, a4, r4⟩ := er 4 (by decide)
  obtain ⟨e5, a5, r5⟩ := er 5 (by decide)
  obtain ⟨e6, a6, r6⟩ := er 6 (by decide)
  obtain ⟨e7, a7, r7⟩ := er 7 (by decide)
  obtain ⟨e8, a8, r8⟩ := er 8 (by decide)
  obtain ⟨e9, a9, r9⟩ := er 9 (by decide)
  obtain ⟨e10, a10, r10⟩ := er 10 (by decide)
  obtain ⟨e11, a11, r11⟩ := er 11 (by decide)
  obtain ⟨e12, a12, r12⟩ := er 12 (by decide)
  refine ⟨.ref p, rfl, p, _, _, _, rfl, rfl, SqL.of hp, atI_nat (j := 0) (at_ a0), errF_of r0 (T.tab.ec 0 (by decide)).xf T.n0 (by rfl) ?_⟩
  refine ⟨.ref p, rfl, p, _, _, _, rfl, rfl, SqL.of hp, atI_nat (j := 1) (at_ a1), errF_of r1 (T.tab.ec 1 (by decide)).xf T.n1 (by rfl) ?_⟩
  refine ⟨.ref p, rfl, p, _, _, _, rfl, rfl, SqL.of hp, atI_nat (j := 2) (at_ a2), errF_of r2 (T.tab.ec 2 (by decide)).xf T.n2 (by rfl) ?_⟩
  refine ⟨.ref p, rfl, p, _, _, _, rfl, rfl, SqL.of hp, atI_nat (j := 3) (at_ a3), errF_of r3 (T.tab.ec 3 (by decide)).xf T.n3 (by rfl) ?_⟩
  refine ⟨.ref p, rfl, p, _, _, _, rfl, rfl, SqL.of hp, atI_nat (j := 4) (at_ a4), errF_of r4 (T.tab.ec 4 (by decide)).xf T.n4 (by rfl) ?_⟩
  refine ⟨.ref p, rfl, p, _, _, _, rfl, rfl, SqL.of hp, atI_nat (j := 5) (at_ a5), errF_of r5 (T.tab.ec 5 (by decide)).xf T.n5 (by rfl) ?_⟩
  refine ⟨.ref p, rfl, p, _, _, _, rfl, rfl, SqL.of hp, atI_nat (j := 6) (at_ a6), errF_of r6 (T.tab.ec 6 (by decide)).xf T.n6 (by rfl) ?_⟩
  refine ⟨by show 7 ≤ sizeLine; decide, fun p1 n1 => ?_⟩
  have t1 : Same H _ := same_put (o := .lst [x, x, x, x, x, x, x]) n1
  refine ⟨.ref p1, rfl, ?_⟩
  refine ⟨.ref p, rfl, p, _, _, _, rfl, rfl, SqL.of (t1 _ _ hp), atI_nat (j := 7) (at_ a7), errF_of (r7.same t1) (T.tab.ec 7 (by decide)).xf T.n7 (by rfl) ?_⟩
  refine ⟨.ref p, rfl, p, _, _, _, rfl, rfl, SqL.of (t1 _ _ hp), atI_nat (j := 8) (at_ a8), errF_of (r8.same t1) (T.tab.ec 8 (by decide)).xf T.n8 (by rfl) ?_⟩
  refine ⟨.ref p, rfl, p, _, _, _, rfl, rfl, SqL.of (t1 _ _ hp), atI_nat (j := 9) (at_ a9), errF_of (r9.same t1) (T.tab.ec 9 (by decide)).xf T.n9 (by rfl) ?_⟩
  refine ⟨.ref p, rfl, p, _, _, _, rfl, rfl, SqL.of (t1 _ _ hp), atI_nat (j := 10) (at_ a10), errF_of (r10.same t1) (T.tab.ec 10 (by decide)).xf T.n10 (by rfl) ?_⟩
  refine ⟨.ref p, rfl, p, _, _, _, rfl, rfl, SqL.of (t1 _ _ hp), atI_nat (j := 11) (at_ a11), errF_of (r11.same t1) (T.tab.ec 11 (by decide)).xf T.n11 (by rfl) ?_⟩
  refine ⟨by show 5 ≤ sizeLine; decide, fun p2 n2 => ⟨p1, p2, _, _, rfl, rfl, same_put n2 _ _ upd_same, upd_same, by show 7 + 5 ≤ sizeLine; decide, fun p3 n3 => ?_⟩⟩
  have t2 := t1.trans ((same_put (o := .lst [x, x, x, x, x]) n2).trans (same_put (o := .lst [x, x, x, x, x, x, x, x, x, x, x, x]) n3))
  refine ⟨.ref p3, rfl, ?_⟩
  refine ⟨.ref p, rfl, p, _, _, _, rfl, rfl, SqL.of (t2 _ _ hp), atI_nat (j := 12) (at_ a12), errF_of (r12.same t2) (T.tab.ec 12 (by decide)).xf T.n12many (by rfl) ?_⟩
  refine ⟨.ref p, rfl, p, _, _, _, rfl, rfl, SqL.of (t2 _ _ hp), atI_nat (j := 12) (at_ a12), errF_of (r12.same t2) (T.tab.ec 12 (by decide)).xf T.n12demand (by rfl) ?_⟩
  refine ⟨.ref p, rfl, p, _, _, _, rfl, rfl, SqL.of (t2 _ _ hp), atI_nat (j := 12) (at_ a12), errF_of (r12.same t2) (T.tab.ec 12 (by decide)).xf T.n12answer (by rfl) ?_⟩
  refine ⟨by show 3 ≤ sizeLine; decide, fun p4 n4 => ⟨p3, p4, _, _, rfl, rfl, same_put n4 _ _ upd_same, upd_same, by show 12 + 3 ≤ sizeLine; decide, fun p5 n5 off => ?_⟩⟩
  have t3 := t2.trans ((same_put (o := .lst [x, y, z]) n4).trans (same_put (o := .lst [x, x, x, x, x, x, x, x, x, x, x, x, x, y, z]) n5))
  exact q _ p5 t3 off upd_same

theorem scAlike : FnScope ["_law_found", "_law_right"] ["_law_found", "_law_right"] (defScope s_law_alike) := ⟨rfl, rfl, rfl, by decide +kernel, rfl, by decide +kernel, by decide +kernel⟩
def spSame (K : PySem.W.Frag) : Sp := fun vs H Q _ => ∃ (p r : Addr) (xs : List V) (ds : List PyData) (n : Nat), vs = [.ref p, .ref r] ∧ H p = some (.lst xs) ∧ H r = some (.lst xs) ∧ p ≠ sysModules ∧ r ≠ sysModules ∧ Paired (Vx K H n) xs ds ∧ n ≤ 4 ∧ xs.length ≤ 100 ∧ Q (.bl true) H
theorem ok_alike {f : Addr} {fd : FuncData} (F : Fun K "_law_alike" "_law_alike" s_law_alike f fd) (mr : mg "repr" = none) : FnQ P w K mg base 1 f fd ["_law_found", "_law_right"] (spSame K) := by
  refine okQ F scAlike (fun vs H Q h => ?_) (fun cdv A outer s H vs Q quiet hr h => ?_)
  · obtain ⟨p, r, xs, ds, n, rfl, _⟩ := h
    rfl
  obtain ⟨p, r, xs, ds, n, rfl, hp, hr', op, orr, pd, hn, few, q⟩ := h
  have un := hr.un
  have un70 : A.units + 3 + 70 < cLine := by have : A.units + 3 + 16 * 0 + 200 < cLine := un; omega
  refine ⟨_, pss_one (ps_ret (pe_and (pe_cmpR (op_eqV (by show A.units + 3 + 64 < cLine; omega)) (pv 0) (pv 1) (nomark _))
    (pe_one (pe_cmpR op_eq (pe_callB (cr_reprV quiet un70) (by rfl) mr (by decide +kernel) (pa_cons (pv 0) pa_nil))
      (pe_callB (cr_reprV quiet un70) (by rfl) mr (by decide +kernel) (pa_cons (pv 1) pa_nil)) (nomark _))))), ?_⟩
  refine ⟨.ref p, rfl, .ref r, rfl, 1, by decide, .inl ⟨p, r, xs, xs, rfl, rfl, SqL.of hp, SqL.of hr', vx_eq pd⟩, true, rfl, ?_⟩
  refine iteT ?_
  refine ⟨.ref p, rfl, p, xs, ds, n, rfl, hp, op, pd, hn, few, .ref r, rfl, r, xs, ds, n, rfl, hr', orr, pd, hn, few, rfl, ?_⟩
  show Q (.bl (decide (V.str _ = V.str _))) H
  rw [decide_eq_true rfl]
  exact q

theorem iteD {c : Prop} [Decidable c] {A B : Prop} (hc : c) (h : A) : if decide c = true then A else B := by
  rw [decide_eq_true hc]
  exact h
theorem iteDF {c : Prop} [Decidable c] {A B : Prop} (hc : ¬ c) (h : B) : if decide c = true then A else B := by
  rw [decide_eq_false hc]
  exact h
theorem scValue : FnScope ["_law_bag_here", "_law_some"] ["_law_bag_here"] (defScope s_law_value) := ⟨rfl, rfl, rfl, by decide +kernel, rfl, by decide +kernel, by decide +kernel⟩
def spValue (K : PySem.W.Frag) : Sp := fun vs H Q _ => ∃ (b bc : Addr), vs = [.ref b] ∧ Bag b bc H ∧ ∀ H' x d, Drew b bc H H' → Vx K H' 1 x d → (∀ a, x = .ref a → H a = none) → Q x H'
theorem few9 {k : Nat} (h : k < 9) : Sm 0 45 (.int (k : Int)) := by
  have : k = 0 ∨ k = 1 ∨ k = 2 ∨ k = 3 ∨ k = 4 ∨ k = 5 ∨ k = 6 ∨ k = 7 ∨ k = 8 := by omega
  rcases this with rfl | rfl | rfl | rfl | rfl | rfl | rfl | rfl | rfl <;> exact ⟨by decide +kernel, by decide +kernel, by decide +kernel⟩
theorem ok_value {f ft : Addr} {fd fdt : FuncData} (Fn : Fun K "_law_value" "_law_value" s_law_value f fd) (DT : Df K mg "_law_take" s_law_take ["_law_bag_here", "_law_many"] ft fdt)
    (GT : FnOk P w K mg base CX0 1 ft fdt ["_law_bag_here", "_law_many"] spTake) : FnOk P w K mg base CX0 2 f fd ["_law_bag_here"] (spValue K) := by
  refine Fn.ok scValue (fun vs H Q X h => ?_) (fun cdv A outer s H vs Q X hr h => ?_)
  · obtain ⟨b, bc, rfl, _⟩ := h
    rfl
  obtain ⟨b, bc, rfl, bag, q⟩ := h
  have nd := scValue.nd
  refine ⟨_, C8.pss_cut (ps_set (i := 1) nd rfl (.inl rfl) (pe_lst (pa_cons pe_non (pa_cons pe_bl (pa_cons pe_int (pa_cons (pe_op op_pow pe_int pe_int) (pa_cons pe_str (pa_cons (pe_tup pa_nil) (pa_cons pe_dnewK (pa_cons (pe_tup (pa_cons pe_str (pa_cons pe_str pa_nil))) (pa_cons (pe_un un_neg pe_int) pa_nil)))))))))))
    (pss_one (ps_ret (pe_ifExp (pt_cmpR op_eq (pcall DT GT hr (pa_cons (pv 0) (pa_cons pe_int pa_nil))) pe_int (nomark _))
      (pe_ix ix_list (pv 1) (pcall DT GT hr (pa_cons (pv 0) (pa_cons pe_int pa_nil))) (fun _ _ => rfl))
      (pe_lstN (pa_cons (pcall DT GT hr (pa_cons (pv 0) (pa_cons pe_int pa_nil))) pa_nil))))), ?_⟩
  refine ⟨fun σ' G => ∃ (l : Addr) (xs : List V), σ' = [some (.ref b), some (.ref l)] ∧ Drew b bc H G ∧ l ≠ b ∧ G l = some (.lst xs) ∧ xs.length = 9 ∧ ∀ v ∈ xs, (∀ a, v = .ref a → H a = none) ∧ ∃ d, ∀ G', Drew b bc G G' → Vx K G' 1 v d, ?_, ?_⟩
  · refine ⟨_, _, rfl, rfl, ⟨by decide, by decide, by decide⟩, ?_⟩
    refine ⟨by show 0 ≤ sizeLine; decide, fun t0 m0 => ?_⟩
    intro t1 m1
    refine ⟨by show 2 ≤ sizeLine; decide, fun t2 m2 => ⟨_, rfl, ?_⟩⟩
    refine ⟨by show 9 ≤ sizeLine; decide, fun l nl => ?_⟩
    have s1 := same_put (o := HO.tup []) m0
    have s2 := same_put (o := HO.dK []) m1
    have s3 := same_put (o := HO.tup [.str "a", .str "b"]) m2
    have s4 := same_put (o := HO.lst [.non, .bl true, .int 0, .int (10 ^ 39), .str "a", .ref t0, .ref t1, .ref t2, .int (-1)]) nl
    have dr := (Drew.refl bag).same (s1.trans (s2.trans (s3.trans s4)))
    have ap := (bag.same (s1.trans (s2.trans s3))).apart nl
    refine ⟨l, _, rfl, dr, ap.1, upd_same, rfl, ?_⟩
    have b0 := (bag.apart m0).1
    have b1 := ((bag.same s1).apart m1).1
    have b2 := ((bag.same (s1.trans s2)).apart m2).1
    intro v hv
    simp only [List.mem_cons, List.not_mem_nil, or_false] at hv
    have fl : ∀ {G : Hp} {v : V} {d : PyData}, FlS v d → (∀ a, v ≠ .ref a) → (∀ a, v = .ref a → H a = none) ∧ ∃ d, ∀ G', Drew b bc G G' → Vx K G' 1 v d :=
      fun f g => ⟨fun a e => (g a e).elim, _, fun G' _ => .flat f⟩
    have back : ∀ {G : Hp} {a : Addr}, Same H G → G a = none → H a = none := fun {G a} s e => by
      cases z : H a with
      | none => rfl
      | some o => rw [s _ _ z] at e; cases e
    rcases hv with rfl | rfl | rfl | rfl | rfl | rfl | rfl | rfl | rfl
    · exact fl ⟨.non, ⟨rfl, by decide, by decide +kernel⟩⟩ (fun a => nofun)
    · exact fl ⟨.bl true, ⟨rfl, by decide, by decide +kernel⟩⟩ (fun a => nofun)
    · exact fl ⟨.int 0, ⟨by decide +kernel, by decide, by decide +kernel⟩⟩ (fun a => nofun)
    · exact fl ⟨.int _, ⟨by decide +kernel, by decide, by decide +kernel⟩⟩ (fun a => nofun)
    · exact fl ⟨.str "a", ⟨rfl, by decide, by decide +kernel⟩⟩ (fun a => nofun)
    · refine ⟨fun a z => by cases z; exact m0, .tuple [], fun G' d' => ?_⟩
      have e := d'.keep t0 _ b0 (s4 _ _ (s3 _ _ (s2 _ _ (upd_same (H := H) (a := t0) (o := HO.tup [])))))
      exact .tup (.inl (.inl e)) .nil (by decide)
    · refine ⟨fun a z => by cases z; exact back s1 m1, .dict [], fun G' d' => ?_⟩
      have e := d'.keep t1 _ b1 (s4 _ _ (s3 _ _ (upd_same (a := t1) (o := HO.dK []))))
      exact .emp e
    · refine ⟨fun a z => by cases z; exact back (s1.trans s2) m2, .tuple [.str "a", .str "b"], fun G' d' => ?_⟩
      have e := d'.keep t2 _ b2 (s4 _ _ (upd_same (a := t2) (o := HO.tup [.str "a", .str "b"])))
      exact .tup (.inl (.inl e)) (.cons ⟨.str "a", ⟨rfl, by decide, by decide +kernel⟩⟩ (.cons ⟨.str "b", ⟨rfl, by decide, by decide +kernel⟩⟩ .nil)) (by decide)
    · exact fl ⟨.int (-1), ⟨by decide +kernel, by decide, by decide +kernel⟩⟩ (fun a => nofun)
  rintro _ G ⟨l, xs, rfl, dG, nlb, el, hl, hx⟩
  refine ⟨.ref b, rfl, b, bc, 3, rfl, dG.bag, by decide, by decide, fun H1 r d1 _ => ?_⟩
  by_cases z : ((r : Nat) : Int) = 0
  · refine ⟨rfl, _, rfl, iteD (congrArg V.int z) ?_⟩
    refine ⟨.ref l, rfl, .ref b, rfl, b, bc, 9, rfl, d1.bag, by decide, by decide, fun H2 k d2 hk => ?_⟩
    have kl : k < xs.length := by omega
    have e2 := (d1.trans d2).keep l _ nlb el
    obtain ⟨new, d, hd⟩ := hx _ (List.getElem_mem kl)
    exact ⟨l, _, _, _, rfl, rfl, SqL.of e2, atI_nat (List.getElem?_eq_getElem kl), q H2 _ d (dG.trans (d1.trans d2)) (hd H2 (d1.trans d2)) new⟩
  · refine ⟨rfl, _, rfl, iteDF (fun e => z (V.int.inj e)) ?_⟩
    refine ⟨.ref b, rfl, b, bc, 9, rfl, d1.bag, by decide, by decide, fun H2 k d2 hk => ?_⟩
    refine ⟨by show 1 ≤ sizeLine; decide, fun p np off => ?_⟩
    have dd := (dG.trans (d1.trans d2)).same (same_put (o := .lst [.int k]) np)
    refine q _ _ _ dd (.lst upd_same off (.cons ⟨.int k, few9 hk⟩ .nil) (Nat.le_refl 1)) (fun a e => ?_)
    cases e
    exact (dG.trans (d1.trans d2)).free np

section
variable {H H' : Hp} {b bc : Addr} {n m : Nat} {v : V} {d : PyData}
theorem _root_.LN.Vx.up (h : Vx K H n v d) (l : n ≤ m) : Vx K H m v d := by
  cases h with
  | flat q => exact .flat q
  | tup h1 h2 h3 => exact .tup h1 h2 h3
  | emp h1 => exact .emp h1
  | lst h1 h0 h2 h3 => exact .lst h1 h0 h2 (Nat.le_trans h3 l)
theorem _root_.LN.Vx.same (h : Vx K H n v d) (s : Same H H') : Vx K H' n v d := by
  cases h with
  | flat q => exact .flat q
  | tup h1 h2 h3 => exact .tup (same_seqT s h1) h2 h3
  | emp h1 => exact .emp (s _ _ h1)
  | lst h1 h0 h2 h3 => exact .lst (s _ _ h1) h0 h2 h3
theorem _root_.LN.Vx.drew (h : Vx K H n v d) (bag : Bag b bc H) (s : Drew b bc H H') (nb : v ≠ .ref b) : Vx K H' n v d := by
  obtain ⟨ys, hb⟩ := bag.lst
  cases h with
  | flat q => exact .flat q
  | tup h1 h2 h3 =>
    refine .tup ?_ h2 h3
    rcases h1 with (e | ⟨u, e⟩) | k
    · exact .inl (.inl (s.keep _ _ (fun z => nb (by rw [z])) e))
    · exact .inl (.inr ⟨u, s.keep _ _ (fun z => nb (by rw [z])) e⟩)
    · exact .inr k
  | emp h1 => exact .emp (s.keep _ _ (fun z => nb (by rw [z])) h1)
  | lst h1 h0 h2 h3 => exact .lst (s.keep _ _ (fun z => nb (by rw [z])) h1) h0 h2 h3
theorem fls_snoc : ∀ {xs : List V} {ds : List PyData}, Paired FlS xs ds → Paired FlS (xs ++ [.str "more"]) (ds ++ [.str "more"])
  | _, _, .nil => .cons ⟨.str "more", ⟨rfl, by decide, by decide +kernel⟩⟩ .nil
  | _, _, .cons h t => .cons h (fls_snoc t)
/-- a list of ours grows -/
theorem _root_.LN.Vx.app {a : Addr} {xs : List V} {ds : List PyData} (h : Vx K H n v d) (e : H a = some (.lst xs)) (off : a ≠ sysModules) (p : Paired FlS xs ds) (l : xs.length ≤ n) : ∃ d', Vx K (upd H a (.lst (xs ++ [.str "more"]))) (n + 1) v d' := by
  cases h with
  | flat q => exact ⟨_, .flat q⟩
  | tup h1 h2 h3 =>
    refine ⟨_, .tup ?_ h2 h3⟩
    rcases h1 with (g | ⟨u, g⟩) | k
    · exact .inl (.inl ((upd_ne (fun z => by rw [z, e] at g; cases g)).trans g))
    · exact .inl (.inr ⟨u, (upd_ne (fun z => by rw [z, e] at g; cases g)).trans g⟩)
    · exact .inr k
  | emp h1 => exact ⟨_, .emp ((upd_ne (fun z => by rw [z, e] at h1; cases h1)).trans h1)⟩
  | lst h1 h0 h2 h3 =>
    rename_i c ys es
    by_cases z : c = a
    · subst z
      exact ⟨_, .lst upd_same h0 (fls_snoc p) (by rw [List.length_append]; exact Nat.succ_le_succ l)⟩
    · exact ⟨_, .lst ((upd_ne z).trans h1) h0 h2 (Nat.le_succ_of_le h3)⟩
def isL : PyData → Bool
  | .list _ => true
  | _ => false
theorem _root_.LN.Vx.kit (h : Vx K H n v d) : ∃ t : String, TyX K H v (.type t) ∧ PySem.W.kitOne K (.type t) (.type "list") = some (isL d) := by
  cases h with
  | flat q =>
    obtain ⟨q, _⟩ := q
    cases q with
    | non => exact ⟨"NoneType", .base .non, kit_ty (show kitB "NoneType" "list" = some false by decide +kernel)⟩
    | bl x => exact ⟨"bool", .base (.bl x), kit_ty (show kitB "bool" "list" = some false by decide +kernel)⟩
    | int i => exact ⟨"int", .base (.int i), kit_ty (show kitB "int" "list" = some false by decide +kernel)⟩
    | str x => exact ⟨"str", .base (.str x), kit_ty (show kitB "str" "list" = some false by decide +kernel)⟩
  | tup h1 h2 h3 =>
    refine ⟨"tuple", ?_, kit_ty (show kitB "tuple" "list" = some false by decide +kernel)⟩
    rcases h1 with (g | ⟨u, g⟩) | g
    · exact .base (.tup g)
    · exact .fTuple g
    · obtain ⟨o, _, _, e1, e2, _⟩ := g
      exact .kTuple e1 e2
  | emp h1 => exact ⟨"dict", .base (.dK h1), kit_ty (show kitB "dict" "list" = some false by decide +kernel)⟩
  | lst h1 h0 h2 h3 => exact ⟨"list", .base (.lst h1), kit_ty (show kitB "list" "list" = some true by decide +kernel)⟩
theorem isi_of {P0 : Bool → Prop} (h : Vx K H n v d) (q : P0 (isL d)) : ∃ (x c : V) (t u : Value) (b : Bool), [v, V.ty "list"] = [x, c] ∧ ClsV c u ∧ TyX K H x t ∧ PySem.W.kitOne K t u = some b ∧ P0 b := by
  obtain ⟨t, ty, k⟩ := h.kit
  exact ⟨v, .ty "list", _, _, isL d, rfl, .ty "list", ty, k, q⟩
/-- it is a list of ours -/
theorem _root_.LN.Vx.isl (h : Vx K H n v d) (e : isL d = true) : ∃ a xs ds, v = .ref a ∧ H a = some (.lst xs) ∧ a ≠ sysModules ∧ Paired FlS xs ds ∧ xs.length ≤ n := by
  cases h with
  | flat q =>
    obtain ⟨q, _⟩ := q
    cases q <;> cases e
  | tup h1 h2 h3 => cases e
  | emp h1 => cases e
  | lst h1 h0 h2 h3 => exact ⟨_, _, _, rfl, h1, h0, h2, h3⟩
theorem fls_noref {a : Addr} : ∀ {xs : List V} {ds : List PyData}, Paired FlS xs ds → V.ref a ∉ xs
  | _, _, .nil => List.not_mem_nil
  | _, _, .cons h t => fun z => by
    rcases List.mem_cons.mp z with e | z
    · obtain ⟨q, _⟩ := h
      rw [← e] at q
      cases q
    · exact fls_noref t z
theorem vx_due {x y z : V} {dx dy dz : PyData} (hx : Vx K H n x dx) (hy : Vx K H n y dy) (hz : Vx K H n z dz) : Paired (Vx K H n) (dueV x y z) [dx, dx, dx, dx, dx, dx, dx, dx, dx, dx, dx, dx, dx, dy, dz] :=
  .cons hx (.cons hx (.cons hx (.cons hx (.cons hx (.cons hx (.cons hx (.cons hx (.cons hx (.cons hx (.cons hx (.cons hx (.cons hx (.cons hy (.cons hz .nil))))))))))))))
end
theorem dp_bls {H : Hp} : ∀ l : List Bool, DpAll K H (l.map V.bl) (l.map PyData.bool)
  | [] => .nil
  | b :: l => .cons (.bl b) (dp_bls l)
theorem iteNT {c : Bool} {A B : Prop} (hc : c = true) (h : B) : if (!c) = true then A else B := by
  rw [hc]
  exact h
theorem _root_.L2.Same.put' {H G : Hp} {D : Addr} {o u : HO} (s : Same H G) (_ : G D = some u) (n : H D = none) : Same H (upd G D o) := fun c w e => by
  rw [upd_ne (ne_of_none e n)]
  exact s c w e
theorem scLaw : FnScope ["_law_script", "_law_bag_here", "_law_turn", "_law_x", "_law_y", "_law_z", "_law_some", "_law_due", "_law_at", "_law_thing", "_law_k"] ["_law_script"] (defScope s_law) := ⟨rfl, rfl, rfl, by decide +kernel, rfl, by decide +kernel, by decide +kernel⟩
def spLaw (K : PySem.W.Frag) : Sp := fun vs H Q _ => ∃ (a : Addr) (ns : List Int), vs = [.ref a] ∧ SqL K H a (ns.map V.int) ∧ ns.length ≤ 63 ∧ ∀ H', Q (.bl true) H'
theorem ok_law {E : Nat → Addr} {L f fbag fal fva fer ffl ffi : Addr} {fd fdbag fdal fdva fder fdfl fdfi : FuncData} (F0 : Fun K "law" "law" s_law f fd) (T : Kit P w K mg base E L)
    (DBag : Df K mg "_law_bag" s_law_bag ["_law_script"] fbag fdbag) (GBag : FnOk P w K mg base CX0 1 fbag fdbag ["_law_script"] (spBag K))
    (DA : Df K mg "_law_alike" s_law_alike ["_law_found", "_law_right"] fal fdal) (GA : FnQ P w K mg base 1 fal fdal ["_law_found", "_law_right"] (spSame K))
    (DV : Df K mg "_law_value" s_law_value ["_law_bag_here"] fva fdva) (GV : FnOk P w K mg base CX0 2 fva fdva ["_law_bag_here"] (spValue K))
    (DE : Df K mg "_law_errors" s_law_errors ["_law_x", "_law_y", "_law_z"] fer fder) (GE : FnOk P w K mg base CX0 3 fer fder ["_law_x", "_law_y", "_law_z"] (spErrors E))
    (DF : Df K mg "_law_flags" s_law_flags ["_law_e"] ffl fdfl) (GF : FnOk P w K mg base CX0 2 ffl fdfl ["_law_e"] (spFlags K E))
    (DI : Df K mg "_law_fields" s_law_fields ["_law_some"] ffi fdfi) (GI : FnOk P w K mg base CX0 2 ffi fdfi ["_law_some"] (spFields E))
    (mr : mg "range" = none) (ml : mg "list" = none) (mv : mg "ValueError" = none) : FnQ P w K mg base 4 f fd ["_law_script"] (spLaw K) := by
  refine okQ F0 scLaw (fun vs H Q h => ?_) (fun cdv A outer s H vs Q quiet hr h => ?_)
  · obtain ⟨a, ns, rfl, _⟩ := h
    rfl
  obtain ⟨a, ns, rfl, hS, hlen, q⟩ := h
  have nd := scLaw.nd
  refine ⟨_, pss_cons (ps_set (i := 1) nd rfl (.inl rfl) (pcall DBag GBag (hr.mono (by decide)) (pa_cons (pv 0) pa_nil)))
    (pss_cons (ps_for PassesOwn.never rfl (pi_range1 (by rfl) mr (pa_cons pe_int pa_nil)) (pg_name (i := 2) nd rfl (.inl rfl))
      (C8.pss_cut (ps_par3 (i := 3) (j := 4) (l := 5) (by rfl) nd rfl rfl rfl (by decide) (by decide) (by decide) rfl rfl rfl (pa_cons (pcall DV GV (hr.mono (by decide)) (pa_cons (pv 1) pa_nil)) (pa_cons (pcall DV GV (hr.mono (by decide)) (pa_cons (pv 1) pa_nil)) (pa_cons (pcall DV GV (hr.mono (by decide)) (pa_cons (pv 1) pa_nil)) pa_nil))) (by rfl))
      (C8.pss_cut (ps_par (i := 6) (j := 7) (by rfl) nd rfl rfl (by decide) rfl rfl (pa_cons (pcall DE GE hr (pa_cons (pv 3) (pa_cons (pv 4) (pa_cons (pv 5) pa_nil))))
          (pa_cons (pe_op op_catN (pe_op op_rep (pe_lst (pa_cons (pv 3) pa_nil)) pe_int) (pe_lst (pa_cons (pv 3) (pa_cons (pv 4) (pa_cons (pv 5) pa_nil))))) pa_nil)) (by rfl))
      (C8.pss_cut (ps_for PassesOwn.never rfl (pi_range1 (by rfl) mr (pa_cons pe_int pa_nil)) (pg_name (i := 8) nd rfl (.inr rfl))
        (C8.pss_cut (ps_if (pt_cmpR (op_neD hr.units) (pcall DF GF (hr.mono (by decide)) (pa_cons (pe_ix ix_list (pv 6) (pv 8) (fun _ _ => rfl)) pa_nil))
            (pe_lc (own := [("_law_k", 10)]) (g := gName 10) (tt := tYes) rfl nd (pi_range1 (by rfl) mr (pa_cons pe_int pa_nil))
              (blkOk_by (N := ["_law_script", "_law_bag_here", "_law_turn", "_law_x", "_law_y", "_law_z", "_law_some", "_law_due", "_law_at", "_law_thing", "_law_k"]) (sc := defScope s_law) (by decide +kernel)) (fun _ _ _ _ _ => pg_name (i := 10) nd rfl (Or.inl rfl)) (fun _ _ _ _ _ => pts_nil)
              (fun _ _ _ _ _ => pe_cmpR op_eq (pv 10) (pv 8) (nomark _))) (nomark _)) (pss_one (ps_ret pe_bl)) pss_nil)
        (pss_one (ps_if (PW.pt (pw_or (pt_not (pt_val (pe_callB call_isErr (by rfl) T.mi (by decide +kernel) (pa_cons (pe_ix ix_list (pv 6) (pv 8) (fun _ _ => rfl)) (pa_cons (pe_glob (v := .ref L) (by rfl) T.mL rfl) pa_nil)))))
            (pw_or1 (pt_not (pt_val (pe_callB call_isErr (by rfl) T.mi (by decide +kernel) (pa_cons (pe_ix ix_list (pv 6) (pv 8) (fun _ _ => rfl)) (pa_cons (pe_bltn (v := .ty "ValueError") (by rfl) mv (by decide +kernel) rfl) pa_nil)))))))) (pss_one (ps_ret pe_bl)) pss_nil))))
      (C8.pss_cut (ps_if (pt_not (pt_val (qcall DA GA quiet (hr.mono (by decide)) (pa_cons (pcall DI GI (hr.mono (by decide)) (pa_cons (pv 6) pa_nil)) (pa_cons (pv 7) pa_nil))))) (pss_one (ps_ret pe_bl)) pss_nil)
      (C8.pss_cut (ps_for PassesOwn.never rfl (pi_tup (pe_tup (pa_cons (pv 3) (pa_cons (pv 4) (pa_cons (pv 5) pa_nil))))) (pg_name (i := 9) nd rfl (.inl rfl))
        (pss_one (ps_if (pt_val (pe_callB call_isi (by rfl) T.mi (by decide +kernel) (pa_cons (pv 9) (pa_cons (pe_bltn (v := .ty "list") (by rfl) ml (by decide +kernel) rfl) pa_nil))))
          (pss_one (ps_expr (pe_bm PySem.F.plainAttrs_list PySem.F.slot_list_append PySem.F.type_list_append mt_append (pv 9) (pa_cons pe_str pa_nil)))) pss_nil)))
      (pss_one (ps_if (PW.pt (pw_or (pt_not (pt_val (qcall DA GA quiet (hr.mono (by decide)) (pa_cons (pcall DI GI (hr.mono (by decide)) (pa_cons (pv 6) pa_nil)) (pa_cons (pv 7) pa_nil)))))
        (pw_or1 (pt_cmpR (op_neD hr.units) (pcall DF GF (hr.mono (by decide)) (pa_cons (pe_error0 F.excBase_ValueError T.zL T.mL T.tab.low.oex.kC (by rfl)) pa_nil)) (pe_op op_rep (pe_lst (pa_cons pe_bl pa_nil)) pe_int) (nomark _))))) (pss_one (ps_ret pe_bl)) pss_nil))))))))
    (pss_one (ps_ret pe_bl))), ?_⟩
  refine ⟨.ref a, rfl, a, ns, rfl, hS, hlen, fun H1 b bc s1 fb fbc bag => ?_⟩
  refine ⟨4, rfl, by decide, by decide, ?_⟩
  refine for_range (lo := 0) (n := 4) (fun _ σ' G' => ∃ y2 y3 y4 y5 y6 y7 y8 y9 y10, σ' = [some (.ref a), some (.ref b), y2, y3, y4, y5, y6, y7, y8, y9, y10] ∧ Drew b bc H1 G')
    ⟨none, none, none, none, none, none, none, none, none, rfl, Drew.refl bag⟩ (fun i σ' G' _ h => ?_) (fun σ' G' h => ?_)
  · obtain ⟨y2, y3, y4, y5, y6, y7, y8, y9, y10, rfl, dG⟩ := h
    -- what is drawn
    refine ⟨fun σ' G => ∃ x y z dx dy dz, σ' = [some (.ref a), some (.ref b), some (.int (0 + (i : Nat))), some x, some y, some z, y6, y7, y8, y9, y10] ∧ Drew b bc H1 G ∧ Vx K G 1 x dx ∧ Vx K G 1 y dy ∧ Vx K G 1 z dz ∧ (∀ c, x = .ref c → H1 c = none) ∧ (∀ c, y = .ref c → H1 c = none) ∧ (∀ c, z = .ref c → H1 c = none), ?_, ?_⟩
    · refine ⟨.ref b, rfl, b, bc, rfl, dG.bag, fun Gx x dx d1 vx nx => ?_⟩
      refine ⟨.ref b, rfl, b, bc, rfl, d1.bag, fun Gy y dy d2 vy ny => ?_⟩
      refine ⟨.ref b, rfl, b, bc, rfl, d2.bag, fun Gz z dz d3 vz nz => ?_⟩
      have there := bag.there
      have nx' : ∀ c, x = .ref c → H1 c = none := fun c e => dG.free (nx c e)
      have ny' : ∀ c, y = .ref c → H1 c = none := fun c e => (dG.trans d1).free (ny c e)
      have nz' : ∀ c, z = .ref c → H1 c = none := fun c e => (dG.trans (d1.trans d2)).free (nz c e)
      have nb : ∀ {v : V}, (∀ c, v = .ref c → H1 c = none) → v ≠ .ref b := fun n e => there.1 (n b e)
      exact ⟨x, y, z, rfl, x, y, z, dx, dy, dz, rfl, dG.trans (d1.trans (d2.trans d3)), vx.drew d1.bag (d2.trans d3) (nb nx'), vy.drew d2.bag d3 (nb ny'), vz, nx', ny', nz'⟩
    rintro _ G ⟨x, y, z, dx, dy, dz, rfl, dG1, vx, vy, vz, nx, ny, nz⟩
    -- the errors
    refine ⟨fun σ' G' => ∃ (p r : Addr) (es : List Addr), σ' = [some (.ref a), some (.ref b), some (.int (0 + (i : Nat))), some x, some y, some z, some (.ref p), some (.ref r), y8, y9, y10] ∧ Same G G' ∧ G' p = some (.lst (es.map V.ref)) ∧ Errs E G' es x y z ∧ G' r = some (.lst (dueV x y z)) ∧ r ≠ sysModules, ?_, ?_⟩
    · refine ⟨x, rfl, y, rfl, z, rfl, x, y, z, rfl, fun G1 p es s1 ep er => ?_⟩
      refine ⟨x, rfl, by show 1 ≤ sizeLine; decide, fun l1 n1 => ⟨l1, 12, [x], rfl, rfl, upd_same, by decide, by decide, by show 1 * 12 ≤ sizeLine; decide, fun l2 n2 => ?_⟩⟩
      refine ⟨x, rfl, y, rfl, z, rfl, by show 3 ≤ sizeLine; decide, fun l3 n3 => ⟨l2, l3, _, _, rfl, rfl, same_put n3 _ _ upd_same, upd_same, by show 12 + 3 ≤ sizeLine; decide, fun r nr off => ?_⟩⟩
      have st := (same_put (o := .lst [x]) n1).trans ((same_put (o := .lst (List.replicate (12 : Int).toNat [x]).flatten) n2).trans ((same_put (o := .lst [x, y, z]) n3).trans (same_put (o := .lst ((List.replicate (12 : Int).toNat [x]).flatten ++ [x, y, z])) nr)))
      exact ⟨.ref p, .ref r, rfl, p, r, es, rfl, s1.trans st, st _ _ ep, er.keep fun c o e _ => st c o e, by rw [upd_same]; rfl, off⟩
    rintro _ G1 ⟨p, r, es, rfl, s1, ep, er, ed, off⟩
    -- the flags
    refine ⟨fun σ' G' => ∃ y8 y9 y10, σ' = [some (.ref a), some (.ref b), some (.int (0 + (i : Nat))), some x, some y, some z, some (.ref p), some (.ref r), y8, y9, y10] ∧ Same G1 G', ?_, ?_⟩
    · refine ⟨19, rfl, by decide, by decide, ?_⟩
      refine for_range (lo := 0) (n := 19) (fun _ σ' G' => ∃ y8 y9 y10, σ' = [some (.ref a), some (.ref b), some (.int (0 + (i : Nat))), some x, some y, some z, some (.ref p), some (.ref r), y8, y9, y10] ∧ Same G1 G') ⟨y8, y9, y10, rfl, Same.refl _⟩ (fun j σ' G2 hj h => ?_) (fun σ' G2 h => h)
      obtain ⟨y8, y9, y10, rfl, s2⟩ := h
      obtain ⟨e, ae, re⟩ := er.2 j hj
      have e0 : (0 : Int) + (j : Nat) = (j : Nat) := Int.zero_add _
      have em : atI (es.map V.ref) ((0 : Int) + (j : Nat)) = some (.ref e) := by
        rw [e0]
        exact atI_nat (by rw [List.getElem?_map, ae]; rfl)
      refine ⟨fun σ' G' => ∃ y10, σ' = [some (.ref a), some (.ref b), some (.int (0 + (i : Nat))), some x, some y, some z, some (.ref p), some (.ref r), some (.int (0 + (j : Nat))), y9, y10] ∧ Same G1 G', ?_, ?_⟩
      · refine ⟨.ref p, rfl, .int (0 + (j : Nat)), rfl, p, _, _, _, rfl, rfl, SqL.of (s2 _ _ ep), em, e, E j, _, fun k => decide (j = k), rfl, re.same s2, T.tab.ec j hj, fun k hk => T.tab.kk j k hj hk, fun G3 l s3 el => ?_⟩
        refine ⟨19, rfl, by decide, by decide, fun D nD => ?_⟩
        refine lc_range (lo := 0) (n := 19) (fun m G4 => G4 D = some (.lst (((List.range m).map fun k => decide (j = k)).map V.bl)) ∧ Same G3 G4) ⟨upd_same, same_put nD⟩ (fun m G4 hm h => ?_) (fun G4 h => ?_)
        · obtain ⟨eD, s4⟩ := h
          refine ⟨rfl, .int (0 + (m : Nat)), rfl, .int (0 + (j : Nat)), rfl, rfl, _, eD, small1000 (by rw [List.length_map, List.length_map, List.length_range]; omega), ?_, ?_⟩
          · rw [upd_same, List.range_succ, List.map_append, List.map_append]
            have : decide (V.int (0 + (m : Nat)) = V.int (0 + (j : Nat))) = decide (j = m) := decide_eq_decide.mpr ⟨fun e => by have := V.int.inj e; omega, fun e => by rw [e]⟩
            rw [this]
            rfl
          · exact s4.put' eD nD
        · obtain ⟨eD, s4⟩ := h
          have g : Good (.list (((List.range 19).map fun k => decide (j = k)).map PyData.bool)) 1 7002 := good_bools (by rw [List.length_map, List.length_range]; decide)
          exact ⟨_, _, .lst (.inl (.inl (s4 _ _ el))) (dp_bls _), .lst (.inl (.inl eD)) (dp_bls _), g.shaped (by decide), g.shaped (by decide), _, rfl, iteNT g.self ⟨_, rfl, s2.trans (s3.trans s4)⟩⟩
      rintro _ G4 ⟨y10, rfl, s4⟩
      have re4 := re.same s4
      refine ⟨.ref p, rfl, .int (0 + (j : Nat)), rfl, p, _, _, _, rfl, rfl, SqL.of (s4 _ _ ep), em, isE_of re4 (T.tab.ec j hj) (T.tab.up j hj) ⟨true, rfl, iteF ?_⟩⟩
      refine ⟨.ref p, rfl, .int (0 + (j : Nat)), rfl, p, _, _, _, rfl, rfl, SqL.of (s4 _ _ ep), em, isE_ty re4 (T.tab.ec j hj) (T.tab.uv j hj) ⟨true, rfl, iteF ?_⟩⟩
      exact ⟨_, _, _, rfl, s4⟩
    rintro _ G2 ⟨y8, y9, y10, rfl, s2⟩
    -- the fields
    have er2 := er.keep fun c o e _ => s2 c o e
    have v2 := s1.trans s2
    refine ⟨fun σ' G' => σ' = [some (.ref a), some (.ref b), some (.int (0 + (i : Nat))), some x, some y, some z, some (.ref p), some (.ref r), y8, y9, y10] ∧ Same G2 G', ?_, ?_⟩
    · refine ⟨.ref p, rfl, p, es, x, y, z, rfl, s2 _ _ ep, er2, fun G3 l s3 offl el => ?_⟩
      have v3 := v2.trans s3
      exact ⟨.ref r, rfl, l, r, dueV x y z, _, 1, rfl, el, s3 _ _ (s2 _ _ ed), offl, off, vx_due (vx.same v3) (vy.same v3) (vz.same v3), by decide, by show 15 ≤ 100; decide, true, rfl, iteF ⟨rfl, s3⟩⟩
    rintro _ G3 ⟨rfl, s3⟩
    -- the lists grow
    have v3 := v2.trans s3
    have i3 := s2.trans s3
    refine ⟨fun σ' G' => ∃ y9, σ' = [some (.ref a), some (.ref b), some (.int (0 + (i : Nat))), some x, some y, some z, some (.ref p), some (.ref r), y8, y9, y10] ∧ Drew b bc H1 G' ∧ G' p = some (.lst (es.map V.ref)) ∧ G' r = some (.lst (dueV x y z)) ∧ Errs E G' es x y z ∧ ∃ dx dy dz, Vx K G' 4 x dx ∧ Vx K G' 4 y dy ∧ Vx K G' 4 z dz, ?_, ?_⟩
    · refine ⟨x, rfl, y, rfl, z, rfl, by show 3 ≤ sizeLine; decide, fun t nt => ⟨t, rfl, ⟨[x, y, z], .inl (.inl upd_same)⟩, ?_⟩⟩
      have st := same_put (o := HO.tup [x, y, z]) nt
      refine for_tup (K := K) (a := t) (xs := [x, y, z]) (fun m σ' G' => ∃ y9, σ' = [some (.ref a), some (.ref b), some (.int (0 + (i : Nat))), some x, some y, some z, some (.ref p), some (.ref r), y8, y9, y10] ∧ G' t = some (.tup [x, y, z]) ∧ Drew b bc H1 G' ∧ G' p = some (.lst (es.map V.ref)) ∧ G' r = some (.lst (dueV x y z)) ∧ Errs E G' es x y z ∧ ∃ dx dy dz, Vx K G' (1 + m) x dx ∧ Vx K G' (1 + m) y dy ∧ Vx K G' (1 + m) z dz)
        ⟨y9, rfl, upd_same, (dG1.same v3).same st, st _ _ (i3 _ _ ep), st _ _ (i3 _ _ ed), er.keep fun c o e _ => st _ _ (i3 c o e), dx, dy, dz, vx.same (v3.trans st), vy.same (v3.trans st), vz.same (v3.trans st)⟩ (fun m σ' G' _ h => ?_) (fun m v σ' G' hv h => ?_) (fun σ' G' h => ?_)
      · obtain ⟨_, _, e, _⟩ := h
        exact .inl (.inl e)
      · obtain ⟨y9, rfl, et, dr, ep', ed', er', dx', dy', dz', vx', vy', vz'⟩ := h
        have m3 : m < 3 := by
          obtain ⟨hm, _⟩ := List.getElem?_eq_some_iff.mp hv
          exact hm
        have vv : ∃ d, Vx K G' (1 + m) v d ∧ ∀ c, v = .ref c → H1 c = none := by
          match m, hv with
          | 0, hv => cases hv; exact ⟨_, vx', nx⟩
          | 1, hv => cases hv; exact ⟨_, vy', ny⟩
          | 2, hv => cases hv; exact ⟨_, vz', nz⟩
        obtain ⟨d, vd, new⟩ := vv
        refine ⟨v, rfl, isi_of vd ⟨isL d, rfl, ?_⟩⟩
        cases e : isL d with
        | false => exact iteF ⟨_, rfl, et, dr, ep', ed', er', _, _, _, vx'.up (Nat.le_succ _), vy'.up (Nat.le_succ _), vz'.up (Nat.le_succ _)⟩
        | true =>
          refine iteT ?_
          obtain ⟨c, xs, ds, rfl, ec, offc, pf, lf⟩ := vd.isl e
          have hc := new c rfl
          have tc : t ≠ c := fun z => by rw [z, ec] at et; cases et
          have pc : p ≠ c := fun z => by
            rw [z, ec] at ep'
            cases ep'
            rw [List.length_map, er'.1] at lf
            omega
          have rc : r ≠ c := fun z => by
            rw [z, ec] at ed'
            cases ed'
            have : 15 ≤ 1 + m := lf
            omega
          obtain ⟨dx2, vx2⟩ := vx'.app ec offc pf lf
          obtain ⟨dy2, vy2⟩ := vy'.app ec offc pf lf
          obtain ⟨dz2, vz2⟩ := vz'.app ec offc pf lf
          refine ⟨.ref c, rfl, .inl ⟨rfl, xs, SqL.of ec⟩, c, xs, .str "more", rfl, rfl, ec, small1000 (by omega), ?_⟩
          refine ⟨_, rfl, (upd_ne tc).trans et, dr.put bag hc, (upd_ne pc).trans ep', (upd_ne rc).trans ed', er'.keep fun k o ek nl => ?_, dx2, dy2, dz2, vx2, vy2, vz2⟩
          exact (upd_ne (fun z => by rw [z, ec] at ek; cases ek; exact nl _ rfl)).trans ek
      · obtain ⟨y9, rfl, _, dr, ep', ed', er', dx', dy', dz', vx', vy', vz'⟩ := h
        exact ⟨y9, rfl, dr, ep', ed', er', dx', dy', dz', vx', vy', vz'⟩
    rintro _ G4 ⟨y9, rfl, dr, ep4, ed4, er4, dx4, dy4, dz4, vx4, vy4, vz4⟩
    -- the fields once more, and an error that is none of them
    refine ⟨.ref p, rfl, p, es, x, y, z, rfl, ep4, er4, fun G5 l s5 offl el => ?_⟩
    refine ⟨.ref r, rfl, l, r, dueV x y z, _, 4, rfl, el, s5 _ _ ed4, offl, off, vx_due (vx4.same s5) (vy4.same s5) (vz4.same s5), by decide, by show 15 ≤ 100; decide, true, rfl, iteF ?_⟩
    intro e0 m0
    refine ⟨e0, L, [], fun _ => false, rfl, err0 m0 L, T.tab.low, fun k hk => T.tab.lk k hk, fun G6 l6 s6 el6 => ?_⟩
    refine ⟨by show 1 ≤ sizeLine; decide, fun l1 n1 => ⟨l1, 19, [.bl false], rfl, rfl, upd_same, by decide, by decide, by decide, fun l2 n2 => ?_⟩⟩
    have s7 := (same_put (o := .lst [.bl false]) n1).trans (same_put (o := .lst (List.replicate (19 : Int).toNat [V.bl false]).flatten) n2)
    have g : Good (.list (((List.range 19).map fun _ => false).map PyData.bool)) 1 7002 := good_bools (by decide)
    refine ⟨_, _, .lst (.inl (.inl (s7 _ _ el6))) (dp_bls _), .lst (.inl (.inl ?_)) (dp_bls ((List.range 19).map fun _ => false)), g.shaped (by decide), g.shaped (by decide), _, rfl, iteNT g.self ?_⟩
    · rw [upd_same]
      rfl
    · exact ⟨_, _, _, _, _, _, _, _, _, rfl, dr.same (s5.trans ((same_put m0).trans (s6.trans s7)))⟩
  · obtain ⟨y2, y3, y4, y5, y6, y7, y8, y9, y10, rfl, dG⟩ := h
    exact q _

end
theorem all_mk {l : PySem.W.OpenLaw} {w : World} {K : PySem.W.Frag} {h : Heap} {mg : Str → Option Value} {fa f0 f1 f2 f3 f4 f5 f6 f7 C_Wrong C_NoName C_Full C_NoEntry C_There C_TooMany C_BadFacts C_NoAnswer C_NoHouse C_BadChange C_NoAsk C_Broken C_Hopeless C_NoStep C_Late C_Nothing C_NoDeed C_NoText C_NoCommand C_ListError eg0 eg1 eg2 eg3 eg4 eg5 eg6 eg7 eg8 eg9 eg10 eg11 eg12 : Addr} (X : K.In h) (G : h.Ns mainGlobals mg) (hfa : mg "law" = some (.ref fa))
    {eod0 ean0 eod1 ean1 eod2 ean2 eod3 ean3 eod4 ean4 eod5 ean5 eod6 ean6 eod7 ean7 eod8 ean8 eod9 ean9 eod10 ean10 eod11 ean11 eod12 ean12 : Option Addr} {esl0 esl1 esl2 esl3 esl4 esl5 esl6 esl7 esl8 esl9 esl10 esl11 esl12 : Array (Option Value)} {eoc0 ekV0 edc0 epm0 ecd0 ect0 eoc1 ekV1 edc1 epm1 ecd1 ect1 eoc2 ekV2 edc2 epm2 ecd2 ect2 eoc3 ekV3 edc3 epm3 ecd3 ect3 eoc4 ekV4 edc4 epm4 ecd4 ect4 eoc5 ekV5 edc5 epm5 ecd5 ect5 eoc6 ekV6 edc6 epm6 ecd6 ect6 eoc7 ekV7 edc7 epm7 ecd7 ect7 eoc8 ekV8 edc8 epm8 ecd8 ect8 eoc9 ekV9 edc9 epm9 ecd9 ect9 eoc10 ekV10 edc10 epm10 ecd10 ect10 eoc11 ekV11 edc11 epm11 ecd11 ect11 eoc12 ekV12 edc12 epm12 ecd12 ect12 : Value}
    (cC_Wrong : PySem.W.nsIn K mainGlobals "Wrong" = some (some (.ref C_Wrong)))
    (cC_NoName : PySem.W.nsIn K mainGlobals "NoName" = some (some (.ref C_NoName)))
    (cC_Full : PySem.W.nsIn K mainGlobals "Full" = some (some (.ref C_Full)))
    (cC_NoEntry : PySem.W.nsIn K mainGlobals "NoEntry" = some (some (.ref C_NoEntry)))
    (cC_There : PySem.W.nsIn K mainGlobals "There" = some (some (.ref C_There)))
    (cC_TooMany : PySem.W.nsIn K mainGlobals "TooMany" = some (some (.ref C_TooMany)))
    (cC_BadFacts : PySem.W.nsIn K mainGlobals "BadFacts" = some (some (.ref C_BadFacts)))
    (cC_NoAnswer : PySem.W.nsIn K mainGlobals "NoAnswer" = some (some (.ref C_NoAnswer)))
    (cC_NoHouse : PySem.W.nsIn K mainGlobals "NoHouse" = some (some (.ref C_NoHouse)))
    (cC_BadChange : PySem.W.nsIn K mainGlobals "BadChange" = some (some (.ref C_BadChange)))
    (cC_NoAsk : PySem.W.nsIn K mainGlobals "NoAsk" = some (some (.ref C_NoAsk)))
    (cC_Broken : PySem.W.nsIn K mainGlobals "Broken" = some (some (.ref C_Broken)))
    (cC_Hopeless : PySem.W.nsIn K mainGlobals "Hopeless" = some (some (.ref C_Hopeless)))
    (cC_NoStep : PySem.W.nsIn K mainGlobals "NoStep" = some (some (.ref C_NoStep)))
    (ex_NoStep : PySem.W.excIn K C_NoStep veBase veNew = true)
    (cC_Late : PySem.W.nsIn K mainGlobals "Late" = some (some (.ref C_Late)))
    (ex_Late : PySem.W.excIn K C_Late veBase veNew = true)
    (cC_Nothing : PySem.W.nsIn K mainGlobals "Nothing" = some (some (.ref C_Nothing)))
    (ex_Nothing : PySem.W.excIn K C_Nothing veBase veNew = true)
    (cC_NoDeed : PySem.W.nsIn K mainGlobals "NoDeed" = some (some (.ref C_NoDeed)))
    (ex_NoDeed : PySem.W.excIn K C_NoDeed veBase veNew = true)
    (cC_NoText : PySem.W.nsIn K mainGlobals "NoText" = some (some (.ref C_NoText)))
    (ex_NoText : PySem.W.excIn K C_NoText veBase veNew = true)
    (cC_NoCommand : PySem.W.nsIn K mainGlobals "NoCommand" = some (some (.ref C_NoCommand)))
    (ex_NoCommand : PySem.W.excIn K C_NoCommand veBase veNew = true)
    (cC_ListError : PySem.W.nsIn K mainGlobals "ListError" = some (some (.ref C_ListError)))
    (ex_ListError : PySem.W.excIn K C_ListError veBase veNew = true)
    (ema0 : PySem.W.findIn K (.ref C_Wrong) "__init__" = some (some (.ref eg0))) (emi0 : PySem.W.typeIn K (.ref eg0) = some (.type "function")) (eml0 : K.lookup eg0 = some ⟨eoc0, eod0, .func (PySem.W.fnOf "__init__" "Wrong.__init__" (defArgs s_Wrong_init) (defBody s_Wrong_init) (defScope s_Wrong_init) .none ekV0 edc0 epm0 ean0 ecd0 ect0), esl0⟩) (emc0 : PySem.W.codeIn K ecd0 "Wrong.__init__" = true) (emk0 : PySem.W.keepIn K (.ref eg0) = true)
    (nf_Wrong_place : PySem.W.findIn K (.ref C_Wrong) "place" = some none)
    (ema1 : PySem.W.findIn K (.ref C_NoName) "__init__" = some (some (.ref eg1))) (emi1 : PySem.W.typeIn K (.ref eg1) = some (.type "function")) (eml1 : K.lookup eg1 = some ⟨eoc1, eod1, .func (PySem.W.fnOf "__init__" "NoName.__init__" (defArgs s_NoName_init) (defBody s_NoName_init) (defScope s_NoName_init) .none ekV1 edc1 epm1 ean1 ecd1 ect1), esl1⟩) (emc1 : PySem.W.codeIn K ecd1 "NoName.__init__" = true) (emk1 : PySem.W.keepIn K (.ref eg1) = true)
    (nf_NoName_name : PySem.W.findIn K (.ref C_NoName) "name" = some none)
    (ema2 : PySem.W.findIn K (.ref C_Full) "__init__" = some (some (.ref eg2))) (emi2 : PySem.W.typeIn K (.ref eg2) = some (.type "function")) (eml2 : K.lookup eg2 = some ⟨eoc2, eod2, .func (PySem.W.fnOf "__init__" "Full.__init__" (defArgs s_Full_init) (defBody s_Full_init) (defScope s_Full_init) .none ekV2 edc2 epm2 ean2 ecd2 ect2), esl2⟩) (emc2 : PySem.W.codeIn K ecd2 "Full.__init__" = true) (emk2 : PySem.W.keepIn K (.ref eg2) = true)
    (nf_Full_limit : PySem.W.findIn K (.ref C_Full) "limit" = some none)
    (ema3 : PySem.W.findIn K (.ref C_NoEntry) "__init__" = some (some (.ref eg3))) (emi3 : PySem.W.typeIn K (.ref eg3) = some (.type "function")) (eml3 : K.lookup eg3 = some ⟨eoc3, eod3, .func (PySem.W.fnOf "__init__" "NoEntry.__init__" (defArgs s_NoEntry_init) (defBody s_NoEntry_init) (defScope s_NoEntry_init) .none ekV3 edc3 epm3 ean3 ecd3 ect3), esl3⟩) (emc3 : PySem.W.codeIn K ecd3 "NoEntry.__init__" = true) (emk3 : PySem.W.keepIn K (.ref eg3) = true)
    (nf_NoEntry_entry : PySem.W.findIn K (.ref C_NoEntry) "entry" = some none)
    (ema4 : PySem.W.findIn K (.ref C_There) "__init__" = some (some (.ref eg4))) (emi4 : PySem.W.typeIn K (.ref eg4) = some (.type "function")) (eml4 : K.lookup eg4 = some ⟨eoc4, eod4, .func (PySem.W.fnOf "__init__" "There.__init__" (defArgs s_There_init) (defBody s_There_init) (defScope s_There_init) .none ekV4 edc4 epm4 ean4 ecd4 ect4), esl4⟩) (emc4 : PySem.W.codeIn K ecd4 "There.__init__" = true) (emk4 : PySem.W.keepIn K (.ref eg4) = true)
    (nf_There_name : PySem.W.findIn K (.ref C_There) "name" = some none)
    (ema5 : PySem.W.findIn K (.ref C_TooMany) "__init__" = some (some (.ref eg5))) (emi5 : PySem.W.typeIn K (.ref eg5) = some (.type "function")) (eml5 : K.lookup eg5 = some ⟨eoc5, eod5, .func (PySem.W.fnOf "__init__" "TooMany.__init__" (defArgs s_TooMany_init) (defBody s_TooMany_init) (defScope s_TooMany_init) .none ekV5 edc5 epm5 ean5 ecd5 ect5), esl5⟩) (emc5 : PySem.W.codeIn K ecd5 "TooMany.__init__" = true) (emk5 : PySem.W.keepIn K (.ref eg5) = true)
    (nf_TooMany_limit : PySem.W.findIn K (.ref C_TooMany) "limit" = some none)
    (ema6 : PySem.W.findIn K (.ref C_BadFacts) "__init__" = some (some (.ref eg6))) (emi6 : PySem.W.typeIn K (.ref eg6) = some (.type "function")) (eml6 : K.lookup eg6 = some ⟨eoc6, eod6, .func (PySem.W.fnOf "__init__" "BadFacts.__init__" (defArgs s_BadFacts_init) (defBody s_BadFacts_init) (defScope s_BadFacts_init) .none ekV6 edc6 epm6 ean6 ecd6 ect6), esl6⟩) (emc6 : PySem.W.codeIn K ecd6 "BadFacts.__init__" = true) (emk6 : PySem.W.keepIn K (.ref eg6) = true)
    (nf_BadFacts_name : PySem.W.findIn K (.ref C_BadFacts) "name" = some none)
    (ema7 : PySem.W.findIn K (.ref C_NoAnswer) "__init__" = some (some (.ref eg7))) (emi7 : PySem.W.typeIn K (.ref eg7) = some (.type "function")) (eml7 : K.lookup eg7 = some ⟨eoc7, eod7, .func (PySem.W.fnOf "__init__" "NoAnswer.__init__" (defArgs s_NoAnswer_init) (defBody s_NoAnswer_init) (defScope s_NoAnswer_init) .none ekV7 edc7 epm7 ean7 ecd7 ect7), esl7⟩) (emc7 : PySem.W.codeIn K ecd7 "NoAnswer.__init__" = true) (emk7 : PySem.W.keepIn K (.ref eg7) = true)
    (nf_NoAnswer_answer : PySem.W.findIn K (.ref C_NoAnswer) "answer" = some none)
    (ema8 : PySem.W.findIn K (.ref C_NoHouse) "__init__" = some (some (.ref eg8))) (emi8 : PySem.W.typeIn K (.ref eg8) = some (.type "function")) (eml8 : K.lookup eg8 = some ⟨eoc8, eod8, .func (PySem.W.fnOf "__init__" "NoHouse.__init__" (defArgs s_NoHouse_init) (defBody s_NoHouse_init) (defScope s_NoHouse_init) .none ekV8 edc8 epm8 ean8 ecd8 ect8), esl8⟩) (emc8 : PySem.W.codeIn K ecd8 "NoHouse.__init__" = true) (emk8 : PySem.W.keepIn K (.ref eg8) = true)
    (nf_NoHouse_house : PySem.W.findIn K (.ref C_NoHouse) "house" = some none)
    (ema9 : PySem.W.findIn K (.ref C_BadChange) "__init__" = some (some (.ref eg9))) (emi9 : PySem.W.typeIn K (.ref eg9) = some (.type "function")) (eml9 : K.lookup eg9 = some ⟨eoc9, eod9, .func (PySem.W.fnOf "__init__" "BadChange.__init__" (defArgs s_BadChange_init) (defBody s_BadChange_init) (defScope s_BadChange_init) .none ekV9 edc9 epm9 ean9 ecd9 ect9), esl9⟩) (emc9 : PySem.W.codeIn K ecd9 "BadChange.__init__" = true) (emk9 : PySem.W.keepIn K (.ref eg9) = true)
    (nf_BadChange_at : PySem.W.findIn K (.ref C_BadChange) "at" = some none)
    (ema10 : PySem.W.findIn K (.ref C_NoAsk) "__init__" = some (some (.ref eg10))) (emi10 : PySem.W.typeIn K (.ref eg10) = some (.type "function")) (eml10 : K.lookup eg10 = some ⟨eoc10, eod10, .func (PySem.W.fnOf "__init__" "NoAsk.__init__" (defArgs s_NoAsk_init) (defBody s_NoAsk_init) (defScope s_NoAsk_init) .none ekV10 edc10 epm10 ean10 ecd10 ect10), esl10⟩) (emc10 : PySem.W.codeIn K ecd10 "NoAsk.__init__" = true) (emk10 : PySem.W.keepIn K (.ref eg10) = true)
    (nf_NoAsk_at : PySem.W.findIn K (.ref C_NoAsk) "at" = some none)
    (ema11 : PySem.W.findIn K (.ref C_Broken) "__init__" = some (some (.ref eg11))) (emi11 : PySem.W.typeIn K (.ref eg11) = some (.type "function")) (eml11 : K.lookup eg11 = some ⟨eoc11, eod11, .func (PySem.W.fnOf "__init__" "Broken.__init__" (defArgs s_Broken_init) (defBody s_Broken_init) (defScope s_Broken_init) .none ekV11 edc11 epm11 ean11 ecd11 ect11), esl11⟩) (emc11 : PySem.W.codeIn K ecd11 "Broken.__init__" = true) (emk11 : PySem.W.keepIn K (.ref eg11) = true)
    (nf_Broken_at : PySem.W.findIn K (.ref C_Broken) "at" = some none)
    (ema12 : PySem.W.findIn K (.ref C_Hopeless) "__init__" = some (some (.ref eg12))) (emi12 : PySem.W.typeIn K (.ref eg12) = some (.type "function")) (eml12 : K.lookup eg12 = some ⟨eoc12, eod12, .func (PySem.W.fnOf "__init__" "Hopeless.__init__" (defArgs s_Hopeless_init) (defBody s_Hopeless_init) (defScope s_Hopeless_init) .none ekV12 edc12 epm12 ean12 ecd12 ect12), esl12⟩) (emc12 : PySem.W.codeIn K ecd12 "Hopeless.__init__" = true) (emk12 : PySem.W.keepIn K (.ref eg12) = true)
    (nf_Hopeless_many : PySem.W.findIn K (.ref C_Hopeless) "many" = some none)
    (nf_Hopeless_demand : PySem.W.findIn K (.ref C_Hopeless) "demand" = some none)
    (nf_Hopeless_answer : PySem.W.findIn K (.ref C_Hopeless) "answer" = some none)
    (tb : tabB K [C_Wrong, C_NoName, C_Full, C_NoEntry, C_There, C_TooMany, C_BadFacts, C_NoAnswer, C_NoHouse, C_BadChange, C_NoAsk, C_Broken, C_Hopeless, C_NoStep, C_Late, C_Nothing, C_NoDeed, C_NoText, C_NoCommand] C_ListError = true)
    {od0 an0 od1 an1 od2 an2 od3 an3 od4 an4 od5 an5 od6 an6 od7 an7 : Option Addr} {sl0 sl1 sl2 sl3 sl4 sl5 sl6 sl7 : Array (Option Value)} {oc0 kV0 dc0 pm0 cd0 ct0 oc1 kV1 dc1 pm1 cd1 ct1 oc2 kV2 dc2 pm2 cd2 ct2 oc3 kV3 dc3 pm3 cd3 ct3 oc4 kV4 dc4 pm4 cd4 ct4 oc5 kV5 dc5 pm5 cd5 ct5 oc6 kV6 dc6 pm6 cd6 ct6 oc7 kV7 dc7 pm7 cd7 ct7 : Value}
    (a0 : PySem.W.nsIn K mainGlobals "_law_bag" = some (some (.ref f0))) (l0 : K.lookup f0 = some ⟨oc0, od0, .func (PySem.W.fnOf "_law_bag" "_law_bag" (defArgs s_law_bag) (defBody s_law_bag) (defScope s_law_bag) .none kV0 dc0 pm0 an0 cd0 ct0), sl0⟩) (c0 : PySem.W.codeIn K cd0 "_law_bag" = true) (k0 : PySem.W.keepIn K (.ref f0) = true)
    (a1 : PySem.W.nsIn K mainGlobals "_law_take" = some (some (.ref f1))) (l1 : K.lookup f1 = some ⟨oc1, od1, .func (PySem.W.fnOf "_law_take" "_law_take" (defArgs s_law_take) (defBody s_law_take) (defScope s_law_take) .none kV1 dc1 pm1 an1 cd1 ct1), sl1⟩) (c1 : PySem.W.codeIn K cd1 "_law_take" = true) (k1 : PySem.W.keepIn K (.ref f1) = true)
    (a2 : PySem.W.nsIn K mainGlobals "_law_alike" = some (some (.ref f2))) (l2 : K.lookup f2 = some ⟨oc2, od2, .func (PySem.W.fnOf "_law_alike" "_law_alike" (defArgs s_law_alike) (defBody s_law_alike) (defScope s_law_alike) .none kV2 dc2 pm2 an2 cd2 ct2), sl2⟩) (c2 : PySem.W.codeIn K cd2 "_law_alike" = true) (k2 : PySem.W.keepIn K (.ref f2) = true)
    (a3 : PySem.W.nsIn K mainGlobals "_law_errors" = some (some (.ref f3))) (l3 : K.lookup f3 = some ⟨oc3, od3, .func (PySem.W.fnOf "_law_errors" "_law_errors" (defArgs s_law_errors) (defBody s_law_errors) (defScope s_law_errors) .none kV3 dc3 pm3 an3 cd3 ct3), sl3⟩) (c3 : PySem.W.codeIn K cd3 "_law_errors" = true) (k3 : PySem.W.keepIn K (.ref f3) = true)
    (a4 : PySem.W.nsIn K mainGlobals "_law_flags" = some (some (.ref f4))) (l4 : K.lookup f4 = some ⟨oc4, od4, .func (PySem.W.fnOf "_law_flags" "_law_flags" (defArgs s_law_flags) (defBody s_law_flags) (defScope s_law_flags) .none kV4 dc4 pm4 an4 cd4 ct4), sl4⟩) (c4 : PySem.W.codeIn K cd4 "_law_flags" = true) (k4 : PySem.W.keepIn K (.ref f4) = true)
    (a5 : PySem.W.nsIn K mainGlobals "_law_fields" = some (some (.ref f5))) (l5 : K.lookup f5 = some ⟨oc5, od5, .func (PySem.W.fnOf "_law_fields" "_law_fields" (defArgs s_law_fields) (defBody s_law_fields) (defScope s_law_fields) .none kV5 dc5 pm5 an5 cd5 ct5), sl5⟩) (c5 : PySem.W.codeIn K cd5 "_law_fields" = true) (k5 : PySem.W.keepIn K (.ref f5) = true)
    (a6 : PySem.W.nsIn K mainGlobals "_law_value" = some (some (.ref f6))) (l6 : K.lookup f6 = some ⟨oc6, od6, .func (PySem.W.fnOf "_law_value" "_law_value" (defArgs s_law_value) (defBody s_law_value) (defScope s_law_value) .none kV6 dc6 pm6 an6 cd6 ct6), sl6⟩) (c6 : PySem.W.codeIn K cd6 "_law_value" = true) (k6 : PySem.W.keepIn K (.ref f6) = true)
    (a7 : PySem.W.nsIn K mainGlobals "law" = some (some (.ref f7))) (l7 : K.lookup f7 = some ⟨oc7, od7, .func (PySem.W.fnOf "law" "law" (defArgs s_law) (defBody s_law) (defScope s_law) .none kV7 dc7 pm7 an7 cd7 ct7), sl7⟩) (c7 : PySem.W.codeIn K cd7 "law" = true) (k7 : PySem.W.keepIn K (.ref f7) = true)
    (z_abs : PySem.W.nsIn K mainGlobals "abs" = some none)
    (z_len : PySem.W.nsIn K mainGlobals "len" = some none)
    (z_int : PySem.W.nsIn K mainGlobals "int" = some none)
    (z_repr : PySem.W.nsIn K mainGlobals "repr" = some none)
    (z_range : PySem.W.nsIn K mainGlobals "range" = some none)
    (z_isinstance : PySem.W.nsIn K mainGlobals "isinstance" = some none)
    (z_list : PySem.W.nsIn K mainGlobals "list" = some none)
    (z_ValueError : PySem.W.nsIn K mainGlobals "ValueError" = some none) :
    ∃ fd : FuncData, (∀ (s : Shared) (v : Value), BindsTo s fd ⟨[v], []⟩ [("_law_script", v)]) ∧ ∀ base : Heap, K.In base → base.Ns mainGlobals mg → FnQ l.prog w K mg base 4 fa fd ["_law_script"] (spLaw K) := by
  have e := hfa.symm.trans (PySem.W.mg_of X G a7)
  cases e
  have F0 := fun_mk (st := s_law_bag) l0 c0 k0
  have D0 : Df K mg "_law_bag" s_law_bag ["_law_script"] f0 _ := ⟨F0, PySem.W.mg_of X G a0, F0.binds (ps := ["_law_script"]) fun _ _ _ _ _ _ us hl => match us, hl with | [_], _ => rfl⟩
  have F1 := fun_mk (st := s_law_take) l1 c1 k1
  have D1 : Df K mg "_law_take" s_law_take ["_law_bag_here", "_law_many"] f1 _ := ⟨F1, PySem.W.mg_of X G a1, F1.binds (ps := ["_law_bag_here", "_law_many"]) fun _ _ _ _ _ _ us hl => match us, hl with | [_, _], _ => rfl⟩
  have F2 := fun_mk (st := s_law_alike) l2 c2 k2
  have D2 : Df K mg "_law_alike" s_law_alike ["_law_found", "_law_right"] f2 _ := ⟨F2, PySem.W.mg_of X G a2, F2.binds (ps := ["_law_found", "_law_right"]) fun _ _ _ _ _ _ us hl => match us, hl with | [_, _], _ => rfl⟩
  have F3 := fun_mk (st := s_law_errors) l3 c3 k3
  have D3 : Df K mg "_law_errors" s_law_errors ["_law_x", "_law_y", "_law_z"] f3 _ := ⟨F3, PySem.W.mg_of X G a3, F3.binds (ps := ["_law_x", "_law_y", "_law_z"]) fun _ _ _ _ _ _ us hl => match us, hl with | [_, _, _], _ => rfl⟩
  have F4 := fun_mk (st := s_law_flags) l4 c4 k4
  have D4 : Df K mg "_law_flags" s_law_flags ["_law_e"] f4 _ := ⟨F4, PySem.W.mg_of X G a4, F4.binds (ps := ["_law_e"]) fun _ _ _ _ _ _ us hl => match us, hl with | [_], _ => rfl⟩
  have F5 := fun_mk (st := s_law_fields) l5 c5 k5
  have D5 : Df K mg "_law_fields" s_law_fields ["_law_some"] f5 _ := ⟨F5, PySem.W.mg_of X G a5, F5.binds (ps := ["_law_some"]) fun _ _ _ _ _ _ us hl => match us, hl with | [_], _ => rfl⟩
  have F6 := fun_mk (st := s_law_value) l6 c6 k6
  have D6 : Df K mg "_law_value" s_law_value ["_law_bag_here"] f6 _ := ⟨F6, PySem.W.mg_of X G a6, F6.binds (ps := ["_law_bag_here"]) fun _ _ _ _ _ _ us hl => match us, hl with | [_], _ => rfl⟩
  have F7 := fun_mk (st := s_law) l7 c7 k7
  have m_abs := PySem.W.mg_none_of X G z_abs
  have m_len := PySem.W.mg_none_of X G z_len
  have m_int := PySem.W.mg_none_of X G z_int
  have m_repr := PySem.W.mg_none_of X G z_repr
  have m_range := PySem.W.mg_none_of X G z_range
  have m_isinstance := PySem.W.mg_none_of X G z_isinstance
  have m_list := PySem.W.mg_none_of X G z_list
  have m_ValueError := PySem.W.mg_none_of X G z_ValueError
  have tab : Tab K 19 _ _ := tab_of tb
  have m_Wrong := PySem.W.mg_of X G cC_Wrong
  have m_NoName := PySem.W.mg_of X G cC_NoName
  have m_Full := PySem.W.mg_of X G cC_Full
  have m_NoEntry := PySem.W.mg_of X G cC_NoEntry
  have m_There := PySem.W.mg_of X G cC_There
  have m_TooMany := PySem.W.mg_of X G cC_TooMany
  have m_BadFacts := PySem.W.mg_of X G cC_BadFacts
  have m_NoAnswer := PySem.W.mg_of X G cC_NoAnswer
  have m_NoHouse := PySem.W.mg_of X G cC_NoHouse
  have m_BadChange := PySem.W.mg_of X G cC_BadChange
  have m_NoAsk := PySem.W.mg_of X G cC_NoAsk
  have m_Broken := PySem.W.mg_of X G cC_Broken
  have m_Hopeless := PySem.W.mg_of X G cC_Hopeless
  have m_NoStep := PySem.W.mg_of X G cC_NoStep
  have m_Late := PySem.W.mg_of X G cC_Late
  have m_Nothing := PySem.W.mg_of X G cC_Nothing
  have m_NoDeed := PySem.W.mg_of X G cC_NoDeed
  have m_NoText := PySem.W.mg_of X G cC_NoText
  have m_NoCommand := PySem.W.mg_of X G cC_NoCommand
  have m_ListError := PySem.W.mg_of X G cC_ListError
  have eM0 := fun_mk (st := s_Wrong_init) eml0 emc0 emk0
  have eB0 := eM0.binds (ps := ["self", "place"]) fun _ _ _ _ _ _ us hl => match us, hl with | [_, _], _ => rfl
  have eM1 := fun_mk (st := s_NoName_init) eml1 emc1 emk1
  have eB1 := eM1.binds (ps := ["self", "name"]) fun _ _ _ _ _ _ us hl => match us, hl with | [_, _], _ => rfl
  have eM2 := fun_mk (st := s_Full_init) eml2 emc2 emk2
  have eB2 := eM2.binds (ps := ["self", "limit"]) fun _ _ _ _ _ _ us hl => match us, hl with | [_, _], _ => rfl
  have eM3 := fun_mk (st := s_NoEntry_init) eml3 emc3 emk3
  have eB3 := eM3.binds (ps := ["self", "entry"]) fun _ _ _ _ _ _ us hl => match us, hl with | [_, _], _ => rfl
  have eM4 := fun_mk (st := s_There_init) eml4 emc4 emk4
  have eB4 := eM4.binds (ps := ["self", "name"]) fun _ _ _ _ _ _ us hl => match us, hl with | [_, _], _ => rfl
  have eM5 := fun_mk (st := s_TooMany_init) eml5 emc5 emk5
  have eB5 := eM5.binds (ps := ["self", "limit"]) fun _ _ _ _ _ _ us hl => match us, hl with | [_, _], _ => rfl
  have eM6 := fun_mk (st := s_BadFacts_init) eml6 emc6 emk6
  have eB6 := eM6.binds (ps := ["self", "name"]) fun _ _ _ _ _ _ us hl => match us, hl with | [_, _], _ => rfl
  have eM7 := fun_mk (st := s_NoAnswer_init) eml7 emc7 emk7
  have eB7 := eM7.binds (ps := ["self", "answer"]) fun _ _ _ _ _ _ us hl => match us, hl with | [_, _], _ => rfl
  have eM8 := fun_mk (st := s_NoHouse_init) eml8 emc8 emk8
  have eB8 := eM8.binds (ps := ["self", "house"]) fun _ _ _ _ _ _ us hl => match us, hl with | [_, _], _ => rfl
  have eM9 := fun_mk (st := s_BadChange_init) eml9 emc9 emk9
  have eB9 := eM9.binds (ps := ["self", "at"]) fun _ _ _ _ _ _ us hl => match us, hl with | [_, _], _ => rfl
  have eM10 := fun_mk (st := s_NoAsk_init) eml10 emc10 emk10
  have eB10 := eM10.binds (ps := ["self", "at"]) fun _ _ _ _ _ _ us hl => match us, hl with | [_, _], _ => rfl
  have eM11 := fun_mk (st := s_Broken_init) eml11 emc11 emk11
  have eB11 := eM11.binds (ps := ["self", "at"]) fun _ _ _ _ _ _ us hl => match us, hl with | [_, _], _ => rfl
  have eM12 := fun_mk (st := s_Hopeless_init) eml12 emc12 emk12
  have eB12 := eM12.binds (ps := ["self", "many", "demand", "answer"]) fun _ _ _ _ _ _ us hl => match us, hl with | [_, _, _, _], _ => rfl
  refine ⟨PySem.W.fnOf "law" "law" (defArgs s_law) (defBody s_law) (defScope s_law) .none kV7 dc7 pm7 an7 cd7 ct7, fun s v => .of_eq rfl, fun base _ _ => ?_⟩
  exact (by
    have T : Kit l.prog w K mg base (fun i => [C_Wrong, C_NoName, C_Full, C_NoEntry, C_There, C_TooMany, C_BadFacts, C_NoAnswer, C_NoHouse, C_BadChange, C_NoAsk, C_Broken, C_Hopeless, C_NoStep, C_Late, C_Nothing, C_NoDeed, C_NoText, C_NoCommand].getD i 0) C_ListError := ⟨tab, m_isinstance, ⟨(tab.ec 0 (by decide)).oex, ⟨eg0, _, ema0, emi0, ok_ei1 (f := "place") eM0 (tab.ec 0 (by decide)).oex nf_Wrong_place ⟨rfl, rfl, rfl, by decide +kernel, rfl, by decide +kernel, by decide +kernel⟩ rfl rfl (by decide) (by decide) rfl, eB0⟩, m_Wrong⟩,
      ⟨(tab.ec 1 (by decide)).oex, ⟨eg1, _, ema1, emi1, ok_ei1 (f := "name") eM1 (tab.ec 1 (by decide)).oex nf_NoName_name ⟨rfl, rfl, rfl, by decide +kernel, rfl, by decide +kernel, by decide +kernel⟩ rfl rfl (by decide) (by decide) rfl, eB1⟩, m_NoName⟩,
      ⟨(tab.ec 2 (by decide)).oex, ⟨eg2, _, ema2, emi2, ok_ei1 (f := "limit") eM2 (tab.ec 2 (by decide)).oex nf_Full_limit ⟨rfl, rfl, rfl, by decide +kernel, rfl, by decide +kernel, by decide +kernel⟩ rfl rfl (by decide) (by decide) rfl, eB2⟩, m_Full⟩,
      ⟨(tab.ec 3 (by decide)).oex, ⟨eg3, _, ema3, emi3, ok_ei1 (f := "entry") eM3 (tab.ec 3 (by decide)).oex nf_NoEntry_entry ⟨rfl, rfl, rfl, by decide +kernel, rfl, by decide +kernel, by decide +kernel⟩ rfl rfl (by decide) (by decide) rfl, eB3⟩, m_NoEntry⟩,
      ⟨(tab.ec 4 (by decide)).oex, ⟨eg4, _, ema4, emi4, ok_ei1 (f := "name") eM4 (tab.ec 4 (by decide)).oex nf_There_name ⟨rfl, rfl, rfl, by decide +kernel, rfl, by decide +kernel, by decide +kernel⟩ rfl rfl (by decide) (by decide) rfl, eB4⟩, m_There⟩,
      ⟨(tab.ec 5 (by decide)).oex, ⟨eg5, _, ema5, emi5, ok_ei1 (f := "limit") eM5 (tab.ec 5 (by decide)).oex nf_TooMany_limit ⟨rfl, rfl, rfl, by decide +kernel, rfl, by decide +kernel, by decide +kernel⟩ rfl rfl (by decide) (by decide) rfl, eB5⟩, m_TooMany⟩,
      ⟨(tab.ec 6 (by decide)).oex, ⟨eg6, _, ema6, emi6, ok_ei1 (f := "name") eM6 (tab.ec 6 (by decide)).oex nf_BadFacts_name ⟨rfl, rfl, rfl, by decide +kernel, rfl, by decide +kernel, by decide +kernel⟩ rfl rfl (by decide) (by decide) rfl, eB6⟩, m_BadFacts⟩,
      ⟨(tab.ec 7 (by decide)).oex, ⟨eg7, _, ema7, emi7, ok_ei1 (f := "answer") eM7 (tab.ec 7 (by decide)).oex nf_NoAnswer_answer ⟨rfl, rfl, rfl, by decide +kernel, rfl, by decide +kernel, by decide +kernel⟩ rfl rfl (by decide) (by decide) rfl, eB7⟩, m_NoAnswer⟩,
      ⟨(tab.ec 8 (by decide)).oex, ⟨eg8, _, ema8, emi8, ok_ei1 (f := "house") eM8 (tab.ec 8 (by decide)).oex nf_NoHouse_house ⟨rfl, rfl, rfl, by decide +kernel, rfl, by decide +kernel, by decide +kernel⟩ rfl rfl (by decide) (by decide) rfl, eB8⟩, m_NoHouse⟩,
      ⟨(tab.ec 9 (by decide)).oex, ⟨eg9, _, ema9, emi9, ok_ei1 (f := "at") eM9 (tab.ec 9 (by decide)).oex nf_BadChange_at ⟨rfl, rfl, rfl, by decide +kernel, rfl, by decide +kernel, by decide +kernel⟩ rfl rfl (by decide) (by decide) rfl, eB9⟩, m_BadChange⟩,
      ⟨(tab.ec 10 (by decide)).oex, ⟨eg10, _, ema10, emi10, ok_ei1 (f := "at") eM10 (tab.ec 10 (by decide)).oex nf_NoAsk_at ⟨rfl, rfl, rfl, by decide +kernel, rfl, by decide +kernel, by decide +kernel⟩ rfl rfl (by decide) (by decide) rfl, eB10⟩, m_NoAsk⟩,
      ⟨(tab.ec 11 (by decide)).oex, ⟨eg11, _, ema11, emi11, ok_ei1 (f := "at") eM11 (tab.ec 11 (by decide)).oex nf_Broken_at ⟨rfl, rfl, rfl, by decide +kernel, rfl, by decide +kernel, by decide +kernel⟩ rfl rfl (by decide) (by decide) rfl, eB11⟩, m_Broken⟩,
      ⟨(tab.ec 12 (by decide)).oex, ⟨eg12, _, ema12, emi12, ok_ei3 (f1 := "many") (f2 := "demand") (f3 := "answer") eM12 (tab.ec 12 (by decide)).oex nf_Hopeless_many nf_Hopeless_demand nf_Hopeless_answer ⟨rfl, rfl, rfl, by decide +kernel, rfl, by decide +kernel, by decide +kernel⟩ rfl rfl rfl rfl (by decide) (by decide) (by decide) (by decide) (by decide) (by decide) rfl, eB12⟩, m_Hopeless⟩,
      m_NoStep,
      ex_NoStep,
      m_Late,
      ex_Late,
      m_Nothing,
      ex_Nothing,
      m_NoDeed,
      ex_NoDeed,
      m_NoText,
      ex_NoText,
      m_NoCommand,
      ex_NoCommand,
      m_ListError,
      ex_ListError,
      nf_Wrong_place,
      nf_NoName_name,
      nf_Full_limit,
      nf_NoEntry_entry,
      nf_There_name,
      nf_TooMany_limit,
      nf_BadFacts_name,
      nf_NoAnswer_answer,
      nf_NoHouse_house,
      nf_BadChange_at,
      nf_NoAsk_at,
      nf_Broken_at,
      nf_Hopeless_many,
      nf_Hopeless_demand,
      nf_Hopeless_answer⟩
    have G0 := ok_bag (P := l.prog) (w := w) (base := base) F0 m_abs
    have G1 := ok_take (P := l.prog) (w := w) (base := base) F1 m_len m_int
    have G2 := ok_alike (P := l.prog) (w := w) (base := base) F2 m_repr
    have G3 := ok_errors F3 T
    have G4 := ok_flags F4 T
    have G5 := ok_fields F5 T
    have G6 := ok_value (P := l.prog) (w := w) (base := base) F6 D1 G1
    exact ok_law F7 T D0 G0 D2 G2 D6 G6 D3 G3 D4 G4 D5 G5 m_range m_list m_ValueError)
end K12
open PySem PySem.W PyProof.Rows
set_option maxRecDepth 100000 in
set_option maxHeartbeats 0 in
theorem PySem.Challenge.cw_listnames_k12_errors_apart_holds : PySem.Challenge.rw_listnames_k12_errors_apart.Holds := by
  w_on; o_law; k_head; (case hw => w_witness2)
  k_fill
  refine LN.walk_ofQ (l := PySem.Challenge.rw_listnames_k12_errors_apart) (n := 63) (k := 4) (x := "_law_script") (sp := fun w => K12.spLaw _) rfl (by decide) rfl ⟨rfl, by decide, by decide⟩ (fun w h Y => PySem.W.kIn_of Y) ?F (fun _ _ a ns hl _ hS => ⟨a, ns, rfl, hS, hl, fun _ => rfl⟩)
  case F =>
    intro w mg fa h KX G hmg
    refine' K12.all_mk KX G hmg ?cC_Wrong ?cC_NoName ?cC_Full ?cC_NoEntry ?cC_There ?cC_TooMany ?cC_BadFacts ?cC_NoAnswer ?cC_NoHouse ?cC_BadChange ?cC_NoAsk ?cC_Broken ?cC_Hopeless ?cC_NoStep ?ex_NoStep ?cC_Late ?ex_Late ?cC_Nothing ?ex_Nothing ?cC_NoDeed ?ex_NoDeed ?cC_NoText ?ex_NoText ?cC_NoCommand ?ex_NoCommand ?cC_ListError ?ex_ListError ?ema0 ?emi0 ?eml0 ?emc0 ?emk0 ?nf_Wrong_place ?ema1 ?emi1 ?eml1 ?emc1 ?emk1 ?nf_NoName_name ?ema2 ?emi2 ?eml2 ?emc2 ?emk2 ?nf_Full_limit ?ema3 ?emi3 ?eml3 ?emc3 ?emk3 ?nf_NoEntry_entry ?ema4 ?emi4 ?eml4 ?emc4 ?emk4 ?nf_There_name ?ema5 ?emi5 ?eml5 ?emc5 ?emk5 ?nf_TooMany_limit ?ema6 ?emi6 ?eml6 ?emc6 ?emk6 ?nf_BadFacts_name ?ema7 ?emi7 ?eml7 ?emc7 ?emk7 ?nf_NoAnswer_answer ?ema8 ?emi8 ?eml8 ?emc8 ?emk8 ?nf_NoHouse_house ?ema9 ?emi9 ?eml9 ?emc9 ?emk9 ?nf_BadChange_at ?ema10 ?emi10 ?eml10 ?emc10 ?emk10 ?nf_NoAsk_at ?ema11 ?emi11 ?eml11 ?emc11 ?emk11 ?nf_Broken_at ?ema12 ?emi12 ?eml12 ?emc12 ?emk12 ?nf_Hopeless_many ?nf_Hopeless_demand ?nf_Hopeless_answer ?tb ?a0 ?l0 ?c0 ?k0 ?a1 ?l1 ?c1 ?k1 ?a2 ?l2 ?c2 ?k2 ?a3 ?l3 ?c3 ?k3 ?a4 ?l4 ?c4 ?k4 ?a5 ?l5 ?c5 ?k5 ?a6 ?l6 ?c6 ?k6 ?a7 ?l7 ?c7 ?k7 ?z_abs ?z_len ?z_int ?z_repr ?z_range ?z_isinstance ?z_list ?z_ValueError
    (case cC_Wrong => k_is)
    (case cC_NoName => k_is)
    (case cC_Full => k_is)
    (case cC_NoEntry => k_is)
    (case cC_There => k_is)
    (case cC_TooMany => k_is)
    (case cC_BadFacts => k_is)
    (case cC_NoAnswer => k_is)
    (case cC_NoHouse => k_is)
    (case cC_BadChange => k_is)
    (case cC_NoAsk => k_is)
    (case cC_Broken => k_is)
    (case cC_Hopeless => k_is)
    (case cC_NoStep => k_is)
    (case ex_NoStep => kernel_rfl)
    (case cC_Late => k_is)
    (case ex_Late => kernel_rfl)
    (case cC_Nothing => k_is)
    (case ex_Nothing => kernel_rfl)
    (case cC_NoDeed => k_is)
    (case ex_NoDeed => kernel_rfl)
    (case cC_NoText => k_is)
    (case ex_NoText => kernel_rfl)
    (case cC_NoCommand => k_is)
    (case ex_NoCommand => kernel_rfl)
    (case cC_ListError => k_is)
    (case ex_ListError => kernel_rfl)
    (case ema0 => k_is)
    (case emi0 => k_is)
    (case eml0 => k_is)
    (case emc0 => k_is)
    (case emk0 => k_is)
    (case nf_Wrong_place => k_is)
    (case ema1 => k_is)
    (case emi1 => k_is)
    (case eml1 => k_is)
    (case emc1 => k_is)
    (case emk1 => k_is)
    (case nf_NoName_name => k_is)
    (case ema2 => k_is)
    (case emi2 => k_is)
    (case eml2 => k_is)
    (case emc2 => k_is)
    (case emk2 => k_is)
    (case nf_Full_limit => k_is)
    (case ema3 => k_is)
    (case emi3 => k_is)
    (case eml3 => k_is)
    (case emc3 => k_is)
    (case emk3 => k_is)
    (case nf_NoEntry_entry => k_is)
    (case ema4 => k_is)
    (case emi4 => k_is)
    (case eml4 => k_is)
    (case emc4 => k_is)
    (case emk4 => k_is)
    (case nf_There_name => k_is)
    (case ema5 => k_is)
    (case emi5 => k_is)
    (case eml5 => k_is)
    (case emc5 => k_is)
    (case emk5 => k_is)
    (case nf_TooMany_limit => k_is)
    (case ema6 => k_is)
    (case emi6 => k_is)
    (case eml6 => k_is)
    (case emc6 => k_is)
    (case emk6 => k_is)
    (case nf_BadFacts_name => k_is)
    (case ema7 => k_is)
    (case emi7 => k_is)
    (case eml7 => k_is)
    (case emc7 => k_is)
    (case emk7 => k_is)
    (case nf_NoAnswer_answer => k_is)
    (case ema8 => k_is)
    (case emi8 => k_is)
    (case eml8 => k_is)
    (case emc8 => k_is)
    (case emk8 => k_is)
    (case nf_NoHouse_house => k_is)
    (case ema9 => k_is)
    (case emi9 => k_is)
    (case eml9 => k_is)
    (case emc9 => k_is)
    (case emk9 => k_is)
    (case nf_BadChange_at => k_is)
    (case ema10 => k_is)
    (case emi10 => k_is)
    (case eml10 => k_is)
    (case emc10 => k_is)
    (case emk10 => k_is)
    (case nf_NoAsk_at => k_is)
    (case ema11 => k_is)
    (case emi11 => k_is)
    (case eml11 => k_is)
    (case emc11 => k_is)
    (case emk11 => k_is)
    (case nf_Broken_at => k_is)
    (case ema12 => k_is)
    (case emi12 => k_is)
    (case eml12 => k_is)
    (case emc12 => k_is)
    (case emk12 => k_is)
    (case nf_Hopeless_many => k_is)
    (case nf_Hopeless_demand => k_is)
    (case nf_Hopeless_answer => k_is)
    (case tb => kernel_rfl)
    (case a0 => k_is)
    (case l0 => k_is)
    (case c0 => k_is)
    (case k0 => k_is)
    (case a1 => k_is)
    (case l1 => k_is)
    (case c1 => k_is)
    (case k1 => k_is)
    (case a2 => k_is)
    (case l2 => k_is)
    (case c2 => k_is)
    (case k2 => k_is)
    (case a3 => k_is)
    (case l3 => k_is)
    (case c3 => k_is)
    (case k3 => k_is)
    (case a4 => k_is)
    (case l4 => k_is)
    (case c4 => k_is)
    (case k4 => k_is)
    (case a5 => k_is)
    (case l5 => k_is)
    (case c5 => k_is)
    (case k5 => k_is)
    (case a6 => k_is)
    (case l6 => k_is)
    (case c6 => k_is)
    (case k6 => k_is)
    (case a7 => k_is)
    (case l7 => k_is)
    (case c7 => k_is)
    (case k7 => k_is)
    (case z_abs => k_is)
    (case z_len => k_is)
    (case z_int => k_is)
    (case z_repr => k_is)
    (case z_range => k_is)
    (case z_isinstance => k_is)
    (case z_list => k_is)
    (case z_ValueError => k_is)
