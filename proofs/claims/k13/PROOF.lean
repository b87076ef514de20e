import PyProof.Rows.All
import Wide.All
import OpenK.AllK
import Wide.FinOn
import HandS.Base
import HandS.Call
import HandS.List
import HandS.Comp
import HandS.Ends
import HandS.Words
import HandS.Codes
import HandS.TupAny
import HandS.More
import HandS.Iter
import HandS.Text
import HandS.Dict
import HandS.WordsList
import HandS.Evl
import PySem.Challenge.RW_listnames_k13_names_and_tops
set_option Elab.async false
set_option linter.all false
set_option maxRecDepth 100000
namespace LN
open PySem PySem.Spec PyProof.Rows L2

/-! calls around which no text of a container is being made -/
abbrev Quiet (A : Around) : Prop := A.guards = some []

structure FnQ (P : Program) (w : World) (K : PySem.W.Frag) (mg : Str → Option Value) (base : Heap) (k : Nat) (f : Addr) (fd : FuncData) (ps : List Str) (sp : Sp) : Prop where
  size : ∀ vs H Q, sp vs H Q E0 → vs.length = ps.length
  go : ∀ (A : Around) (outer : List Env) (s : Shared) (H : Hp) (us : List Value) (vs : List V) (Q : VK), Quiet A → Room k A → Env0 P w K mg base A outer s H →
    BindsTo s fd ⟨us, []⟩ (ps.zip us) → Vals vs us → sp vs H Q E0 → codeAny (model P w) A (.call (.ref f) ⟨us, []⟩) (CR CX0 outer P w H s Q E0) s

section
variable {P : Program} {w : World} {K : PySem.W.Frag} {mg : Str → Option Value} {base : Heap}
theorem okQ {x qual : Str} {st : Stmt} {f : Addr} {fd : FuncData} {N ps : List Str} {k : Nat} {sp : Sp} (F : Fun K x qual st f fd) (S : FnScope N ps (defScope st))
    (size : ∀ vs H Q, sp vs H Q E0 → vs.length = ps.length)
    (body : ∀ (cdv : Value) (A : Around) (outer : List Env) (s : Shared) (H : Hp) (vs : List V) (Q : VK), Quiet A →
      Room k (A.deeper (envOfC qual (defScope st) s.heap.objs.size f cdv)) → sp vs H Q E0 →
      ∃ t, PSs (cxOf CX0 P w K mg base N qual (defScope st) f cdv A outer s H E0).nox (defBody st) t ∧ t { nx := fun _ H' => Q .non H', rt := Q } (start N vs) H) :
    FnQ P w K mg base (k + 1) f fd ps sp := by
  obtain ⟨oc, od, kV, doc, pm, an, cdv, ct, osl, rfl, lk, hcd⟩ := F.ex
  constructor
  · exact size
  intro A outer s H us vs Q quiet room env binds rel want
  have inHeap : K.In s.heap := env.mod.kin.keeps (fun b o e => (env.bs b o e).1)
  have noLim : s.heap.NoLimit := env.mod.nolimit.keeps (fun b o e => (env.bs b o e).1)
  have kinds : ∀ y ∈ ps.zip us, (defScope st).names.lookup y.1 = some .local ∨
      ((defScope st).names.lookup y.1 = some .cell ∧ ((cellsFrom (s.heap.objs.size + 1) (defScope st).names []).lookup y.1).isSome = true) := by
    intro y hy
    cases S.par y.1 (List.of_mem_zip (show (y.1, y.2) ∈ ps.zip us from hy)).1 with
    | inl q => exact .inl q
    | inr q => exact .inr ⟨q, PySem.W.cellsFrom_some _ _ _ (.inl q)⟩
  apply codeAny_call_function room.depth (inHeap _ _ lk) rfl S.co S.gen rfl (PySem.W.codeRec_of inHeap hcd) (binds _ _ _ _ _)
  apply wpAny_newFunctionEnv_cells S.kind kinds
  intro env' henv s1 entered
  subst henv
  refine ⟨noLim.keeps entered.toInCall.keep, codeAny_func ?_⟩
  obtain ⟨t, rule, reads⟩ := body cdv A outer s H vs Q quiet (room.deeper _) want
  have inv := inv_start (CX := CX0) (E := E0) S room.hd env (size _ _ _ want) rel entered
  refine wpAny_mono (rule.nox.run [] s1 (start N vs) H _ inv reads) ?_ (fun e s' hs => hs)
  intro fl s' hs
  cases fl with
  | ret u =>
    obtain ⟨v, σ', H', J, rv, q⟩ := hs
    exact ⟨v, H', J.os, J.bare, J.base, J.hok, rv, q⟩
  | next =>
    obtain ⟨σ', H', J, q⟩ := hs
    exact ⟨V.non, H', J.os, J.bare, J.base, J.hok, rfl, q⟩
  | brk =>
    obtain ⟨_, _, _, q⟩ := hs
    cases q
  | cont =>
    obtain ⟨_, _, _, q⟩ := hs
    cases q
end

section
variable {X : Cx} {k : Nat} {f : Addr} {fd : FuncData} {ps : List Str} {sp : Sp} {x : Str} {p pos : Pos} {e : Expr} {es : List Expr} {t : TA}
theorem callQ (F : FnQ X.prog X.w X.K X.mg X.base k f fd ps sp) (quiet : Quiet X.A) (room : Room k X.A) (hg : Gl X x) (hm : X.mg x = some (.ref f)) (hk : PySem.W.keepIn X.K (.ref f) = true)
    (hb : Binds X.K fd ps []) (args : PA X (e :: es) t) (hdb : (x == ("__debug__" : Str)) = false := by decide) (he : starEach (e :: es) X.env = (false, eval e X.env) :: starEach es X.env := by rfl)
    (hpl : (backTo pos (starEach es X.env)).any (·.1) = false := by rfl) : PE X (.Call (.Name x p) (e :: es) [] pos) (tCall sp [] E0 t) := by
  constructor
  intro pins s σ H Q inv want
  apply wpAny_Call_Name_kw (ld_glob inv hg hm _ hdb)
  apply PySem.W.callWith_K (h₀ := X.base) inv.ok.mod.kin hk _ he hpl
  refine thn (args.run pos pins s σ H _ inv want) ?_
  rintro us s1 ⟨vs, H1, I1, r, q⟩
  refine ⟨I1.kIn, ?_⟩
  rw [List.append_nil] at q
  have hl : us.length = ps.length := r.length.symm.trans (F.size _ _ _ q)
  have hbs := hb s1 us I1.kIn (by rw [List.append_nil]; exact hl)
  rw [List.append_nil] at hbs
  refine wpAny_call (codeAny_mono (F.go X.A X.stack s1 H1 us vs Q quiet room I1.env0 hbs r q) ?_)
  intro r' s' hq
  cases r' with
  | error e => cases (show False from hq)
  | ok fl =>
    cases fl with
    | ret u => exact I1.after hq
    | next => cases (show False from hq)
    | brk => cases (show False from hq)
    | cont => cases (show False from hq)

theorem cr_repr (quiet : Quiet X.A) (hu : X.A.units + 70 < cLine) : CallR X (.builtin "repr") (fun xs H Q => ∃ x d, xs = [x] ∧ Dp X.K H x d ∧ d.showable = true ∧ d.hasDict = false ∧ d.depth ≤ 60 ∧ d.shown.length ≤ sizeLine ∧ Q (.str d.shown) H) := by
  intro pins s σ H xs us Q inv rel want
  obtain ⟨x, d, rfl, hd, h1, h2, h3, h4, q⟩ := want
  obtain ⟨u, rfl, ru⟩ := vals1 rel
  obtain ⟨as, rd⟩ := Dp.reads inv d _ _ hd ru
  have fin : ∀ tk t, EP X pins σ Q (.str d.shown t) { s with toks := tk } := fun tk t => ⟨.str d.shown, H, inv.tok _, ⟨t, rfl⟩, q⟩
  cases hd with
  | non =>
    obtain rfl : u = Value.none := ru
    exact PySem.P.repr_of_none (fin _ _)
  | bl b =>
    obtain rfl : u = Value.bool b := ru
    exact PySem.P.repr_of_bool (fin _ _)
  | int i =>
    obtain ⟨t, rfl⟩ := ru
    exact PySem.P.repr_of_int (of_decide_eq_true h1) (fin _ _)
  | str z =>
    obtain ⟨t, rfl⟩ := ru
    exact PySem.P.repr_of_str (fin _ _) h4
  | lst q1 q2 =>
    cases ru
    refine repr_of_reads' rd h1 (PyData.noDict_hsm h2) quiet (by omega) (fun _ _ e => e) ?_ h4
    intro h' u tk hk
    exact ⟨.str (PyData.list _).shown, H, inv.un (t' := tk) (Un.kept hk) (inv.hok.kept hk), ⟨u, rfl⟩, q⟩
  | tup q1 q2 =>
    cases ru
    refine repr_of_reads' rd h1 (PyData.noDict_hsm h2) quiet (by omega) (fun _ _ e => e) ?_ h4
    intro h' u tk hk
    exact ⟨.str (PyData.tuple _).shown, H, inv.un (t' := tk) (Un.kept hk) (inv.hok.kept hk), ⟨u, rfl⟩, q⟩
end
end LN

namespace LN
open PySem PySem.Spec PyProof.Rows L2

section
variable {P : Program} {w : World} {K : PySem.W.Frag} {mg mb : Str → Option Value} {k : Nat} {fa a : Addr} {fd : FuncData} {x : Str} {sp : Sp} {s₁ : Shared} {vs : List Value} {ns : List Int}
abbrev EndsTrue (s₁ : Shared) : Result → Shared → Prop := fun r s' => r = .ok (.ret (.bool true)) ∧ PySem.OldK s₁.heap s'.heap ∧ s'.os = s₁.os ∧ AllBare s'.gens

theorem law_over (inHeap : K.In s₁.heap) (top : s₁.heap.Ns mainGlobals mg) (blt : s₁.heap.Ns builtinsNs mb) (bltIs : ∀ x : Str, x ≠ "__name__" → mb x = bootBuiltins x) (lim : s₁.heap.NoLimit) (gens : s₁.gens = #[])
    (script : s₁.heap.get? a = some { cls := .type "list", data := .seq vs.toArray }) (room : Room k callerA)
    (F : ∀ base : Heap, K.In base → base.Ns mainGlobals mg → FnQ P w K mg base k fa fd [x] sp) (bind : ∀ (s : Shared) (u : Value), BindsTo s fd ⟨[u], []⟩ [(x, u)])
    (H : Hp) (only : Only H) (held : HOk P w H s₁.heap) (there : ∀ b, H b ≠ none → b = a) (off : H a ≠ none → K.lookup a = none) (want : sp [.ref a] H (fun v _ => v = .bl true) E0) :
    codeAny (model P w) callerA (.call (.ref fa) ⟨[.ref a], []⟩) (EndsTrue s₁) s₁ := by
  have stay : ∀ {b : Addr} {o : Obj}, s₁.heap.get? b = some o → H b = none → (hidT s₁.heap H).get? b = some o := fun e n => hidT_get e n
  have notDict : ∀ {b : Addr} {o : Obj} {es : Array DictEntry} {ep : Nat}, s₁.heap.get? b = some o → o.data = .dict es ep → H b = none := by
    intro b o es ep e d
    cases q : H b with
    | none => rfl
    | some u =>
      have eb := there b (by rw [q]; exact Option.some_ne_none u)
      rw [eb, script] at e
      cases e
      cases (show Data.seq vs.toArray _ = Data.dict es ep from d)
  have spaces : ∀ {b : Addr} {m : Str → Option Value}, s₁.heap.Ns b m → (hidT s₁.heap H).Ns b m := by
    rintro b m ⟨o, es, ep, e, d, r⟩
    exact ⟨o, es, ep, stay e (notDict e d), d, r⟩
  have inHid : K.In (hidT s₁.heap H) := by
    intro b o e
    refine stay (inHeap b o e) ?_
    cases q : H b with
    | none => rfl
    | some u =>
      have eb := there b (by rw [q]; exact Option.some_ne_none u)
      have z := off (by rw [← eb, q]; exact Option.some_ne_none u)
      rw [eb, z] at e
      cases e
  have md : Mod K mg (hidT s₁.heap H) := by
    obtain ⟨mc, l1, l2⟩ := lim
    exact ⟨inHid, spaces top, ⟨mb, spaces blt, bltIs⟩, ⟨mc, spaces l1, l2⟩⟩
  have env : Env0 P w K mg (hidT s₁.heap H) callerA [] s₁ H := by
    refine ⟨rfl, md, fun b o e => of_hidT e, Nat.le_of_eq (hidT_size _ _), trivial, ?_, held, .of_eq gens⟩
    intro b hb
    exact absurd (show b ∈ ([] : List Addr) from hb) List.not_mem_nil
  refine codeAny_mono ((F _ inHid (spaces top)).go callerA [] s₁ H [.ref a] [.ref a] _ rfl room env (bind s₁ (.ref a)) (.cons rfl .nil) want) ?_
  intro r s' h
  cases r with
  | error e => cases (show False from h)
  | ok fl =>
    cases fl with
    | next => cases (show False from h)
    | brk => cases (show False from h)
    | cont => cases (show False from h)
    | ret u =>
      obtain ⟨v, H', os, bare, un, held', rv, q⟩ := h
      obtain rfl : v = .bl true := q
      obtain rfl : u = Value.bool true := rv
      refine ⟨rfl, OldK.of_keep ?_, os, bare⟩
      intro b o e
      cases q : H b with
      | none => exact un.keep b o e q (fun z => absurd (show b ∈ ([] : List Addr) from z) List.not_mem_nil) List.not_mem_nil
      | some u =>
        cases only b with
        | inl z => rw [q] at z; cases z
        | inr z =>
          obtain ⟨ob, xs, z⟩ := z
          obtain ⟨e1, _⟩ := held b _ z
          obtain ⟨e2, _⟩ := held' b _ (un.frzs b ob _ z)
          rw [e] at e1
          cases e1
          exact e2

theorem law_callQ (inHeap : K.In s₁.heap) (top : s₁.heap.Ns mainGlobals mg) (blt : s₁.heap.Ns builtinsNs mb) (bltIs : ∀ x : Str, x ≠ "__name__" → mb x = bootBuiltins x) (lim : s₁.heap.NoLimit) (gens : s₁.gens = #[])
    (script : s₁.heap.get? a = some { cls := .type "list", data := .seq vs.toArray }) (whole : IntsAre vs ns) (size : ns.length ≤ sizeLine) (room : Room k callerA)
    (F : ∀ base : Heap, K.In base → base.Ns mainGlobals mg → FnQ P w K mg base k fa fd [x] sp) (bind : ∀ (s : Shared) (u : Value), BindsTo s fd ⟨[u], []⟩ [(x, u)])
    (want : ∀ H : Hp, Only H → SqL K H a (ns.map V.int) → sp [.ref a] H (fun v _ => v = .bl true) E0) :
    codeAny (model P w) callerA (.call (.ref fa) ⟨[.ref a], []⟩) (EndsTrue s₁) s₁ := by
  have rv := vals_ints whole
  cases hk : K.lookup a with
  | some o =>
    have e := inHeap a o hk
    rw [script] at e
    cases e
    have sq : SqL K (fun _ => none) a (ns.map V.int) := by
      refine .inr ⟨_, vs.toArray, _, hk, rfl, rfl, rfl, ?_, by simpa using rv⟩
      rw [List.size_toArray, whole.length]
      exact size
    exact law_over inHeap top blt bltIs lim gens script room F bind (fun _ => none) (fun _ => .inl rfl) (fun b u z => nomatch (show (none : Option HO) = some u from z)) (fun b z => absurd rfl z) (fun z => absurd rfl z) (want _ (fun _ => .inl rfl) sq)
  | none =>
    let H : Hp := fun b => if b = a then some (.frz { cls := .type "list", data := .seq vs.toArray } (.lst (ns.map V.int))) else none
    have ha : H a = some (.frz { cls := .type "list", data := .seq vs.toArray } (.lst (ns.map V.int))) := if_pos rfl
    have hb : ∀ b, b ≠ a → H b = none := fun b n => if_neg n
    have only : Only H := by
      intro b
      by_cases e : b = a
      · rw [e]; exact .inr ⟨_, _, ha⟩
      · exact .inl (hb b e)
    refine law_over inHeap top blt bltIs lim gens script room F bind H only ?_ ?_ (fun _ => hk) (want H only (.inl (.inr ⟨_, ha⟩)))
    · intro b u z
      by_cases e : b = a
      · subst e
        rw [ha] at z
        cases z
        exact ⟨script, by rw [List.length_map]; exact size, vs, _, rv, script⟩
      · rw [hb b e] at z
        cases z
    · intro b z
      by_cases e : b = a
      · exact e
      · exact absurd (hb b e) z
end

theorem walk_ofQ {l : PySem.W.OpenLaw} {n k : Nat} {q : Program} {loose : List Str} {XP : (Str → Option Value) → Heap → Prop} {YP : World → Heap → Prop} {d : DefRec} {K : Params → PySem.W.Frag} {sp : World → Sp} {x : Str}
    (most : l.most = some n) (few : n ≤ sizeLine) (plain : d.params.defaults = []) (room : Room k callerA) (hY : ∀ (w : World) (h : Heap), YP w h → (K w.params).In h)
    (F : ∀ (w : World) (mg : Str → Option Value) (fa : Addr) (h : Heap), (K w.params).In h → h.Ns mainGlobals mg → mg d.name = some (.ref fa) →
      ∃ fd : FuncData, (∀ (s : Shared) (u : Value), BindsTo s fd ⟨[u], []⟩ [(x, u)]) ∧
        ∀ base : Heap, (K w.params).In base → base.Ns mainGlobals mg → FnQ l.prog w (K w.params) mg base k fa fd [x] (sp w))
    (want : ∀ (w : World) (H : Hp) (a : Addr) (ns : List Int), ns.length ≤ n → Only H → SqL (K w.params) H a (ns.map V.int) → sp w [.ref a] H (fun v _ => v = .bl true) E0) :
    PySem.W.WalkO q loose XP YP l.row.toRowW d [] (fun f vs => PySem.call f vs) := by
  apply Att.attach_call most plain
  intro w s₀ s₁ mg mb fa o pm cd doc a vs ns G Y ho hd hcd hmg hobj whole len gens
  obtain ⟨fd, bind, hF⟩ := F w mg fa _ (hY w _ Y) G.T.g hmg
  exact law_callQ (hY w _ Y) G.T.g G.T.b G.T.builtins G.T.nolimit gens hobj whole (Nat.le_trans len few) room hF bind (fun H only sq => want w H a ns len only sq)
end LN

namespace LN
open PySem PySem.Spec PyProof.Rows L2
theorem same_put {H : Hp} {p : Addr} {o : HO} (h : H p = none) : Same H (upd H p o) := fun b x e => by
  rw [upd_ne (ne_of_none e h)]
  exact e
theorem upd_own {H : Hp} {p : Addr} {o : HO} (h : H p = some o) : upd H p o = H := by
  funext b
  by_cases e : b = p
  · rw [e, upd_same, h]
  · rw [upd_ne e]

section
variable {X : Cx}
/-- xs[i], i counted from 0, where the store of xs[i] op= e reads it -/
theorem get_list : PGet X (fun x y H Q => ∃ p xs i v, x = .ref p ∧ y = .int (i : Nat) ∧ i < 1000 ∧ H p = some (.lst xs) ∧ xs[i]? = some v ∧ Q v H) := by
  intro pins s σ H o i ov iv Q inv ro ri want
  obtain ⟨p, xs, j, v, rfl, rfl, small, hp, at_, q⟩ := want
  obtain rfl : ov = Value.ref p := ro
  obtain ⟨t, rfl⟩ := ri
  obtain ⟨its, r, pl, hz⟩ := inv.list (.inl (.inl hp))
  obtain ⟨u, eu, ru⟩ := r.get at_
  refine wpAny_getItem_list pl.isList (Int.natCast_nonneg _) (by omega) (by simpa using eu) ?_
  exact ⟨v, H, inv, ru, q⟩

/-- text * int -/
theorem op_mulStr : OpR X (binaryOp .Mult) (fun x y H Q => ∃ z n, x = .str z ∧ y = .int n ∧ MulOk z n ∧ Q (.str (Txt.mul z n)) H) := by
  intro pins s σ H x y v u Q inv rx ry want
  obtain ⟨z, n, rfl, rfl, ok, q⟩ := want
  obtain ⟨t, rfl⟩ := rx
  obtain ⟨t', rfl⟩ := ry
  refine SB.mul ok ?_
  intro t'' k
  exact ⟨.str _, H, inv.tok _, ⟨_, rfl⟩, q⟩
end

/-- the bag of a law: four places; what is drawn next hangs on the first three -/
def Bag (b bc : Addr) (H : Hp) : Prop := ∃ (x0 x1 x2 : Int) (ns : List Int), bc ≠ b ∧ H b = some (.lst [.int x0, .int x1, .int x2, .ref bc]) ∧ H bc = some (.lst (ns.map V.int)) ∧ 0 ≤ x1 ∧ x1 < 2147483647 ∧ 0 ≤ x2
theorem Bag.same {b bc : Addr} {H H' : Hp} (h : Bag b bc H) (s : Same H H') : Bag b bc H' := by
  obtain ⟨x0, x1, x2, ns, h1, h2, h3, h4⟩ := h
  exact ⟨x0, x1, x2, ns, h1, s _ _ h2, s _ _ h3, h4⟩
/-- all that was tracked, but the bag, is as it was; the bag is one -/
structure Drew (b bc : Addr) (H H' : Hp) : Prop where
  bag : Bag b bc H'
  keep : ∀ a o, a ≠ b → H a = some o → H' a = some o
  held : ∀ a, H a ≠ none → H' a ≠ none
theorem Drew.refl {b bc : Addr} {H : Hp} (h : Bag b bc H) : Drew b bc H H := ⟨h, fun _ _ _ e => e, fun _ e => e⟩
theorem Drew.trans {b bc : Addr} {H H1 H2 : Hp} (h : Drew b bc H H1) (g : Drew b bc H1 H2) : Drew b bc H H2 := ⟨g.bag, fun a o n e => g.keep a o n (h.keep a o n e), fun a e => g.held a (h.held a e)⟩
theorem Drew.same {b bc : Addr} {H H1 H2 : Hp} (h : Drew b bc H H1) (g : Same H1 H2) : Drew b bc H H2 := ⟨h.bag.same g, fun a o n e => g a o (h.keep a o n e), fun a e z => by
  have := h.held a e
  cases q : H1 a with
  | none => exact this q
  | some o => rw [g a o q] at z; cases z⟩
theorem same_drew {b bc : Addr} {H H1 H2 : Hp} (g : Same H H1) (h : Drew b bc H1 H2) : Drew b bc H H2 := ⟨h.bag, fun a o n e => h.keep a o n (g a o e), fun a e z => by
  cases q : H a with
  | none => exact e q
  | some o => exact h.held a (by rw [g a o q]; exact Option.some_ne_none o) z⟩
theorem Drew.free {b bc : Addr} {H H' : Hp} (h : Drew b bc H H') {p : Addr} (e : H' p = none) : H p = none := by
  cases q : H p with
  | none => rfl
  | some o => exact absurd e (h.held p (by rw [q]; exact Option.some_ne_none o))
def spBag (K : PySem.W.Frag) : Sp := fun vs H Q _ => ∃ (a : Addr) (ns : List Int), vs = [.ref a] ∧ SqL K H a (ns.map V.int) ∧ ns.length ≤ 63 ∧ ∀ H' b bc, Same H H' → H b = none → H bc = none → Bag b bc H' → Q (.ref b) H'
def spTake : Sp := fun vs H Q _ => ∃ (b bc : Addr) (m : Nat), vs = [.ref b, .int m] ∧ Bag b bc H ∧ 1 ≤ m ∧ m < 1073741824 ∧ ∀ H' (r : Nat), Drew b bc H H' → r < m → Q (.int r) H'
end LN

namespace LN
open PySem PySem.Spec PyProof.Rows L2

/-! data that can be compared and shown: dep bounds how deep it is, n how long its text -/
structure Good (d : PyData) (dep n : Nat) : Prop where
  lay : d.canLay0 = true
  shows : d.showable = true
  deep : d.depth ≤ dep
  len : d.shown.length ≤ n
theorem Good.mono {d : PyData} {a b n m : Nat} (g : Good d a n) (h : a ≤ b) (h' : n ≤ m) : Good d b m := ⟨g.lay, g.shows, Nat.le_trans g.deep h, Nat.le_trans g.len h'⟩
theorem Good.bool (b : Bool) : Good (.bool b) 0 5 := by cases b <;> exact ⟨rfl, rfl, Nat.le_refl _, by decide⟩
theorem Good.none : Good .none 0 5 := ⟨rfl, rfl, Nat.le_refl _, by decide⟩
theorem Good.str {x : Str} {m : Nat} (h : PyData.strOk x = true) (l : x.length ≤ m) : Good (.str x) 0 (10 * m + 2) := by
  refine ⟨h, rfl, Nat.le_refl _, ?_⟩
  have k := StrLaws.reprText_len x (fun c hc => by
    have := Array.all_eq_true_iff_forall_mem.mp h c (Array.mem_def.mpr hc)
    have := of_decide_eq_true this
    omega)
  show (reprText x).length ≤ _
  omega
theorem piled_le {n : Nat} : ∀ {ds : List PyData}, (∀ d ∈ ds, d.shown.length ≤ n) → piled (PyData.shownAll ds) ≤ ds.length * (n + 2)
  | [], _ => Nat.zero_le _
  | d :: ds, h => by
    have ih := piled_le (ds := ds) fun x hx => h x (List.mem_cons_of_mem _ hx)
    have h1 := h d List.mem_cons_self
    show piled (d.shown :: PyData.shownAll ds) ≤ _
    rw [piled_cons, List.length_cons, Nat.succ_mul]
    omega
theorem listText_le (ts : List Str) : (listText ts).length ≤ 2 + piled ts := by
  cases ts with
  | nil => exact Nat.le_refl 2
  | cons t r =>
    have h := textFrom_length_pos r 1 (("[" : Str) ++ (if (0 : Nat) > 0 then ", " else "" : String) ++ t) (Nat.succ_pos 0)
    have e : (listText (t :: r)).length = (textFrom 1 (("[" : Str) ++ (if (0 : Nat) > 0 then ", " else "" : String) ++ t) r).length + 1 := by
      unfold listText
      rw [strLen_append]
      rfl
    have e2 : ((("[" : Str) ++ (if (0 : Nat) > 0 then ", " else "" : String) ++ t)).length = 1 + t.length := by
      rw [strLen_append, strLen_append]
      rfl
    rw [e, h, e2, piled_cons]
    omega
theorem tupleText_le (ts : List Str) : (tupleText ts).length ≤ 3 + piled ts := by
  unfold tupleText
  rw [strLen_append, strLen_append]
  have e1 : ((("(" : String) : Str)).length = 1 := rfl
  have e3 : (((if ts.length == 1 then ",)" else ")" : String) : Str)).length ≤ 2 := by split <;> decide
  rw [e1]
  by_cases h : ts = []
  · subst h
    have : (Str.join (", " : String) []).length = 0 := rfl
    omega
  · have := join_length_add ts h
    omega
theorem all_lay {ds : List PyData} (h : ∀ d ∈ ds, d.canLay0 = true) : PyData.canLayAll0 ds = true := by
  induction ds with
  | nil => rfl
  | cons d ds ih =>
    show (d.canLay0 && PyData.canLayAll0 ds) = true
    rw [h d List.mem_cons_self, ih fun x hx => h x (List.mem_cons_of_mem _ hx)]
    rfl
theorem all_shows {ds : List PyData} (h : ∀ d ∈ ds, d.showable = true) : PyData.showableAll ds = true := by
  induction ds with
  | nil => rfl
  | cons d ds ih =>
    show (d.showable && PyData.showableAll ds) = true
    rw [h d List.mem_cons_self, ih fun x hx => h x (List.mem_cons_of_mem _ hx)]
    rfl
theorem all_deep {ds : List PyData} {k : Nat} (h : ∀ d ∈ ds, d.depth ≤ k) : PyData.depthAll ds ≤ k := by
  induction ds with
  | nil => exact Nat.zero_le _
  | cons d ds ih =>
    show max d.depth (PyData.depthAll ds) ≤ k
    exact Nat.max_le.mpr ⟨h d List.mem_cons_self, ih fun x hx => h x (List.mem_cons_of_mem _ hx)⟩
theorem Good.list {ds : List PyData} {k n m : Nat} (h : ∀ d ∈ ds, Good d k n) (l : ds.length ≤ m) : Good (.list ds) (k + 1) (2 + m * (n + 2)) := by
  refine ⟨all_lay fun d hd => (h d hd).lay, all_shows fun d hd => (h d hd).shows, Nat.succ_le_succ (all_deep fun d hd => (h d hd).deep), ?_⟩
  show (listText (PyData.shownAll ds)).length ≤ _
  have h1 := listText_le (PyData.shownAll ds)
  have h2 := piled_le fun d hd => (h d hd).len
  have h3 := Nat.mul_le_mul_right (n + 2) l
  omega
theorem Good.tuple {ds : List PyData} {k n m : Nat} (h : ∀ d ∈ ds, Good d k n) (l : ds.length ≤ m) : Good (.tuple ds) (k + 1) (3 + m * (n + 2)) := by
  refine ⟨all_lay fun d hd => (h d hd).lay, all_shows fun d hd => (h d hd).shows, Nat.succ_le_succ (all_deep fun d hd => (h d hd).deep), ?_⟩
  show (tupleText (PyData.shownAll ds)).length ≤ _
  have h1 := tupleText_le (PyData.shownAll ds)
  have h2 := piled_le fun d hd => (h d hd).len
  have h3 := Nat.mul_le_mul_right (n + 2) l
  omega
theorem Good.shaped {d : PyData} {k n : Nat} (g : Good d k n) (h : k ≤ 60) : SeqAt.shaped d = true := by
  unfold SeqAt.shaped
  rw [g.lay, decide_eq_true (Nat.le_trans g.deep (Nat.le_trans h (by decide)))]
  rfl
theorem Good.noDict {d : PyData} {k n : Nat} (g : Good d k n) : d.hasDict = false := PyData.hasDict_of_canLay d g.lay
theorem Good.self {d : PyData} {k n : Nat} (g : Good d k n) : PyData.eqv d d = true := SeqAt.eqv_refl d g.lay

/-! labels and names -/
structure Lab (x : Str) : Prop where
  ok : PyData.strOk x = true
  few : x.length ≤ 20
abbrev Labs (l : List Str) : Prop := ∀ x ∈ l, Lab x
def nameD (l : List Str) : PyData := .tuple (l.map PyData.str)
theorem good_name {l : List Str} (h : Labs l) (n : l.length ≤ 100) : Good (nameD l) 1 20500 := by
  have g : ∀ d ∈ l.map PyData.str, Good d 0 202 := fun d hd => by
    obtain ⟨x, hx, rfl⟩ := List.mem_map.mp hd
    exact Good.str (h x hx).ok (h x hx).few
  exact (Good.tuple g (m := 100) (by rw [List.length_map]; exact n)).mono (Nat.le_refl _) (by decide)
theorem good_names {ls : List (List Str)} (h : ∀ l ∈ ls, Labs l ∧ l.length ≤ 100) (n : ls.length ≤ 100) : Good (.list (ls.map nameD)) 2 2100000 := by
  have g : ∀ d ∈ ls.map nameD, Good d 1 20500 := fun d hd => by
    obtain ⟨x, hx, rfl⟩ := List.mem_map.mp hd
    exact good_name (h x hx).1 (h x hx).2
  exact (Good.list g (m := 100) (by rw [List.length_map]; exact n)).mono (Nat.le_refl _) (by decide)
theorem good_bools {bs : List Bool} (n : bs.length ≤ 1000) : Good (.list (bs.map PyData.bool)) 1 7002 := by
  have g : ∀ d ∈ bs.map PyData.bool, Good d 0 5 := fun d hd => by
    obtain ⟨x, _, rfl⟩ := List.mem_map.mp hd
    exact Good.bool x
  exact (Good.list g (m := 1000) (by rw [List.length_map]; exact n)).mono (Nat.le_refl _) (by decide)
theorem Labs.take {l : List Str} (h : Labs l) (n : Nat) : Labs (l.take n) := fun x hx => h x (List.mem_of_mem_take hx)
theorem Labs.drop {l : List Str} (h : Labs l) (n : Nat) : Labs (l.drop n) := fun x hx => h x (List.mem_of_mem_drop hx)
theorem Labs.append {l m : List Str} (h : Labs l) (g : Labs m) : Labs (l ++ m) := fun x hx => (List.mem_append.mp hx).elim (h x) (g x)
theorem Labs.cons {x : Str} {l : List Str} (h : Lab x) (g : Labs l) : Labs (x :: l) := fun y hy => (List.mem_cons.mp hy).elim (fun e => e ▸ h) (g y)
theorem Labs.nil : Labs [] := fun _ h => absurd h List.not_mem_nil

section
variable {K : PySem.W.Frag} {H H' : Hp}
theorem same_rd {a : Addr} {o : HO} (s : Same H H') (h : Rd H a o) : Rd H' a o := h.elim (fun e => .inl (s _ _ e)) fun ⟨u, e⟩ => .inr ⟨u, s _ _ e⟩
theorem same_seqT {a : Addr} {xs : List V} (s : Same H H') (h : SqT K H a xs) : SqT K H' a xs := h.elim (fun e => .inl (same_rd s e)) .inr
mutual
theorem dp_same (s : Same H H') : ∀ {d : PyData} {v : V}, Dp K H v d → Dp K H' v d
  | _, _, .non => .non
  | _, _, .bl b => .bl b
  | _, _, .int i => .int i
  | _, _, .str x => .str x
  | _, _, .lst q r => .lst (Same.seq s q) (dpa_same s r)
  | _, _, .tup q r => .tup (same_seqT s q) (dpa_same s r)
theorem dpa_same (s : Same H H') : ∀ {ds : List PyData} {vs : List V}, DpAll K H vs ds → DpAll K H' vs ds
  | _, _, .nil => .nil
  | _, _, .cons q r => .cons (dp_same s q) (dpa_same s r)
end
theorem dpa_append : ∀ {vs ws : List V} {ds es : List PyData}, DpAll K H vs ds → DpAll K H ws es → DpAll K H (vs ++ ws) (ds ++ es)
  | _, _, _, _, .nil, g => g
  | _, _, _, _, .cons q r, g => .cons q (dpa_append r g)
theorem dpa_len : ∀ {vs : List V} {ds : List PyData}, DpAll K H vs ds → vs.length = ds.length
  | _, _, .nil => rfl
  | _, _, .cons _ r => congrArg Nat.succ (dpa_len r)
theorem dpa_snoc {vs : List V} {ds : List PyData} {v : V} {d : PyData} (h : DpAll K H vs ds) (g : Dp K H v d) : DpAll K H (vs ++ [v]) (ds ++ [d]) := dpa_append h (.cons g .nil)
theorem dp_strs : ∀ l : List Str, DpAll K H (l.map V.str) (l.map PyData.str)
  | [] => .nil
  | x :: l => .cons (.str x) (dp_strs l)
theorem dp_bools : ∀ l : List Bool, DpAll K H (l.map V.bl) (l.map PyData.bool)
  | [] => .nil
  | x :: l => .cons (.bl x) (dp_bools l)
/-- the name l stands at a -/
abbrev Nm (K : PySem.W.Frag) (H : Hp) (a : Addr) (l : List Str) : Prop := SqT K H a (l.map V.str)
theorem nm_dp {a : Addr} {l : List Str} (h : Nm K H a l) : Dp K H (.ref a) (nameD l) := .tup h (dp_strs l)
theorem Drew.nm {b bc a : Addr} {l : List Str} (s : Drew b bc H H') (hb : ∃ xs, H b = some (.lst xs)) (h : Nm K H a l) : Nm K H' a l := by
  obtain ⟨xs, hb⟩ := hb
  rcases h with (h | ⟨o, h⟩) | h
  · exact .inl (.inl (s.keep a _ (ne_of h hb (by intro z; cases z)) h))
  · exact .inl (.inr ⟨o, s.keep a _ (ne_of h hb (by intro z; cases z)) h⟩)
  · exact .inr h
theorem Bag.lst {b bc : Addr} (h : Bag b bc H) : ∃ xs, H b = some (.lst xs) := by
  obtain ⟨_, _, _, _, _, h, _⟩ := h
  exact ⟨_, h⟩
end

/-- a def of the text, by its name -/
structure Df (K : PySem.W.Frag) (mg : Str → Option Value) (x : Str) (st : Stmt) (ps : List Str) (f : Addr) (fd : FuncData) : Prop where
  F : Fun K x x st f fd
  g : mg x = some (.ref f)
  b : Binds K fd ps []
section
variable {X : Cx} {k : Nat} {f : Addr} {fd : FuncData} {ps : List Str} {sp : Sp} {x : Str} {st : Stmt} {p pos : Pos} {e : Expr} {es : List Expr} {t : TA}
theorem pcall (D : Df X.K X.mg x st ps f fd) (G : FnOk X.prog X.w X.K X.mg X.base CX0 k f fd ps sp) (hr : Room k X.A) (ha : PA X (e :: es) t) (hg : Gl X x := by rfl) (hdb : (x == ("__debug__" : Str)) = false := by decide)
    (he : starEach (e :: es) X.env = (false, eval e X.env) :: starEach es X.env := by rfl) (hpl : (backTo pos (starEach es X.env)).any (·.1) = false := by rfl) : PE X (.Call (.Name x p) (e :: es) [] pos) (tCall sp [] E0 t) :=
  pe_call G hr hg D.g D.F.kp D.b .nil pass0 ha hdb he hpl
theorem qcall (D : Df X.K X.mg x st ps f fd) (G : FnQ X.prog X.w X.K X.mg X.base k f fd ps sp) (q : Quiet X.A) (hr : Room k X.A) (ha : PA X (e :: es) t) (hg : Gl X x := by rfl) (hdb : (x == ("__debug__" : Str)) = false := by decide)
    (he : starEach (e :: es) X.env = (false, eval e X.env) :: starEach es X.env := by rfl) (hpl : (backTo pos (starEach es X.env)).any (·.1) = false := by rfl) : PE X (.Call (.Name x p) (e :: es) [] pos) (tCall sp [] E0 t) :=
  callQ G q hr hg D.g D.F.kp D.b ha hdb he hpl
end
/-- two things with the same data are alike -/
def spAlike (K : PySem.W.Frag) : Sp := fun vs H Q _ => ∃ (x y : V) (d : PyData) (k n : Nat), vs = [x, y] ∧ Dp K H x d ∧ Dp K H y d ∧ Good d k n ∧ k ≤ 60 ∧ n ≤ sizeLine ∧ Q (.bl true) H
end LN
namespace LN
open PySem PySem.Spec PyProof.Rows L2
section
variable {K : PySem.W.Frag} {H H' : Hp}
theorem drew_seq {b bc l : Addr} {xs : List V} (s : Drew b bc H H') (n : l ≠ b) (h : SqL K H l xs) : SqL K H' l xs := by
  rcases h with (h | ⟨o, h⟩) | h
  · exact .inl (.inl (s.keep l _ n h))
  · exact .inl (.inr ⟨o, s.keep l _ n h⟩)
  · exact .inr h
end
def spPick (K : PySem.W.Frag) : Sp := fun vs H Q _ => ∃ (b bc l : Addr) (xs : List V), vs = [.ref b, .ref l] ∧ Bag b bc H ∧ l ≠ b ∧ SqL K H l xs ∧ 1 ≤ xs.length ∧ xs.length ≤ 1000 ∧ ∀ H' (i : Nat) v, Drew b bc H H' → xs[i]? = some v → Q v H'
def spUnder (K : PySem.W.Frag) : Sp := fun vs H Q _ => ∃ (a c : Addr) (n t : List Str), vs = [.ref a, .ref c] ∧ Nm K H a n ∧ Nm K H c t ∧ Labs n ∧ Labs t ∧ n.length ≤ 100 ∧ t.length ≤ 100 ∧ ∀ H', Same H H' → Q (.bl (decide (t <:+ n))) H'
def spBeneath (K : PySem.W.Frag) : Sp := fun vs H Q _ => ∃ (a c : Addr) (n t : List Str), vs = [.ref a, .ref c] ∧ Nm K H a n ∧ Nm K H c t ∧ Labs n ∧ Labs t ∧ n.length ≤ 100 ∧ t.length ≤ 100 ∧ ∀ H', Same H H' → Q (.bl (decide (t.length < n.length ∧ t <:+ n))) H'
def tails (n : List Str) : List (List Str) := (List.range (n.length + 1)).map fun k => n.drop k
def spTops (K : PySem.W.Frag) : Sp := fun vs H Q _ => ∃ (a : Addr) (n : List Str), vs = [.ref a] ∧ Nm K H a n ∧ Labs n ∧ n.length ≤ 100 ∧ ∀ H' p vs, Same H H' → H p = none → H' p = some (.lst vs) → DpAll K H' vs ((tails n).map nameD) → Q (.ref p) H'
theorem eqv_str (x y : Str) : PyData.eqv (.str x) (.str y) = decide (x = y) := by
  show (x == y) = decide (x = y)
  by_cases h : x = y
  · subst h
    simp
  · simp [h]
theorem eqv_strs : ∀ (a b : List Str), PyData.eqvAll (a.map PyData.str) (b.map PyData.str) = decide (a = b)
  | [], [] => rfl
  | [], _ :: _ => rfl
  | _ :: _, [] => rfl
  | x :: a, y :: b => by
    show (PyData.eqv (.str x) (.str y) && PyData.eqvAll (a.map PyData.str) (b.map PyData.str)) = _
    rw [eqv_str, eqv_strs a b]
    by_cases h : x = y
    · by_cases g : a = b <;> simp [h, g]
    · simp [h]
theorem eqv_name (a b : List Str) : PyData.eqv (nameD a) (nameD b) = decide (a = b) := eqv_strs a b
end LN
namespace LN
open PySem PySem.Spec PyProof.Rows L2
section
variable {K : PySem.W.Frag} {H H' : Hp}
/-! data without lists: what the change of a list does not touch -/
mutual
def noLst : PyData → Bool
  | .list _ => false
  | .tuple xs => noLsts xs
  | _ => true
def noLsts : List PyData → Bool
  | [] => true
  | d :: ds => noLst d && noLsts ds
end
mutual
theorem dp_put {D : Addr} {ys zs : List V} (e : H D = some (.lst ys)) : ∀ {d : PyData} {v : V}, Dp K H v d → noLst d = true → Dp K (upd H D (.lst zs)) v d
  | _, _, .non, _ => .non
  | _, _, .bl b, _ => .bl b
  | _, _, .int i, _ => .int i
  | _, _, .str x, _ => .str x
  | _, _, .lst q r, h => absurd h (by simp [noLst])
  | _, _, .tup q r, h => by
    refine .tup ?_ (dpa_put e r (by simpa [noLst] using h))
    rcases q with (q | ⟨o, q⟩) | q
    · exact .inl (.inl (by rw [upd_ne (ne_of q e (by intro z; cases z))]; exact q))
    · exact .inl (.inr ⟨o, by rw [upd_ne (ne_of q e (by intro z; cases z))]; exact q⟩)
    · exact .inr q
theorem dpa_put {D : Addr} {ys zs : List V} (e : H D = some (.lst ys)) : ∀ {ds : List PyData} {vs : List V}, DpAll K H vs ds → noLsts ds = true → DpAll K (upd H D (.lst zs)) vs ds
  | _, _, .nil, _ => .nil
  | _, _, .cons q r, h => by
    have h' : (noLst _ && noLsts _) = true := h
    rw [Bool.and_eq_true] at h'
    exact .cons (dp_put e q h'.1) (dpa_put e r h'.2)
end
theorem strs_noLst : ∀ l : List Str, noLsts (l.map PyData.str) = true
  | [] => rfl
  | x :: l => strs_noLst l
theorem names_noLst : ∀ ls : List (List Str), noLsts (ls.map nameD) = true
  | [] => rfl
  | l :: ls => by
    show (noLsts (l.map PyData.str) && noLsts (ls.map nameD)) = true
    rw [strs_noLst, names_noLst ls]
    rfl
end
end LN
namespace LN
open PySem PySem.Spec PyProof.Rows L2
theorem strOk_cat {x y : Str} (h : PyData.strOk x = true) (g : PyData.strOk y = true) : PyData.strOk (x ++ y) = true := by
  have h' : x.cps.all (· < 0x110000) = true := h
  have g' : y.cps.all (· < 0x110000) = true := g
  show (x.cps ++ y.cps).all (· < 0x110000) = true
  rw [Array.all_append, h', g']
  rfl
theorem mulOk0 (x : Str) : MulOk x 0 := ⟨by decide, fun h => absurd (by decide) h, fun h => absurd (by decide) h⟩
theorem mulOk1 (x : Str) : MulOk x 1 := ⟨by decide, fun _ h => absurd h (by simp), fun _ h => absurd h (by simp)⟩
theorem mul_0 (x : Str) : Txt.mul x 0 = Str.empty := rfl
theorem mul_1 (x : Str) : Txt.mul x 1 = x := rfl
theorem mul_few {x : Str} {k : Int} (h0 : 0 ≤ k) (h2 : k < 2) : MulOk x k ∧ (Txt.mul x k = Str.empty ∨ Txt.mul x k = x) := by
  have : k = 0 ∨ k = 1 := by omega
  rcases this with rfl | rfl
  · exact ⟨mulOk0 x, .inl rfl⟩
  · exact ⟨mulOk1 x, .inr rfl⟩
def stems : List Str := ["", "a", "zzzzzzz", "aaaaaaa"]
theorem stem_ok : ∀ x ∈ stems, PyData.strOk x = true ∧ x.length ≤ 7 := by decide +kernel
def letters : Str := "abcdefghijklmnopqrstuvwxyz"
theorem letters_at {i : Nat} (h : i < 26) : ∃ c, letters.cps[i]? = some c ∧ c < 0x110000 := by
  have all : ∀ j, j < 26 → ((letters.cps[j]?).elim false fun c => decide (c < 0x110000)) = true := by decide +kernel
  have := all i h
  cases e : letters.cps[i]? with
  | none => rw [e] at this; cases this
  | some c => rw [e] at this; exact ⟨c, rfl, of_decide_eq_true this⟩
theorem strOk_one {c : Nat} (h : c < 0x110000) : PyData.strOk ⟨#[c]⟩ = true := by
  show (#[c] : Array Nat).all (· < 0x110000) = true
  simp [h]
def spLabels : Sp := fun vs H Q _ => ∃ (b bc : Addr) (n : Nat), vs = [.ref b, .int n] ∧ Bag b bc H ∧ n ≤ 100 ∧
  ∀ H' p (ls : List Str), Drew b bc H H' → H p = none → H' p = some (.lst (ls.map V.str)) → Labs ls → (∀ x ∈ ls, x.length ≤ 10) → ls.length = n → Q (.ref p) H'
theorem bag_put {b bc D : Addr} {H : Hp} {o : HO} (h : Bag b bc H) (n : D ≠ b) (n2 : D ≠ bc) : Bag b bc (upd H D o) := by
  obtain ⟨x0, x1, x2, ns, h1, h2, h3, h4⟩ := h
  refine ⟨x0, x1, x2, ns, h1, by rw [upd_ne n.symm]; exact h2, by rw [upd_ne n2.symm]; exact h3, h4⟩
theorem Bag.there {b bc : Addr} {H : Hp} (h : Bag b bc H) : H b ≠ none ∧ H bc ≠ none := by
  obtain ⟨x0, x1, x2, ns, h1, h2, h3, h4⟩ := h
  rw [h2, h3]
  exact ⟨Option.some_ne_none _, Option.some_ne_none _⟩
theorem Bag.apart {b bc D : Addr} {H : Hp} (h : Bag b bc H) (e : H D = none) : D ≠ b ∧ D ≠ bc := ⟨fun z => h.there.1 (z ▸ e), fun z => h.there.2 (z ▸ e)⟩
/-- a list that was made behind H is changed -/
theorem Drew.put {b bc D : Addr} {H G : Hp} {o : HO} (d : Drew b bc H G) (h : Bag b bc H) (e : H D = none) : Drew b bc H (upd G D o) := by
  have n := h.apart e
  refine ⟨bag_put d.bag n.1 n.2, fun a u ne q => ?_, fun a q z => ?_⟩
  · rw [upd_ne (ne_of_none q e)]
    exact d.keep a u ne q
  · by_cases ea : a = D
    · rw [ea] at q
      exact q e
    · rw [upd_ne ea] at z
      exact d.held a q z
end LN
namespace LN
open PySem PySem.Spec PyProof.Rows L2
def spWord (K : PySem.W.Frag) : Sp := fun vs H Q _ => ∃ (b bc l : Addr) (ls : List Str) (lo hi : Nat), vs = [.ref b, .ref l, .int lo, .int hi] ∧ Bag b bc H ∧ l ≠ b ∧ SqL K H l (ls.map V.str) ∧ Labs ls ∧ 1 ≤ ls.length ∧ ls.length ≤ 1000 ∧ lo ≤ hi ∧ hi ≤ 90 ∧
  ∀ H' p nm, Drew b bc H H' → Nm K H' p nm → Labs nm → lo ≤ nm.length → nm.length ≤ hi → Q (.ref p) H'
def spMore (K : PySem.W.Frag) : Sp := fun vs H Q _ => ∃ (b bc l : Addr) (ls : List Str), vs = [.ref b, .ref l] ∧ Bag b bc H ∧ l ≠ b ∧ H l = some (.lst (ls.map V.str)) ∧ Labs ls ∧ (∀ x ∈ ls, x.length ≤ 10) ∧ 1 ≤ ls.length ∧ ls.length ≤ 100 ∧
  ∀ H' p ms, Drew b bc H H' → H p = none → H' p = some (.lst (ms.map V.str)) → Labs ms → 1 ≤ ms.length → ms.length ≤ 101 → Q (.ref p) H'
def spNear (K : PySem.W.Frag) : Sp := fun vs H Q _ => ∃ (b bc l a : Addr) (ls nm : List Str), vs = [.ref b, .ref l, .ref a] ∧ Bag b bc H ∧ l ≠ b ∧ SqL K H l (ls.map V.str) ∧ Labs ls ∧ 1 ≤ ls.length ∧ ls.length ≤ 1000 ∧ Nm K H a nm ∧ Labs nm ∧ nm.length ≤ 90 ∧
  ∀ H' p rs, Drew b bc H H' → Nm K H' p rs → Labs rs → rs.length ≤ nm.length + 1 → Q (.ref p) H'
def spRight (K : PySem.W.Frag) : Sp := fun vs H Q _ => ∃ (a c : Addr) (n t : List Str), vs = [.ref a, .ref c] ∧ Nm K H a n ∧ Nm K H c t ∧ Labs n ∧ Labs t ∧ n.length ≤ 49 ∧ t.length ≤ 49 ∧ ∀ H', Same H H' → Q (.bl true) H'
end LN
namespace LN
open PySem PySem.Spec PyProof.Rows L2
section
variable {X : Cx}
/-- t[lo:hi], the whole and any other part alike -/
def rSlD (K : PySem.W.Frag) : V → Option Int → Option Int → Hp → VK → Prop := fun x lo hi H Q => ∃ a xs, x = .ref a ∧ SqT K H a xs ∧ ∀ p H', Same H H' → SqT K H' p (cutV xs lo hi) → Q (.ref p) H'
theorem sl_tupD : SlR X (rSlD X.K) := by
  intro pins s σ H x v vl vu lo hi sl Q inv rx hs pl pu want
  obtain ⟨a, xs, rfl, hx, q⟩ := want
  refine sl_tupA pins s σ H _ v vl vu lo hi sl Q inv rx hs pl pu ⟨a, xs, rfl, hx, fun hw => q a H (Same.refl H) ?_, fun _ p np => q p _ (same_put np) (.inl (.inl upd_same))⟩
  have e : cutV xs lo hi = xs := by
    unfold cutV
    rw [hw.1, hw.2]
    simp
  rw [e]
  exact hx
/-- t + u, empty ones too -/
def rCatD (K : PySem.W.Frag) : R2 := fun x y H Q => ∃ a b xs ys, x = .ref a ∧ y = .ref b ∧ SqT K H a xs ∧ SqT K H b ys ∧ xs.length + ys.length ≤ sizeLine ∧ ∀ p H', Same H H' → SqT K H' p (xs ++ ys) → Q (.ref p) H'
theorem op_catD : OpR X (binaryOp .Add) (rCatD X.K) := by
  intro pins s σ H x y v u Q inv rx ry want
  obtain ⟨a, b, xs, ys, rfl, rfl, ha, hb, hz, q⟩ := want
  refine op_catA pins s σ H _ _ v u Q inv rx ry ⟨a, b, xs, ys, rfl, rfl, ha, hb, hz, fun e => q b H (Same.refl H) ?_, fun _ e => q a H (Same.refl H) ?_, fun _ _ p np => q p _ (same_put np) (.inl (.inl upd_same))⟩
  · rw [e]
    exact hb
  · rw [e, List.append_nil]
    exact ha
end
theorem cut_to {xs : List V} {k : Nat} : cutV xs none (some (k : Int)) = xs.take k := by
  unfold cutV
  rw [HT.sIx_none, HT.sIx_nat, List.drop_zero]
  by_cases h : k ≤ xs.length
  · rw [Nat.min_eq_left h, Nat.sub_zero]
  · rw [Nat.min_eq_right (by omega), Nat.sub_zero, List.take_length, List.take_of_length_le (by omega)]
theorem cut_from {xs : List V} {k : Nat} : cutV xs (some (k : Int)) none = xs.drop k := by
  unfold cutV
  rw [HT.sIx_none, HT.sIx_nat]
  by_cases h : k ≤ xs.length
  · rw [Nat.min_eq_left h]
    exact List.take_of_length_le (by simp)
  · rw [Nat.min_eq_right (by omega), List.drop_length, List.drop_of_length_le (by omega), List.take_nil]
end LN
namespace LN
open PySem PySem.Spec PyProof.Rows L2
section
variable {K : PySem.W.Frag} {H H' : Hp}
theorem dpa_strs : ∀ {l : List Str} {vs : List V}, DpAll K H vs (l.map PyData.str) → vs = l.map V.str
  | [], _, .nil => rfl
  | x :: l, _, .cons q r => by
    have e := dpa_strs (l := l) r
    cases q
    rw [e]
    rfl
theorem dp_nm {v : V} {l : List Str} (h : Dp K H v (nameD l)) : ∃ a, v = .ref a ∧ Nm K H a l := by
  have h' : Dp K H v (.tuple (l.map PyData.str)) := h
  cases h' with
  | tup q r =>
    have e := dpa_strs r
    rw [e] at q
    exact ⟨_, rfl, q⟩
theorem dpa_get : ∀ {vs : List V} {ds : List PyData} {i : Nat} {v : V}, DpAll K H vs ds → vs[i]? = some v → ∃ d, ds[i]? = some d ∧ Dp K H v d
  | _, _, _, _, .nil, e => by simp at e
  | _, _, 0, _, .cons q r, e => by
    have e' := Option.some.inj e
    exact ⟨_, rfl, e' ▸ q⟩
  | _, _, i + 1, _, .cons q r, e => by
    obtain ⟨d, h1, h2⟩ := dpa_get (i := i) r (by simpa using e)
    exact ⟨d, by simpa using h1, h2⟩
end
def heads (n : List Str) (i : Nat) : List (List Str) := (List.range i).map fun k => n.take k
def fits (n t : List Str) (i : Nat) : List (List Str) := (heads n i).filter fun h => decide (h ++ t = n)
theorem one_fit (n t h : List Str) : [h].filter (fun h => decide (h ++ t = n)) = if h ++ t = n then [h] else [] := by
  by_cases y : h ++ t = n
  · rw [if_pos y]
    simp [y]
  · rw [if_neg y]
    simp [y]
theorem range_only (c : Nat) : ∀ m, (List.range m).filter (fun k => decide (k = c)) = if c < m then [c] else []
  | 0 => rfl
  | m + 1 => by
    rw [List.range_succ, List.filter_append, range_only c m]
    by_cases h : c < m
    · rw [if_pos h, if_pos (by omega), List.filter_cons_of_neg (by simp; omega)]
      rfl
    · rw [if_neg h]
      by_cases e : m = c
      · subst e
        rw [if_pos (by omega), List.filter_cons_of_pos (by simp)]
        rfl
      · rw [if_neg (by omega), List.filter_cons_of_neg (by simp; exact e)]
        rfl
theorem take_fits {n t : List Str} {k : Nat} (h : k ≤ n.length) : n.take k ++ t = n ↔ t <:+ n ∧ k = n.length - t.length := by
  constructor
  · intro e
    have l := congrArg List.length e
    rw [List.length_append, List.length_take, Nat.min_eq_left h] at l
    exact ⟨⟨_, e⟩, by omega⟩
  · rintro ⟨⟨z, rfl⟩, rfl⟩
    have e : (z ++ t).length - t.length = z.length := by rw [List.length_append]; omega
    rw [e, List.take_left]
theorem fits_all {n t : List Str} : fits n t (n.length + 1) = if t <:+ n then [n.take (n.length - t.length)] else [] := by
  have e : fits n t (n.length + 1) = ((List.range (n.length + 1)).filter fun k => decide (t <:+ n ∧ k = n.length - t.length)).map fun k => n.take k := by
    unfold fits heads
    rw [List.filter_map]
    congr 1
    apply List.filter_congr
    intro k hk
    have := List.mem_range.mp hk
    exact decide_eq_decide.mpr (take_fits (by omega))
  rw [e]
  by_cases s : t <:+ n
  · rw [if_pos s]
    have e2 : (fun k => decide (t <:+ n ∧ k = n.length - t.length)) = fun k => decide (k = n.length - t.length) := by
      funext k
      exact decide_eq_decide.mpr ⟨fun z => z.2, fun z => ⟨s, z⟩⟩
    rw [e2, range_only, if_pos (by omega)]
    rfl
  · rw [if_neg s]
    have e2 : (fun k => decide (t <:+ n ∧ k = n.length - t.length)) = fun _ => false := by
      funext k
      exact decide_eq_false fun z => s z.1
    rw [e2, List.filter_eq_nil_iff.mpr (fun _ _ => Bool.false_ne_true)]
    rfl
end LN
namespace LN
open PySem PySem.Spec PyProof.Rows L2
/-- a tuple of two names -/
def Two (K : PySem.W.Frag) (H : Hp) (x : V) : Prop := ∃ (t u v : Addr) (n m : List Str), x = .ref t ∧ H t = some (.tup [.ref u, .ref v]) ∧ Nm K H u n ∧ Nm K H v m ∧ Labs n ∧ Labs m ∧ n.length ≤ 49 ∧ m.length ≤ 49
theorem Two.same {K : PySem.W.Frag} {H H' : Hp} {x : V} (h : Two K H x) (s : Same H H') : Two K H' x := by
  obtain ⟨t, u, v, n, m, e, h1, h2, h3, h4⟩ := h
  exact ⟨t, u, v, n, m, e, s _ _ h1, same_seqT s h2, same_seqT s h3, h4⟩
theorem good_tails {n : List Str} (h : Labs n) (k : n.length ≤ 90) : Good (.list ((tails n).map nameD)) 2 2100000 := by
  refine good_names (fun l hl => ?_) ?_
  · obtain ⟨i, _, rfl⟩ := List.mem_map.mp hl
    exact ⟨h.drop i, by rw [List.length_drop]; omega⟩
  · unfold tails
    rw [List.length_map, List.length_range]
    omega
end LN

namespace K13
open PySem PySem.Spec PyProof.Rows L2 LN
def topS (i : Nat) : Stmt := PySem.Challenge.pw_listnames_k13_names_and_tops.main.body.getD i (.Pass ⟨0, 0, 0, 0⟩)
abbrev s_is_under : Stmt := topS 1
abbrev s_is_beneath : Stmt := topS 2
abbrev s_tops : Stmt := topS 3
abbrev s_law_bag : Stmt := topS 5
abbrev s_law_take : Stmt := topS 6
abbrev s_law_alike : Stmt := topS 7
abbrev s_law_pick : Stmt := topS 8
abbrev s_law_labels : Stmt := topS 9
abbrev s_law_word : Stmt := topS 10
abbrev s_law_more_labels : Stmt := topS 11
abbrev s_law_near : Stmt := topS 12
abbrev s_law_right : Stmt := topS 13
abbrev s_law : Stmt := topS 14
section
variable {P : Program} {w : World} {K : PySem.W.Frag} {mg : Str → Option Value} {base : Heap}
theorem scBag : FnScope ["_law_script", "_law_cell"] ["_law_script"] (defScope s_law_bag) := ⟨rfl, rfl, rfl, by decide +kernel, rfl, by decide +kernel, by decide +kernel⟩
theorem ok_bag {f : Addr} {fd : FuncData} (F : Fun K "_law_bag" "_law_bag" s_law_bag f fd) (ma : mg "abs" = none) : FnOk P w K mg base CX0 1 f fd ["_law_script"] (spBag K) := by
  refine F.ok scBag (fun vs H Q E h => ?_) (fun cdv A outer s H vs Q E hr h => ?_)
  · obtain ⟨a, ns, rfl, _⟩ := h
    rfl
  obtain ⟨a, ns, rfl, hS, hlen, q⟩ := h
  refine ⟨_, pss_one (ps_ret (pe_lst (pa_cons pe_int (pa_cons pe_int (pa_cons pe_int (pa_cons
    (pe_lc (own := [("_law_cell", 1)]) (g := gName 1) (tt := tYes) rfl scBag.nd (pi_list (pe_slice sl_list (pv 0) po_none (po_some pe_int)))
      (blkOk_by (N := ["_law_script", "_law_cell"]) (sc := defScope s_law_bag) (by decide +kernel)) (fun _ _ _ _ _ => pg_name (i := 1) scBag.nd rfl (Or.inl rfl)) (fun _ _ _ _ _ => pts_nil)
      (fun _ _ _ _ _ => pe_callB call_abs (by rfl) ma (by decide +kernel) (pa_cons (pv 1) pa_nil))) pa_nil)))))), ?_⟩
  refine ⟨.ref a, rfl, 63, rfl, a, _, rfl, hS, fun p np => ?_⟩
  have s1 : Same H (upd H p (.lst (cutV (ns.map V.int) none (some 63)))) := same_put np
  refine ⟨p, rfl, ⟨_, .inl (.inl upd_same)⟩, fun D nD => ?_⟩
  have nDp : D ≠ p := fun e => by rw [e, upd_same] at nD; cases nD
  have s2 := s1.trans (same_put (o := .lst []) nD)
  refine lc_list (K := K) (a := p) (xs := cutV (ns.map V.int) none (some 63))
    (fun i G => ∃ ms : List Int, ms.length = i ∧ G D = some (.lst (ms.map V.int)) ∧ Same H G ∧ G p = some (.lst (cutV (ns.map V.int) none (some 63))))
    ⟨[], rfl, upd_same, s2, by rw [upd_ne nDp.symm]; exact upd_same⟩ (fun i G _ h => .inl (.inl h.choose_spec.2.2.2)) (fun i x G hx h => ?_) (fun G h => ?_)
  · obtain ⟨ms, hm, eD, sm, ep⟩ := h
    have hx' := List.mem_of_getElem? hx
    have : x ∈ ns.map V.int := by
      unfold cutV at hx'
      exact List.mem_of_mem_drop (List.mem_of_mem_take hx')
    obtain ⟨n, _, rfl⟩ := List.mem_map.mp this
    have hi : i < 64 := by
      have h1 := (List.getElem?_eq_some_iff.mp hx).1
      have h2 := cutV_length (ns.map V.int) none (some 63)
      rw [List.length_map] at h2
      omega
    have hn : H D = none := s1.free nD
    refine ⟨rfl, .int n, rfl, n, rfl, ms.map V.int, eD, ?_, ms ++ [if n < 0 then -n else n], ?_, ?_, ?_, ?_⟩
    · rw [List.length_map, hm]
      exact small1000 (by omega)
    · rw [List.length_append, hm]
      rfl
    · rw [upd_same, List.map_append]
      rfl
    · exact fun b o e => by rw [upd_ne (ne_of_none e hn)]; exact sm _ _ e
    · rw [upd_ne nDp.symm]
      exact ep
  · obtain ⟨ms, hm, eD, sm, ep⟩ := h
    refine ⟨by show 4 ≤ sizeLine; decide, fun b nb => ?_⟩
    refine q _ b D (sm.trans (same_put nb)) (sm.free nb) (s1.free nD) ⟨0, 1234567891, 0, ms, ne_of_none eD nb, upd_same, ?_, by decide, by decide, by decide⟩
    rw [upd_ne (ne_of_none eD nb)]
    exact eD

theorem scTake : FnScope ["_law_bag_here", "_law_many", "_law_cell", "_law_more", "_law_drawn"] ["_law_bag_here", "_law_many"] (defScope s_law_take) := ⟨rfl, rfl, rfl, by decide +kernel, rfl, by decide +kernel, by decide +kernel⟩
theorem ok_take {f : Addr} {fd : FuncData} (F : Fun K "_law_take" "_law_take" s_law_take f fd) (ml : mg "len" = none) (mi : mg "int" = none) : FnOk P w K mg base CX0 1 f fd ["_law_bag_here", "_law_many"] spTake := by
  refine F.ok scTake (fun vs H Q E h => ?_) (fun cdv A outer s H vs Q E hr h => ?_)
  · obtain ⟨b, bc, m, rfl, _⟩ := h
    rfl
  obtain ⟨b, c, m, rfl, bag, m1, m2, q⟩ := h
  have nd := scTake.nd
  refine ⟨_, C8.pss_cut (ps_if (pt_cmpR op_eq (pe_ix ix_list (pv 0) pe_int (fun _ _ => rfl)) pe_int (nomark _))
      (pss_cons (ps_set (i := 2) nd rfl (.inl rfl) pe_int)
      (C8.pss_cut (ps_if (pt_cmpR op_lt (pe_ix ix_list (pv 0) pe_int (fun _ _ => rfl)) (pe_callB call_len_seq (by rfl) ml PySem.boot_len (pa_cons (pe_ix ix_list (pv 0) pe_int (fun _ _ => rfl)) pa_nil)) (nomark _))
        (pss_one (ps_set (i := 2) nd rfl (.inl rfl) (pe_ix ix_list (pe_ix ix_list (pv 0) pe_int (fun _ _ => rfl)) (pe_ix ix_list (pv 0) pe_int (fun _ _ => rfl)) (fun _ _ => rfl)))) pss_nil)
      (pss_cons (ps_augS (pv 0) pe_int get_list pe_int ip_add set_list)
      (C8.pss_cut (ps_if (pt_cmpR op_ge (pv 2) pe_int (nomark _)) (pss_one (ps_asg (pv 2) (pg_sub (pv 0) pe_int set_list))) pss_nil)
      (pss_cons (ps_set (i := 3) nd rfl (.inl rfl) (pe_op op_add (pe_op op_mod (pe_callTy call_int1 (by rfl) mi (by decide +kernel) (pa_cons (pv 2) pa_nil)) pe_int)
          (pe_op op_mul pe_int (pe_ix ix_list (pv 0) pe_int (fun _ _ => rfl)))))
      (pss_one (ps_asg (pe_op op_mod (pe_callTy call_int1 (by rfl) mi (by decide +kernel) (pa_cons (pe_op op_add (pe_op op_mul (pe_ix ix_list (pv 0) pe_int (fun _ _ => rfl)) pe_int) (pv 3)) pa_nil)) pe_int) (pg_sub (pv 0) pe_int set_list)))))))) pss_nil)
    (pss_cons (ps_if (pt_cmpR op_gt (pe_ix ix_list (pv 0) pe_int (fun _ _ => rfl)) pe_int (nomark _))
      (pss_cons (ps_set (i := 4) nd rfl (.inl rfl) (pe_op op_mod (pe_callTy call_int1 (by rfl) mi (by decide +kernel) (pa_cons (pe_ix ix_list (pv 0) pe_int (fun _ _ => rfl)) pa_nil)) (pv 1)))
      (pss_cons (ps_asg (pe_op op_fdiv (pe_ix ix_list (pv 0) pe_int (fun _ _ => rfl)) (pv 1)) (pg_sub (pv 0) pe_int set_list)) (pss_one (ps_ret (pv 4))))) pss_nil)
    (C8.pss_cut (ps_asg (pe_op op_mod (pe_callTy call_int1 (by rfl) mi (by decide +kernel) (pa_cons (pe_op op_add (pe_op op_mul (pe_ix ix_list (pv 0) pe_int (fun _ _ => rfl)) pe_int) pe_int) pa_nil)) pe_int) (pg_sub (pv 0) pe_int set_list))
    (pss_one (ps_ret (pe_op op_mod (pe_callTy call_int1 (by rfl) mi (by decide +kernel) (pa_cons (pe_op op_fdiv (pe_ix ix_list (pv 0) pe_int (fun _ _ => rfl)) pe_int) pa_nil)) (pv 1)))))), ?_⟩
  obtain ⟨x0, x1, x2, ns, hcb, hb, hc, h1, h2, h3⟩ := bag
  let G : Int → Int → Int → Hp := fun x0 x1 x2 => upd H b (.lst [.int x0, .int x1, .int x2, .ref c])
  have gc : ∀ x0 x1 x2, G x0 x1 x2 c = some (.lst (ns.map V.int)) := fun x0 x1 x2 => (upd_ne hcb).trans hc
  have gb : ∀ x0 x1 x2, G x0 x1 x2 b = some (.lst [.int x0, .int x1, .int x2, .ref c]) := fun x0 x1 x2 => upd_same
  have st : ∀ x0 x1 x2 z0 z1 z2, upd (G x0 x1 x2) b (.lst [.int z0, .int z1, .int z2, .ref c]) = G z0 z1 z2 := fun _ _ _ _ _ _ => upd_upd
  have g0 : H = G x0 x1 x2 := (upd_own hb).symm
  have dr : ∀ z0 z1 z2, 0 ≤ z1 → z1 < 2147483647 → 0 ≤ z2 → Drew b c H (G z0 z1 z2) := fun z0 z1 z2 k1 k2 k3 =>
    ⟨⟨z0, z1, z2, ns, hcb, gb _ _ _, gc _ _ _, k1, k2, k3⟩, fun a o n e => (upd_ne n).trans e, fun a e z => by
      by_cases ea : a = b
      · rw [ea] at z
        exact absurd ((gb z0 z1 z2).symm.trans z) (Option.some_ne_none _)
      · exact e ((upd_ne (o := .lst [.int z0, .int z1, .int z2, .ref c]) ea).symm.trans z)⟩
  clear_value G
  subst g0
  have modr : ∀ z : Int, 0 ≤ z % 2147483647 ∧ z % 2147483647 < 2147483647 := fun z => ⟨Int.emod_nonneg z (by decide), Int.emod_lt_of_pos z (by decide)⟩
  have nat : ∀ z : Int, ∃ r : Nat, z % (m : Int) = (r : Int) ∧ r < m := fun z => by
    have a1 : 0 ≤ z % (m : Int) := Int.emod_nonneg z (by omega)
    have a2 : z % (m : Int) < (m : Int) := Int.emod_lt_of_pos z (by omega)
    exact ⟨(z % (m : Int)).toNat, by omega, by omega⟩
  refine ⟨fun σ' H' => ∃ y2 y3 z0 z1 z2, σ' = [some (.ref b), some (.int m), y2, y3, none] ∧ H' = G z0 z1 z2 ∧ 0 ≤ z1 ∧ z1 < 2147483647 ∧ 0 ≤ z2, ?_, ?_⟩
  · refine ⟨.ref b, rfl, b, _, 0, _, rfl, rfl, .inl (.inl (gb _ _ _)), rfl, rfl, _, rfl, ite2 (fun _ => ?_) (fun _ => ?_)⟩
    · refine ⟨fun σ' H' => ∃ z, σ' = [some (.ref b), some (.int m), some (.int z), none, none] ∧ H' = G x0 x1 x2, ?_, ?_⟩
      · refine ⟨.ref b, rfl, b, _, 2, _, rfl, rfl, .inl (.inl (gb _ _ _)), rfl, .ref b, rfl, b, _, 3, _, rfl, rfl, .inl (.inl (gb _ _ _)), rfl, c, _, rfl, .inl (.inl (.inl (gc _ _ _))), ?_⟩
        refine ⟨_, _, rfl, rfl, _, rfl, ite2 (fun e => ?_) (fun _ => ⟨0, rfl, rfl⟩)⟩
        have lt := of_decide_eq_true e
        rw [List.length_map] at lt
        obtain ⟨k, rfl⟩ := Int.eq_ofNat_of_zero_le h3
        have hk : k < ns.length := by omega
        refine ⟨.ref b, rfl, b, _, 3, _, rfl, rfl, .inl (.inl (gb _ _ _)), rfl, .ref b, rfl, b, _, 2, _, rfl, rfl, .inl (.inl (gb _ _ _)), rfl, c, _, k, .int ns[k], rfl, rfl, .inl (.inl (gc _ _ _)), atI_nat ?_, ⟨_, rfl, rfl⟩⟩
        rw [List.getElem?_map, List.getElem?_eq_getElem hk]
        rfl
      · rintro _ _ ⟨z, rfl, rfl⟩
        refine ⟨.ref b, rfl, b, _, 2, _, rfl, rfl, by decide, gb _ _ _, rfl, _, _, rfl, rfl, b, _, _, _, rfl, rfl, gb _ _ _, rfl, ?_⟩
        show C8.tCut _ _ _ _ (upd (G x0 x1 x2) b (.lst [.int x0, .int x1, .int (x2 + 1), .ref c]))
        rw [st]
        refine ⟨fun σ' H' => ∃ z z0, σ' = [some (.ref b), some (.int m), some (.int z), none, none] ∧ H' = G z0 x1 (x2 + 1), ?_, ?_⟩
        · refine ⟨_, rfl, _, _, rfl, rfl, _, rfl, ite2 (fun _ => ?_) (fun _ => ⟨_, _, rfl, rfl⟩)⟩
          refine ⟨_, rfl, .ref b, rfl, b, _, 0, _, rfl, rfl, gb _ _ _, rfl, ⟨z, z, rfl, ?_⟩⟩
          exact st _ _ _ _ _ _
        · rintro _ _ ⟨z, z0, rfl, rfl⟩
          refine ⟨_, rfl, .inl ⟨z, rfl, _, _, rfl, rfl, (by show (0 : Int) < 2147483647; decide), .ref b, rfl, b, _, 2, _, rfl, rfl, .inl (.inl (gb _ _ _)), rfl, _, _, rfl, rfl, .inl ⟨by decide, by decide⟩, _, _, rfl, rfl, ?_⟩⟩
          refine ⟨.ref b, rfl, b, _, 1, _, rfl, rfl, .inl (.inl (gb _ _ _)), rfl, _, _, rfl, rfl, .inl ⟨by omega, by omega⟩, _, rfl, _, _, rfl, rfl, .inl ⟨_, rfl, _, _, rfl, rfl, (by show (0 : Int) < 2147483647; decide), ?_⟩⟩
          refine ⟨.ref b, rfl, b, _, 1, _, rfl, rfl, gb _ _ _, rfl, ⟨_, _, z0, _, x2 + 1, rfl, st _ _ _ _ _ _, (modr _).1, (modr _).2, by omega⟩⟩
    · exact ⟨none, none, x0, x1, x2, rfl, rfl, h1, h2, h3⟩
  · rintro _ _ ⟨y2, y3, z0, z1, z2, rfl, rfl, k1, k2, k3⟩
    refine ⟨.ref b, rfl, b, _, 0, _, rfl, rfl, .inl (.inl (gb _ _ _)), rfl, _, _, rfl, rfl, _, rfl, ite2 (fun _ => ?_) (fun _ => ?_)⟩
    · obtain ⟨r, er, hr'⟩ := nat z0
      refine ⟨.ref b, rfl, b, _, 0, _, rfl, rfl, .inl (.inl (gb _ _ _)), rfl, .inl ⟨_, rfl, _, rfl, _, _, rfl, rfl, (by show (0 : Int) < (m : Int); omega), ?_⟩⟩
      refine ⟨.ref b, rfl, b, _, 0, _, rfl, rfl, .inl (.inl (gb _ _ _)), rfl, _, rfl, _, _, rfl, rfl, ⟨by omega, by omega⟩, .ref b, rfl, b, _, 0, _, rfl, rfl, gb _ _ _, rfl, _, rfl, ?_⟩
      show Q (V.int (z0 % (m : Int))) _
      rw [er]
      refine q _ r ?_ hr'
      show Drew b c _ (upd (G z0 z1 z2) b (.lst [.int (z0 / (m : Int)), .int z1, .int z2, .ref c]))
      rw [st]
      exact dr _ _ _ k1 k2 k3
    · refine ⟨fun σ' H' => σ' = [some (.ref b), some (.int m), y2, y3, none] ∧ H' = G z0 ((z1 * 48271 + 11) % 2147483647) z2, ⟨.ref b, rfl, b, _, 1, _, rfl, rfl, .inl (.inl (gb _ _ _)), rfl, _, _, rfl, rfl, .inl ⟨by omega, by omega⟩, _, _, rfl, rfl, .inl ⟨_, rfl, _, _, rfl, rfl, (by show (0 : Int) < 2147483647; decide), ?_⟩⟩, ?_⟩
      · exact ⟨.ref b, rfl, b, _, 1, _, rfl, rfl, gb _ _ _, rfl, rfl, st _ _ _ _ _ _⟩
      rintro _ _ ⟨rfl, rfl⟩
      obtain ⟨r, er, hr'⟩ := nat ((z1 * 48271 + 11) % 2147483647 / 64)
      refine ⟨.ref b, rfl, b, _, 1, _, rfl, rfl, .inl (.inl (gb _ _ _)), rfl, _, _, rfl, rfl, ⟨by decide, by decide⟩, .inl ⟨_, rfl, _, rfl, _, _, rfl, rfl, (by show (0 : Int) < (m : Int); omega), ?_⟩⟩
      show Q (V.int ((z1 * 48271 + 11) % 2147483647 / 64 % (m : Int))) _
      rw [er]
      exact q _ r (dr _ _ _ (modr _).1 (modr _).2 k3) hr'

theorem scAlike : FnScope ["_law_found", "_law_right_here"] ["_law_found", "_law_right_here"] (defScope s_law_alike) := ⟨rfl, rfl, rfl, by decide +kernel, rfl, by decide +kernel, by decide +kernel⟩
theorem ok_alike {f : Addr} {fd : FuncData} (F : Fun K "_law_alike" "_law_alike" s_law_alike f fd) (mr : mg "repr" = none) : FnQ P w K mg base 1 f fd ["_law_found", "_law_right_here"] (spAlike K) := by
  refine okQ F scAlike (fun vs H Q h => ?_) (fun cdv A outer s H vs Q quiet hr h => ?_)
  · obtain ⟨x, y, d, k, n, rfl, _⟩ := h
    rfl
  obtain ⟨x, y, d, k, n, rfl, dx, dy, g, hk, hn, q⟩ := h
  have un := hr.un
  refine ⟨_, pss_one (ps_ret (pe_and (pe_cmpR (op_eqD hr.units) (pv 0) (pv 1) (nomark _))
    (pe_one (pe_cmpR op_eq (pe_callB (cr_repr quiet (by show A.units + 3 + 70 < cLine; have : A.units + 3 + 16 * 0 + 200 < cLine := un; omega)) (by rfl) mr (by decide +kernel) (pa_cons (pv 0) pa_nil))
      (pe_callB (cr_repr quiet (by show A.units + 3 + 70 < cLine; have : A.units + 3 + 16 * 0 + 200 < cLine := un; omega)) (by rfl) mr (by decide +kernel) (pa_cons (pv 1) pa_nil)) (nomark _))))), ?_⟩
  have len : d.shown.length ≤ sizeLine := Nat.le_trans g.len hn
  refine ⟨x, rfl, y, rfl, d, d, dx, dy, g.shaped hk, g.shaped hk, true, by rw [g.self], ?_⟩
  refine iteT ?_
  refine ⟨x, rfl, x, d, rfl, dx, g.shows, g.noDict, Nat.le_trans g.deep hk, len, y, rfl, y, d, rfl, dy, g.shows, g.noDict, Nat.le_trans g.deep hk, len, rfl, ?_⟩
  show Q (.bl (decide (V.str d.shown = V.str d.shown))) H
  rw [decide_eq_true rfl]
  exact q

theorem scPick : FnScope ["_law_bag_here", "_law_some"] ["_law_bag_here", "_law_some"] (defScope s_law_pick) := ⟨rfl, rfl, rfl, by decide +kernel, rfl, by decide +kernel, by decide +kernel⟩
theorem ok_pick {f ft : Addr} {fd fdt : FuncData} (F : Fun K "_law_pick" "_law_pick" s_law_pick f fd) (DT : Df K mg "_law_take" s_law_take ["_law_bag_here", "_law_many"] ft fdt)
    (GT : FnOk P w K mg base CX0 1 ft fdt ["_law_bag_here", "_law_many"] spTake) (ml : mg "len" = none) : FnOk P w K mg base CX0 2 f fd ["_law_bag_here", "_law_some"] (spPick K) := by
  refine F.ok scPick (fun vs H Q E h => ?_) (fun cdv A outer s H vs Q E hr h => ?_)
  · obtain ⟨b, bc, l, xs, rfl, _⟩ := h
    rfl
  obtain ⟨b, bc, l, xs, rfl, bag, ne, sq, h1, h2, q⟩ := h
  refine ⟨_, pss_one (ps_ret (pe_ix ix_list (pv 1) (pcall DT GT hr (pa_cons (pv 0) (pa_cons (pe_callB call_len_seq (by rfl) ml PySem.boot_len (pa_cons (pv 1) pa_nil)) pa_nil))) (fun _ _ => rfl))), ?_⟩
  refine ⟨.ref l, rfl, .ref b, rfl, .ref l, rfl, l, xs, rfl, .inl sq, b, bc, xs.length, rfl, bag, h1, by omega, fun H' r dr hr' => ?_⟩
  have g : xs[r]? = some xs[r] := List.getElem?_eq_getElem hr'
  exact ⟨l, xs, _, xs[r], rfl, rfl, drew_seq dr ne sq, atI_nat g, q H' r _ dr g⟩

theorem scUnder : FnScope ["name", "top", "ahead"] ["name", "top"] (defScope s_is_under) := ⟨rfl, rfl, rfl, by decide +kernel, rfl, by decide +kernel, by decide +kernel⟩
theorem ok_under {f : Addr} {fd : FuncData} (F : Fun K "is_under" "is_under" s_is_under f fd) (ml : mg "len" = none) : FnOk P w K mg base CX0 1 f fd ["name", "top"] (spUnder K) := by
  refine F.ok scUnder (fun vs H Q E h => ?_) (fun cdv A outer s H vs Q E hr h => ?_)
  · obtain ⟨a, c, n, t, rfl, _⟩ := h
    rfl
  obtain ⟨a, c, n, t, rfl, hn, ht, ln, lt, kn, kt, q⟩ := h
  refine ⟨_, pss_cons (ps_set (i := 2) scUnder.nd rfl (.inl rfl) (pe_op op_sub (pe_callB call_len_seq (by rfl) ml PySem.boot_len (pa_cons (pv 0) pa_nil)) (pe_callB call_len_seq (by rfl) ml PySem.boot_len (pa_cons (pv 1) pa_nil))))
    (pss_one (ps_ret (pe_and (pe_cmpR op_ge (pv 2) pe_int (nomark _)) (pe_one (pe_cmpR (op_eqD hr.units) (pe_slice sl_tupA (pv 0) (po_some (pv 2)) po_none) (pv 1) (nomark _)))))), ?_⟩
  refine ⟨.ref a, rfl, a, _, rfl, .inr hn, .ref c, rfl, c, _, rfl, .inr ht, _, _, rfl, rfl, ?_⟩
  have e1 : ((n.map V.str).length : Int) = n.length := by rw [List.length_map]
  have e2 : ((t.map V.str).length : Int) = t.length := by rw [List.length_map]
  rw [e1, e2]
  refine ⟨.int ((n.length : Int) - t.length), rfl, _, _, rfl, rfl, _, rfl, ite2 (fun h => ?_) (fun h => ?_)⟩
  · have le : (0 : Int) ≤ (n.length : Int) - t.length := of_decide_eq_true h
    obtain ⟨k, hk⟩ : ∃ k : Nat, (n.length : Int) - t.length = (k : Int) := ⟨n.length - t.length, by omega⟩
    have kl : k = n.length - t.length := by omega
    have suf : decide (n.drop k = t) = decide (t <:+ n) := by
      have : n.drop k = t ↔ t <:+ n := by
        constructor
        · intro e
          exact ⟨n.take k, by rw [← e, List.take_append_drop]⟩
        · rintro ⟨z, rfl⟩
          have : k = z.length := by rw [kl, List.length_append]; omega
          rw [this, List.drop_left]
      exact decide_eq_decide.mpr this
    have ix : HT.sIx (n.map V.str).length 0 (some ((n.length : Int) - t.length)) = k := by
      rw [hk, HT.sIx_nat, List.length_map]
      omega
    have cut : cutV (n.map V.str) (some ((n.length : Int) - t.length)) none = (n.drop k).map V.str := by
      unfold cutV
      rw [ix, HT.sIx_none, List.map_drop]
      exact List.take_of_length_le (by simp)
    refine ⟨.ref a, rfl, _, rfl, _, rfl, a, _, rfl, hn, fun hw => ?_, fun _ p np => ?_⟩
    · have k0 : k = 0 := ix.symm.trans hw.1
      refine ⟨.ref c, rfl, nameD n, nameD t, nm_dp hn, nm_dp ht, (good_name ln kn).shaped (by decide), (good_name lt kt).shaped (by decide), ?_⟩
      rw [k0, List.drop_zero] at suf
      rw [eqv_name, suf]
      exact q H (Same.refl H)
    · refine ⟨.ref c, rfl, nameD (n.drop k), nameD t, nm_dp (.inl (.inl ?_)), nm_dp (same_seqT (same_put np) ht), (good_name (ln.drop k) (by rw [List.length_drop]; omega)).shaped (by decide), (good_name lt kt).shaped (by decide), ?_⟩
      · rw [upd_same, cut]
      · rw [eqv_name, suf]
        exact q _ (same_put np)
  · have gt : ¬ (t <:+ n) := fun z => h (decide_eq_true (by have := z.length_le; omega))
    have := q H (Same.refl H)
    rw [decide_eq_false gt] at this
    exact this

theorem scBeneath : FnScope ["name", "top"] ["name", "top"] (defScope s_is_beneath) := ⟨rfl, rfl, rfl, by decide +kernel, rfl, by decide +kernel, by decide +kernel⟩
theorem ok_beneath {f fu : Addr} {fd fdu : FuncData} (F : Fun K "is_beneath" "is_beneath" s_is_beneath f fd) (DU : Df K mg "is_under" s_is_under ["name", "top"] fu fdu) (GU : FnOk P w K mg base CX0 1 fu fdu ["name", "top"] (spUnder K))
    (ml : mg "len" = none) : FnOk P w K mg base CX0 2 f fd ["name", "top"] (spBeneath K) := by
  refine F.ok scBeneath (fun vs H Q E h => ?_) (fun cdv A outer s H vs Q E hr h => ?_)
  · obtain ⟨a, c, n, t, rfl, _⟩ := h
    rfl
  obtain ⟨a, c, n, t, rfl, hn, ht, ln, lt, kn, kt, q⟩ := h
  refine ⟨_, pss_one (ps_ret (pe_and (pe_cmpR op_gt (pe_callB call_len_seq (by rfl) ml PySem.boot_len (pa_cons (pv 0) pa_nil)) (pe_callB call_len_seq (by rfl) ml PySem.boot_len (pa_cons (pv 1) pa_nil)) (nomark _))
    (pe_one (pcall DU GU hr (pa_cons (pv 0) (pa_cons (pv 1) pa_nil)))))), ?_⟩
  refine ⟨.ref a, rfl, a, _, rfl, .inr hn, .ref c, rfl, c, _, rfl, .inr ht, _, _, rfl, rfl, _, rfl, ite2 (fun h => ?_) (fun h => ?_)⟩
  · have lt' : t.length < n.length := by
      have := of_decide_eq_true h
      rw [List.length_map, List.length_map] at this
      omega
    refine ⟨.ref a, rfl, .ref c, rfl, a, c, n, t, rfl, hn, ht, ln, lt, kn, kt, fun H' sm => ?_⟩
    have := q H' sm
    rw [show decide (t.length < n.length ∧ t <:+ n) = decide (t <:+ n) from decide_eq_decide.mpr ⟨fun z => z.2, fun z => ⟨lt', z⟩⟩] at this
    exact this
  · have := q H (Same.refl H)
    rw [decide_eq_false (fun z => h (decide_eq_true (by rw [List.length_map, List.length_map]; have := z.1; omega)))] at this
    exact this

theorem scTops : FnScope ["name", "at"] ["name"] (defScope s_tops) := ⟨rfl, rfl, rfl, by decide +kernel, rfl, by decide +kernel, by decide +kernel⟩
theorem ok_tops {f : Addr} {fd : FuncData} (F : Fun K "tops" "tops" s_tops f fd) (ml : mg "len" = none) (mr : mg "range" = none) : FnOk P w K mg base CX0 1 f fd ["name"] (spTops K) := by
  refine F.ok scTops (fun vs H Q E h => ?_) (fun cdv A outer s H vs Q E hr h => ?_)
  · obtain ⟨a, n, rfl, _⟩ := h
    rfl
  obtain ⟨a, n, rfl, hn, ln, kn, q⟩ := h
  refine ⟨_, pss_one (ps_ret (pe_lc (own := [("at", 1)]) (g := gName 1) (tt := tYes) rfl scTops.nd (pi_range1 (by rfl) mr (pa_cons (pe_op op_add (pe_callB call_len_seq (by rfl) ml PySem.boot_len (pa_cons (pv 0) pa_nil)) pe_int) pa_nil))
    (blkOk_by (N := ["name", "at"]) (sc := defScope s_tops) (by decide +kernel)) (fun _ _ _ _ _ => pg_name (i := 1) scTops.nd rfl (Or.inl rfl)) (fun _ _ _ _ _ => pts_nil)
    (fun _ _ _ _ _ => pe_slice (r := rSlA K) sl_tupA (pv 0) (po_some (pv 1)) po_none))), ?_⟩
  refine ⟨.ref a, rfl, a, _, rfl, .inr hn, _, _, rfl, rfl, _, rfl, by omega, by rw [List.length_map]; omega, fun D nD => ?_⟩
  have many : (((n.map V.str).length : Nat) + 1 : Int).toNat = n.length + 1 := by rw [List.length_map]; omega
  show ∃ W, _
  rw [many]
  refine lc_range (lo := 0) (n := n.length + 1) (fun i G => ∃ vs, G D = some (.lst vs) ∧ Same H G ∧ DpAll K G vs (((List.range i).map fun k => n.drop k).map nameD) ∧ vs.length = i)
    ⟨[], upd_same, same_put nD, .nil, rfl⟩ (fun i G hi h => ?_) (fun G h => ?_)
  · obtain ⟨vs, eD, sm, dp, hl⟩ := h
    have e0 : (0 : Int) + (i : Nat) = (i : Nat) := Int.zero_add _
    have ix : HT.sIx (n.map V.str).length 0 (some ((0 : Int) + (i : Nat))) = i := by
      rw [e0, HT.sIx_nat, List.length_map]
      omega
    have cut : cutV (n.map V.str) (some ((0 : Int) + (i : Nat))) none = (n.drop i).map V.str := by
      unfold cutV
      rw [ix, HT.sIx_none, List.map_drop]
      exact List.take_of_length_le (by simp)
    have grow : ∀ (p : Addr) (G' : Hp), Same G G' → Nm K G' p (n.drop i) → ∃ acc, G' D = some (.lst acc) ∧ acc.length < sizeLine ∧ ∃ vs, upd G' D (.lst (acc ++ [.ref p])) D = some (.lst vs) ∧ Same H (upd G' D (.lst (acc ++ [.ref p]))) ∧
        DpAll K (upd G' D (.lst (acc ++ [.ref p]))) vs (((List.range (i + 1)).map fun k => n.drop k).map nameD) ∧ vs.length = i + 1 := by
      intro p G' sg nm
      have eD' := sg _ _ eD
      refine ⟨vs, eD', small1000 (by omega), vs ++ [.ref p], upd_same, ?_, ?_, by rw [List.length_append, hl]; rfl⟩
      · exact fun b o e => by rw [upd_ne (ne_of_none e nD)]; exact sg _ _ (sm _ _ e)
      · rw [List.range_succ, List.map_append, List.map_append]
        exact dpa_put eD' (dpa_append (dpa_same sg dp) (.cons (nm_dp nm) .nil)) (by rw [← List.map_append]; exact names_noLst _)
    refine ⟨rfl, .ref a, rfl, _, rfl, _, rfl, a, _, rfl, same_seqT sm hn, fun hw => ?_, fun _ p np => ?_⟩
    · have i0 : i = 0 := ix.symm.trans hw.1
      refine grow a G (Same.refl G) ?_
      rw [i0]
      exact same_seqT sm hn
    · refine grow p _ (same_put np) (.inl (.inl ?_))
      rw [upd_same, cut]
  · obtain ⟨vs, eD, sm, dp, hl⟩ := h
    exact q G D vs sm nD eD dp

theorem scLabels : FnScope ["_law_bag_here", "_law_many", "_law_turn", "_law_stem", "_law_letters", "_law_k"] ["_law_bag_here", "_law_many"] (defScope s_law_labels) := ⟨rfl, rfl, rfl, by decide +kernel, rfl, by decide +kernel, by decide +kernel⟩
theorem ok_labels {f ft : Addr} {fd fdt : FuncData} (F : Fun K "_law_labels" "_law_labels" s_law_labels f fd) (DT : Df K mg "_law_take" s_law_take ["_law_bag_here", "_law_many"] ft fdt)
    (GT : FnOk P w K mg base CX0 1 ft fdt ["_law_bag_here", "_law_many"] spTake) (mi : mg "int" = none) (mr : mg "range" = none) : FnOk P w K mg base CX0 2 f fd ["_law_bag_here", "_law_many"] spLabels := by
  refine F.ok scLabels (fun vs H Q E h => ?_) (fun cdv A outer s H vs Q E hr h => ?_)
  · obtain ⟨b, bc, n, rfl, _⟩ := h
    rfl
  obtain ⟨b, bc, n, rfl, bag, hn, q⟩ := h
  have nd := scLabels.nd
  refine ⟨_, pss_cons (ps_asg (pe_tup (pa_cons (pcall DT GT hr (pa_cons (pv 0) (pa_cons pe_int pa_nil))) (pa_cons
      (pe_ix ix_list (pe_lst (pa_cons pe_str (pa_cons pe_str (pa_cons pe_str (pa_cons pe_str pa_nil))))) (pcall DT GT hr (pa_cons (pv 0) (pa_cons pe_int pa_nil))) (fun _ _ => rfl)) pa_nil)))
      (pg_tup rfl (pgs_cons (pg_name (i := 2) nd rfl (.inr rfl)) (pgs_cons (pg_name (i := 3) nd rfl (.inr rfl)) pgs_nil))))
    (pss_cons (ps_asg pe_str (pg_name (i := 4) nd rfl (.inr rfl)))
    (pss_one (ps_ret (pe_lc (own := [("_law_k", 5)]) (g := gName 5) (tt := tYes) rfl nd (pi_range1 (by rfl) mr (pa_cons (pv 1) pa_nil))
      (blkOk_by (N := ["_law_bag_here", "_law_many", "_law_turn", "_law_stem", "_law_letters", "_law_k"]) (sc := defScope s_law_labels) (by decide +kernel)) (fun _ _ _ _ _ => pg_name (i := 5) nd rfl (Or.inl rfl)) (fun _ _ _ _ _ => pts_nil)
      (fun _ _ _ _ _ => pe_op op_add_str (pe_op op_mulStr (pv 3) (pe_callTy call_int1 (by rfl) mi (by decide +kernel) (pa_cons (pe_op op_mod (pe_callTy call_int1 (by rfl) mi (by decide +kernel) (pa_cons (pv 5) pa_nil)) pe_int) pa_nil)))
        (pe_item_str (pv 4) (pe_op op_mod (pe_callTy call_int1 (by rfl) mi (by decide +kernel) (pa_cons (pe_op op_add (pv 2) (pe_op op_mul pe_int (pv 5))) pa_nil)) pe_int) (fun _ _ => rfl))))))), ?_⟩
  refine ⟨.ref b, rfl, b, bc, 26, rfl, bag, by decide, by decide, fun H1 r1 d1 l1 => ?_⟩
  refine ⟨by show 4 ≤ sizeLine; decide, fun l nl => ?_⟩
  have nlb : l ≠ b := fun e => by
    obtain ⟨xs, hx⟩ := d1.bag.lst
    rw [e, hx] at nl
    cases nl
  refine ⟨.ref b, rfl, b, bc, 4, rfl, d1.bag.same (same_put nl), by decide, by decide, fun H3 r2 d3 l2 => ?_⟩
  have sl : SqL K H3 l (stems.map V.str) := drew_seq d3 nlb (.inl (.inl upd_same))
  have hst : (stems.map V.str)[r2]? = some (V.str stems[r2]) := by
    rw [List.getElem?_map, List.getElem?_eq_getElem (show r2 < stems.length from l2)]
    rfl
  have okst := stem_ok stems[r2] (List.getElem_mem _)
  refine ⟨l, _, _, _, rfl, rfl, sl, atI_nat hst, by show 2 ≤ sizeLine; decide, fun T nT => ?_⟩
  have d4 : Drew b bc H (upd H3 T (.tup [.int r1, .str stems[r2]])) := ((d1.same (same_put nl)).trans d3).same (same_put nT)
  refine ⟨T, _, rfl, .inl (.inl upd_same), rfl, _, _, rfl, _, _, rfl, rfl, ?_⟩
  refine ⟨_, rfl, _, rfl, by omega, by omega, fun D nD => ?_⟩
  generalize hG4 : upd H3 T (.tup [.int r1, .str stems[r2]]) = H4 at *
  refine lc_range (lo := 0) (n := n) (fun i G => ∃ ls : List Str, G D = some (.lst (ls.map V.str)) ∧ Same H4 G ∧ Labs ls ∧ (∀ x ∈ ls, x.length ≤ 10) ∧ ls.length = i)
    ⟨[], upd_same, same_put nD, Labs.nil, fun _ h => absurd h List.not_mem_nil, rfl⟩ (fun i G hi h => ?_) (fun G h => ?_)
  · obtain ⟨ls, eD, sm, lab, few, hl⟩ := h
    have e0 : (0 : Int) + (i : Nat) = (i : Nat) := Int.zero_add _
    obtain ⟨mok, mis⟩ := mul_few (x := stems[r2]) (k := ((0 : Int) + (i : Nat)) % 2) (by omega) (by omega)
    have mlab : PyData.strOk (Txt.mul stems[r2] (((0 : Int) + (i : Nat)) % 2)) = true ∧ (Txt.mul stems[r2] (((0 : Int) + (i : Nat)) % 2)).length ≤ 7 := by
      rcases mis with e | e
      · rw [e]; exact ⟨by decide +kernel, by decide +kernel⟩
      · rw [e]; exact okst
    have hj : (((r1 : Int) + 3 * ((0 : Int) + (i : Nat))) % 26).toNat < 26 := by omega
    obtain ⟨c, ec, hc⟩ := letters_at hj
    have one : (Str.mk #[c]).length = 1 := rfl
    refine ⟨rfl, _, rfl, _, rfl, .inl ⟨_, rfl, _, _, rfl, rfl, (by show (0 : Int) < 2; decide), .inl ⟨_, rfl, _, _, rfl, rfl, mok, ?_⟩⟩⟩
    refine ⟨_, rfl, _, rfl, _, rfl, _, _, rfl, rfl, .inl ⟨by decide, by decide⟩, _, _, rfl, rfl, .inl ⟨_, rfl, _, _, rfl, rfl, (by show (0 : Int) < 26; decide), ?_⟩⟩
    refine ⟨letters, ((r1 : Int) + 3 * ((0 : Int) + (i : Nat))) % 26, c, rfl, rfl, by omega, by omega, ?_, ec, _, _, rfl, rfl, ?_, ls.map V.str, eD, small1000 (by rw [List.length_map]; omega), ls ++ [Txt.mul stems[r2] (((0 : Int) + (i : Nat)) % 2) ++ ⟨#[c]⟩], ?_, ?_, ?_, ?_, ?_⟩
    · show _ < ((26 : Nat) : Int)
      omega
    · rw [one, sizeLine_eq]
      have := mlab.2
      omega
    · rw [upd_same, List.map_append]
      rfl
    · exact fun a o e => by rw [upd_ne (ne_of_none e nD)]; exact sm _ _ e
    · refine lab.append (Labs.cons ⟨strOk_cat mlab.1 (strOk_one hc), ?_⟩ Labs.nil)
      rw [strLen_append, one]
      have := mlab.2
      omega
    · intro x hx
      rcases List.mem_append.mp hx with hx | hx
      · exact few x hx
      · rw [List.mem_singleton.mp hx, strLen_append, one]
        have := mlab.2
        omega
    · rw [List.length_append, hl]
      rfl
  · obtain ⟨ls, eD, sm, lab, few, hl⟩ := h
    exact q G D ls (d4.same sm) (d4.free nD) eD lab few hl

theorem scWord : FnScope ["_law_bag_here", "_law_labels_here", "_law_least", "_law_most", "_law_k"] ["_law_bag_here", "_law_labels_here", "_law_least", "_law_most"] (defScope s_law_word) := ⟨rfl, rfl, rfl, by decide +kernel, rfl, by decide +kernel, by decide +kernel⟩
theorem ok_word {f ft fp : Addr} {fd fdt fdp : FuncData} (F : Fun K "_law_word" "_law_word" s_law_word f fd) (DT : Df K mg "_law_take" s_law_take ["_law_bag_here", "_law_many"] ft fdt)
    (GT : FnOk P w K mg base CX0 1 ft fdt ["_law_bag_here", "_law_many"] spTake) (DP : Df K mg "_law_pick" s_law_pick ["_law_bag_here", "_law_some"] fp fdp) (GP : FnOk P w K mg base CX0 2 fp fdp ["_law_bag_here", "_law_some"] (spPick K))
    (mt : mg "tuple" = none) (mr : mg "range" = none) : FnOk P w K mg base CX0 3 f fd ["_law_bag_here", "_law_labels_here", "_law_least", "_law_most"] (spWord K) := by
  refine F.ok scWord (fun vs H Q E h => ?_) (fun cdv A outer s H vs Q E hr h => ?_)
  · obtain ⟨b, bc, l, ls, lo, hi, rfl, _⟩ := h
    rfl
  obtain ⟨b, bc, l, ls, lo, hi, rfl, bag, ne, sq, lab, l1, l2, le, few, q⟩ := h
  have nd := scWord.nd
  refine ⟨_, pss_one (ps_ret (pe_callTy call_tuple_of (by rfl) mt (by decide +kernel) (pa_cons (pe_lc (own := [("_law_k", 4)]) (g := gName 4) (tt := tYes) rfl nd
      (pi_range1 (by rfl) mr (pa_cons (pe_op op_add (pv 2) (pcall DT GT (hr.mono (by decide)) (pa_cons (pv 0) (pa_cons (pe_op op_add (pe_op op_sub (pv 3) (pv 2)) pe_int) pa_nil)))) pa_nil))
      (blkOk_by (N := ["_law_bag_here", "_law_labels_here", "_law_least", "_law_most", "_law_k"]) (sc := defScope s_law_word) (by decide +kernel)) (fun _ _ _ _ _ => pg_name (i := 4) nd rfl (Or.inl rfl)) (fun _ _ _ _ _ => pts_nil)
      (fun _ _ _ _ _ => pcall DP GP hr (pa_cons (pv 0) (pa_cons (pv 1) pa_nil)))) pa_nil))), ?_⟩
  have many : ((hi : Int) - (lo : Int) + 1) = ((hi - lo + 1 : Nat) : Int) := by omega
  refine ⟨_, rfl, .ref b, rfl, _, rfl, _, rfl, _, _, rfl, rfl, _, _, rfl, rfl, b, bc, hi - lo + 1, ?_, bag, by omega, by omega, fun H1 r d1 hr1 => ?_⟩
  · show [V.ref b, V.int ((hi : Int) - (lo : Int) + 1)] = _
    rw [many]
  refine ⟨_, _, rfl, rfl, _, rfl, by omega, by omega, fun D nD => ?_⟩
  have cnt : ((lo : Int) + (r : Int)).toNat = lo + r := by omega
  show ∃ W, _
  rw [cnt]
  have nDb := d1.bag.apart nD
  have sq1 := drew_seq d1 ne sq
  refine lc_range (lo := 0) (n := lo + r) (fun i G => ∃ nm : List Str, G D = some (.lst (nm.map V.str)) ∧ Drew b bc H1 G ∧ Labs nm ∧ nm.length = i)
    ⟨[], upd_same, (Drew.refl d1.bag).put d1.bag nD, Labs.nil, rfl⟩ (fun i G hi h => ?_) (fun G h => ?_)
  · obtain ⟨nm, eD, dg, ln, hl⟩ := h
    refine ⟨rfl, .ref b, rfl, .ref l, rfl, b, bc, l, ls.map V.str, rfl, dg.bag, ne, drew_seq dg ne sq1, by rw [List.length_map]; exact l1, by rw [List.length_map]; exact l2, fun G' j v d' hv => ?_⟩
    obtain ⟨x, hx, rfl⟩ := List.mem_map.mp (List.mem_of_getElem? hv)
    refine ⟨nm.map V.str, d'.keep D _ nDb.1 eD, small1000 (by rw [List.length_map]; omega), nm ++ [x], ?_, (dg.trans d').put d1.bag nD, ln.append (Labs.cons (lab x hx) Labs.nil), ?_⟩
    · rw [upd_same, List.map_append]
      rfl
    · rw [List.length_append, hl]
      rfl
  · obtain ⟨nm, eD, dg, ln, hl⟩ := h
    refine ⟨D, _, rfl, .inl ⟨.inl (.inl eD), fun t nt => ?_⟩⟩
    exact q _ t nm ((d1.trans dg).same (same_put nt)) (.inl (.inl upd_same)) ln (by omega) (by omega)

theorem scMore : FnScope ["_law_bag_here", "_law_labels_here"] ["_law_bag_here", "_law_labels_here"] (defScope s_law_more_labels) := ⟨rfl, rfl, rfl, by decide +kernel, rfl, by decide +kernel, by decide +kernel⟩
theorem ok_more {f ft : Addr} {fd fdt : FuncData} (F : Fun K "_law_more_labels" "_law_more_labels" s_law_more_labels f fd) (DT : Df K mg "_law_take" s_law_take ["_law_bag_here", "_law_many"] ft fdt)
    (GT : FnOk P w K mg base CX0 1 ft fdt ["_law_bag_here", "_law_many"] spTake) (mi : mg "int" = none) : FnOk P w K mg base CX0 2 f fd ["_law_bag_here", "_law_labels_here"] (spMore K) := by
  refine F.ok scMore (fun vs H Q E h => ?_) (fun cdv A outer s H vs Q E hr h => ?_)
  · obtain ⟨b, bc, l, ls, rfl, _⟩ := h
    rfl
  obtain ⟨b, bc, l, ls, rfl, bag, ne, hl, lab, ten, l1, l2, q⟩ := h
  refine ⟨_, pss_one (ps_ret (pe_op op_cat (pv 1) (pe_op op_rep (pe_lst (pa_cons (pe_op op_add_str pe_str (pe_ix ix_list (pv 1) pe_int (fun _ _ => rfl))) pa_nil))
    (pe_callTy call_int1 (by rfl) mi (by decide +kernel) (pa_cons (pe_cmpR op_eq (pcall DT GT hr (pa_cons (pv 0) (pa_cons pe_int pa_nil))) pe_int (nomark _)) pa_nil))))), ?_⟩
  obtain ⟨x, r, rfl⟩ : ∃ x r, ls = x :: r := by
    cases ls with
    | nil => exact absurd l1 (by decide)
    | cons x r => exact ⟨x, r, rfl⟩
  have lx := lab x List.mem_cons_self
  have tx := ten x List.mem_cons_self
  have z1 : (Str.ofString "z").length = 1 := rfl
  have lz : Lab (Str.ofString "z" ++ x) := ⟨strOk_cat (by decide +kernel) lx.ok, by rw [strLen_append, z1]; omega⟩
  refine ⟨.ref l, rfl, .ref l, rfl, l, _, 0, .str x, rfl, rfl, .inl (.inl hl), atI_nat (j := 0) rfl, _, _, rfl, rfl, by rw [z1, sizeLine_eq]; omega, by show 1 ≤ sizeLine; decide, fun t nt => ?_⟩
  have n1 := bag.apart nt
  refine ⟨.ref b, rfl, b, bc, 3, rfl, bag.same (same_put nt), by decide, by decide, fun H1 k d1 hk => ?_⟩
  have et : H1 t = some (.lst [.str (Str.ofString "z" ++ x)]) := d1.keep t _ n1.1 upd_same
  have nlt : l ≠ t := ne_of_none hl nt
  have el : H1 l = some (.lst ((x :: r).map V.str)) := d1.keep l _ ne (by rw [upd_ne nlt]; exact hl)
  have dd : Drew b bc H H1 := same_drew (same_put nt) d1
  refine ⟨rfl, .inr ⟨_, rfl, ?_⟩⟩
  generalize decide (V.int (k : Nat) = V.int 0) = yes
  cases yes
  · refine ⟨t, 0, _, rfl, rfl, et, by decide, by decide, by rw [sizeLine_eq]; exact Nat.zero_le _, fun p np => ?_⟩
    have e2 : (upd H1 p (.lst (List.replicate (0 : Int).toNat [V.str (Str.ofString "z" ++ x)]).flatten)) l = some (.lst ((x :: r).map V.str)) := by
      rw [upd_ne (ne_of_none el np)]
      exact el
    refine ⟨l, p, _, _, rfl, rfl, e2, upd_same, ?_, fun p2 np2 => ?_⟩
    · rw [List.length_map, sizeLine_eq]
      show _ + 0 ≤ _
      omega
    · have d2 := dd.same (same_put (o := .lst (List.replicate (0 : Int).toNat [V.str (Str.ofString "z" ++ x)]).flatten) np)
      refine q _ p2 (x :: r) (d2.same (same_put np2)) (d2.free np2) ?_ lab l1 (by omega)
      rw [upd_same]
      show some (HO.lst (_ ++ [])) = _
      rw [List.append_nil]
  · refine ⟨t, 1, _, rfl, rfl, et, by decide, by decide, by rw [sizeLine_eq]; show 1 * 1 ≤ _; decide, fun p np => ?_⟩
    have e2 : (upd H1 p (.lst (List.replicate (1 : Int).toNat [V.str (Str.ofString "z" ++ x)]).flatten)) l = some (.lst ((x :: r).map V.str)) := by
      rw [upd_ne (ne_of_none el np)]
      exact el
    refine ⟨l, p, _, _, rfl, rfl, e2, upd_same, ?_, fun p2 np2 => ?_⟩
    · rw [List.length_map, sizeLine_eq]
      show _ + 1 ≤ _
      omega
    · have d2 := dd.same (same_put (o := .lst (List.replicate (1 : Int).toNat [V.str (Str.ofString "z" ++ x)]).flatten) np)
      refine q _ p2 ((x :: r) ++ [Str.ofString "z" ++ x]) (d2.same (same_put np2)) (d2.free np2) ?_ (lab.append (Labs.cons lz Labs.nil)) (by simp) (by rw [List.length_append]; show _ + 1 ≤ _; omega)
      rw [upd_same, List.map_append]
      rfl

theorem scNear : FnScope ["_law_bag_here", "_law_labels_here", "_law_name", "_law_found", "_law_way", "_law_at", "_law_label"] ["_law_bag_here", "_law_labels_here", "_law_name"] (defScope s_law_near) := ⟨rfl, rfl, rfl, by decide +kernel, rfl, by decide +kernel, by decide +kernel⟩
theorem ok_near {f ft : Addr} {fd fdt : FuncData} (F : Fun K "_law_near" "_law_near" s_law_near f fd) (DT : Df K mg "_law_take" s_law_take ["_law_bag_here", "_law_many"] ft fdt)
    (GT : FnOk P w K mg base CX0 1 ft fdt ["_law_bag_here", "_law_many"] spTake) (ml : mg "len" = none) (mi : mg "int" = none) (ms : mg "list" = none) (mt : mg "tuple" = none) :
    FnOk P w K mg base CX0 2 f fd ["_law_bag_here", "_law_labels_here", "_law_name"] (spNear K) := by
  refine F.ok scNear (fun vs H Q E h => ?_) (fun cdv A outer s H vs Q E hr h => ?_)
  · obtain ⟨b, bc, l, a, ls, nm, rfl, _⟩ := h
    rfl
  obtain ⟨b, bc, l, a, ls, nm, rfl, bag, ne, sq, lab, l1, l2, hnm, lnm, few, q⟩ := h
  have nd := scNear.nd
  refine ⟨_, C8.pss_cut (ps_par (i := 3) (j := 4) (by rfl) nd rfl rfl (by decide) rfl rfl (pa_cons (pe_callTy call_list_of (by rfl) ms (by decide +kernel) (pa_cons (pe_slice sl_tupD (pv 2) (po_some (pcall DT GT hr (pa_cons (pv 0) (pa_cons (pe_op op_add (pe_callB call_len_seq (by rfl) ml PySem.boot_len (pa_cons (pv 2) pa_nil)) pe_int) pa_nil)))) po_none) pa_nil))
      (pa_cons (pcall DT GT hr (pa_cons (pv 0) (pa_cons pe_int pa_nil))) pa_nil)) (by rfl))
    (C8.pss_cut (ps_par (i := 5) (j := 6) (by rfl) nd rfl rfl (by decide) rfl rfl (pa_cons (pcall DT GT hr (pa_cons (pv 0) (pa_cons (pe_op op_add (pe_callB call_len_seq (by rfl) ml PySem.boot_len (pa_cons (pv 3) pa_nil)) pe_int) pa_nil)))
      (pa_cons (pe_ix ix_list (pv 1) (pcall DT GT hr (pa_cons (pv 0) (pa_cons (pe_callB call_len_seq (by rfl) ml PySem.boot_len (pa_cons (pv 1) pa_nil)) pa_nil))) (fun _ _ => rfl)) pa_nil)) (by rfl))
    (C8.pss_cut (ps_if (pt_cmpR op_eq (pv 4) pe_int (nomark _)) (pss_one (ps_expr (pe_bm PySem.F.plainAttrs_list PySem.F.slot_list_insert PySem.F.type_list_insert mt_insert (pv 3) (pa_cons (pv 5) (pa_cons (pv 6) pa_nil))))) pss_nil)
    (C8.pss_cut (ps_if (pt_cmpR op_eq (pv 4) pe_int (nomark _)) (pss_one (ps_set (i := 3) nd rfl (.inl rfl) (pe_op op_cat (pe_slice sl_list (pv 3) po_none (po_some (pv 5))) (pe_slice sl_list (pv 3) (po_some (pe_op op_add (pv 5) pe_int)) po_none)))) pss_nil)
    (C8.pss_cut (ps_if (pt_cmpR op_eq (pv 4) pe_int (nomark _)) (pss_one (ps_set (i := 3) nd rfl (.inl rfl) (pe_op op_cat (pe_op op_cat (pe_slice sl_list (pv 3) po_none (po_some (pv 5)))
        (pe_op op_rep (pe_lst (pa_cons (pv 6) pa_nil)) (pe_callTy call_int1 (by rfl) mi (by decide +kernel) (pa_cons (pe_cmpR op_lt (pv 5) (pe_callB call_len_seq (by rfl) ml PySem.boot_len (pa_cons (pv 3) pa_nil)) (nomark _)) pa_nil))))
        (pe_slice sl_list (pv 3) (po_some (pe_op op_add (pv 5) pe_int)) po_none)))) pss_nil)
    (pss_one (ps_ret (pe_callTy call_tuple_of (by rfl) mt (by decide +kernel) (pa_cons (pv 3) pa_nil)))))))), ?_⟩
  have e1 : ((nm.map V.str).length : Int) + 1 = ((nm.length + 1 : Nat) : Int) := by rw [List.length_map]; omega
  refine ⟨fun σ' G => ∃ (p : Addr) (y : Nat) (ms : List Str), σ' = [some (.ref b), some (.ref l), some (.ref a), some (.ref p), some (.int y), none, none] ∧ Drew b bc H G ∧ H p = none ∧ G p = some (.lst (ms.map V.str)) ∧ Labs ms ∧ ms.length ≤ nm.length, ?_, ?_⟩
  · refine ⟨.ref a, rfl, .ref b, rfl, .ref a, rfl, a, _, rfl, .inr hnm, _, _, rfl, rfl, b, bc, nm.length + 1, ?_, bag, by omega, by omega, fun H1 r d1 hr1 => ?_⟩
    · show [V.ref b, V.int (((nm.map V.str).length : Int) + 1)] = _
      rw [e1]
    refine ⟨_, rfl, a, _, rfl, d1.nm bag.lst hnm, fun p H2 s2 hp => ?_⟩
    rw [cut_from] at hp
    refine ⟨p, _, rfl, .inr hp, fun f nf => ?_⟩
    have d2 := (d1.same s2).same (same_put (o := .lst ((nm.map V.str).drop r)) nf)
    refine ⟨.ref b, rfl, b, bc, 6, rfl, d2.bag, by decide, by decide, fun H3 y d3 _ => ?_⟩
    have nf0 : H f = none := (d1.same s2).free nf
    refine ⟨_, _, rfl, f, y, nm.drop r, rfl, d2.trans d3, nf0, ?_, lnm.drop r, by rw [List.length_drop]; omega⟩
    rw [List.map_drop]
    exact d3.keep f _ (bag.apart nf0).1 upd_same
  rintro _ G ⟨f, y, ms, rfl, dg, nf, ef, lms, fms⟩
  have fb := bag.apart nf
  refine ⟨fun σ' G => ∃ (k : Nat) (x : Str) (ms : List Str), σ' = [some (.ref b), some (.ref l), some (.ref a), some (.ref f), some (.int y), some (.int k), some (.str x)] ∧ Drew b bc H G ∧ Lab x ∧ k ≤ 1000 ∧ G f = some (.lst (ms.map V.str)) ∧ Labs ms ∧ ms.length ≤ nm.length, ?_, ?_⟩
  · have e2 : ((ms.map V.str).length : Int) + 1 = ((ms.length + 1 : Nat) : Int) := by rw [List.length_map]; omega
    refine ⟨.ref b, rfl, .ref f, rfl, f, _, rfl, .inl (.inl (.inl ef)), _, _, rfl, rfl, b, bc, ms.length + 1, ?_, dg.bag, by omega, by omega, fun H1 k d1 hk => ?_⟩
    · show [V.ref b, V.int (((ms.map V.str).length : Int) + 1)] = _
      rw [e2]
    have sq1 : SqL K H1 l (ls.map V.str) := drew_seq (dg.trans d1) ne sq
    refine ⟨.ref l, rfl, .ref b, rfl, .ref l, rfl, l, _, rfl, .inl sq1, b, bc, (ls.map V.str).length, rfl, d1.bag, by rw [List.length_map]; exact l1, by rw [List.length_map]; omega, fun H2 j d2 hj => ?_⟩
    rw [List.length_map] at hj
    have g : (ls.map V.str)[j]? = some (.str ls[j]) := by
      rw [List.getElem?_map, List.getElem?_eq_getElem hj]
      rfl
    refine ⟨l, _, _, _, rfl, rfl, drew_seq d2 ne sq1, atI_nat g, _, _, rfl, k, ls[j], ms, rfl, (dg.trans d1).trans d2, lab _ (List.getElem_mem _), by omega, d2.keep f _ fb.1 (d1.keep f _ fb.1 ef), lms, fms⟩
  rintro _ G2 ⟨k, x, ms2, rfl, d2, lx, hk, ef2, lms2, fms2⟩
  let W : L2.St → Hp → Prop := fun σ' G => ∃ (f : Addr) (ms : List Str), σ' = [some (.ref b), some (.ref l), some (.ref a), some (.ref f), some (.int y), some (.int k), some (.str x)] ∧ Drew b bc H G ∧ H f = none ∧ G f = some (.lst (ms.map V.str)) ∧ Labs ms ∧ ms.length ≤ nm.length + 1
  refine ⟨W, ?_, ?_⟩
  · refine ⟨.int y, rfl, rfl, _, rfl, ite2 (fun _ => ?_) (fun _ => ⟨f, ms2, rfl, d2, nf, ef2, lms2, by omega⟩)⟩
    refine ⟨.ref f, rfl, .inl ⟨rfl, _, .inl (.inl ef2)⟩, .int k, rfl, .str x, rfl, f, _, k, _, rfl, rfl, ef2, small1000 (by rw [List.length_map]; omega), by omega, by omega, f, ms2.take k ++ [x] ++ ms2.drop k, rfl, d2.put bag nf, nf, ?_, ((lms2.take k).append (Labs.cons lx Labs.nil)).append (lms2.drop k), ?_⟩
    · rw [upd_same, List.map_append, List.map_append, List.map_take, List.map_drop]
      rfl
    · rw [List.length_append, List.length_append, List.length_take, List.length_drop]
      show _ + 1 + _ ≤ _
      omega
  rintro _ G3 ⟨f3, ms3, rfl, d3, nf3, ef3, lms3, fms3⟩
  refine ⟨W, ?_, ?_⟩
  · refine ⟨.int y, rfl, rfl, _, rfl, ite2 (fun _ => ?_) (fun _ => ⟨f3, ms3, rfl, d3, nf3, ef3, lms3, fms3⟩)⟩
    refine ⟨.ref f3, rfl, .int k, rfl, _, rfl, f3, _, rfl, .inl (.inl ef3), fun p np => ?_⟩
    have s4 := same_put (o := .lst (cutV (ms3.map V.str) none (some (k : Int)))) np
    refine ⟨.ref f3, rfl, .int k, rfl, _, _, rfl, rfl, _, rfl, f3, _, rfl, .inl (.inl (s4 _ _ ef3)), fun p2 np2 => ?_⟩
    have s5 := s4.trans (same_put (o := .lst (cutV (ms3.map V.str) (some ((k : Int) + 1)) none)) np2)
    have e3 : (k : Int) + 1 = ((k + 1 : Nat) : Int) := by omega
    refine ⟨p, p2, _, _, rfl, rfl, (by rw [upd_ne (ne_of_none upd_same np2)]; exact upd_same), upd_same, ?_, fun p3 np3 => ?_⟩
    · rw [cut_to, e3, cut_from, List.length_take, List.length_drop, List.length_map, sizeLine_eq]
      omega
    · refine ⟨p3, ms3.take k ++ ms3.drop (k + 1), rfl, (d3.same s5).same (same_put np3), (d3.same s5).free np3, ?_, (lms3.take k).append (lms3.drop _), ?_⟩
      · rw [upd_same, cut_to, e3, cut_from, List.map_append, List.map_take, List.map_drop]
      · rw [List.length_append, List.length_take, List.length_drop]
        omega
  rintro _ G4 ⟨f4, ms4, rfl, d4, nf4, ef4, lms4, fms4⟩
  refine ⟨W, ?_, ?_⟩
  · refine ⟨.int y, rfl, rfl, _, rfl, ite2 (fun _ => ?_) (fun _ => ⟨f4, ms4, rfl, d4, nf4, ef4, lms4, fms4⟩)⟩
    have e3 : (k : Int) + 1 = ((k + 1 : Nat) : Int) := by omega
    refine ⟨.ref f4, rfl, .int k, rfl, _, rfl, f4, _, rfl, .inl (.inl ef4), fun p np => ?_⟩
    have s1 := same_put (o := .lst (cutV (ms4.map V.str) none (some (k : Int)))) np
    refine ⟨.str x, rfl, by show 1 ≤ sizeLine; decide, fun t nt => ?_⟩
    have s2 := s1.trans (same_put (o := .lst [.str x]) nt)
    refine ⟨.int k, rfl, .ref f4, rfl, f4, _, rfl, .inl (.inl (.inl (s2 _ _ ef4))), _, _, rfl, rfl, .inr ⟨_, rfl, ?_⟩⟩
    by_cases lt : (k : Int) < ((ms4.map V.str).length : Nat)
    · rw [decide_eq_true lt]
      have lt' : k < ms4.length := by rw [List.length_map] at lt; omega
      refine ⟨t, 1, _, rfl, rfl, upd_same, by decide, by decide, by rw [sizeLine_eq]; show 1 * 1 ≤ _; decide, fun p2 np2 => ?_⟩
      have s3 := s2.trans (same_put (o := .lst (List.replicate (1 : Int).toNat [V.str x]).flatten) np2)
      refine ⟨p, p2, _, _, rfl, rfl, (by rw [upd_ne (ne_of_none (by rw [upd_ne (ne_of_none upd_same nt)]; exact upd_same) np2), upd_ne (ne_of_none upd_same nt)]; exact upd_same), upd_same, ?_, fun p3 np3 => ?_⟩
      · rw [cut_to, List.length_take, List.length_map, sizeLine_eq]
        show _ + 1 ≤ _
        omega
      have s4 := s3.trans (same_put (o := .lst (cutV (ms4.map V.str) none (some (k : Int)) ++ (List.replicate (1 : Int).toNat [V.str x]).flatten)) np3)
      refine ⟨.ref f4, rfl, .int k, rfl, _, _, rfl, rfl, _, rfl, f4, _, rfl, .inl (.inl (s4 _ _ ef4)), fun p4 np4 => ?_⟩
      have s5 := s4.trans (same_put (o := .lst (cutV (ms4.map V.str) (some ((k : Int) + 1)) none)) np4)
      refine ⟨p3, p4, _, _, rfl, rfl, (by rw [upd_ne (ne_of_none upd_same np4)]; exact upd_same), upd_same, ?_, fun p5 np5 => ?_⟩
      · rw [cut_to, e3, cut_from, List.length_append, List.length_take, List.length_drop, List.length_map, sizeLine_eq]
        show _ + 1 + _ ≤ _
        omega
      · refine ⟨p5, ms4.take k ++ [x] ++ ms4.drop (k + 1), rfl, (d4.same s5).same (same_put np5), (d4.same s5).free np5, ?_, ((lms4.take k).append (Labs.cons lx Labs.nil)).append (lms4.drop _), ?_⟩
        · rw [upd_same, cut_to, e3, cut_from, List.map_append, List.map_append, List.map_take, List.map_drop]
          rfl
        · rw [List.length_append, List.length_append, List.length_take, List.length_drop]
          show _ + 1 + _ ≤ _
          omega
    · rw [decide_eq_false lt]
      refine ⟨t, 0, _, rfl, rfl, upd_same, by decide, by decide, by rw [sizeLine_eq]; exact Nat.zero_le _, fun p2 np2 => ?_⟩
      have s3 := s2.trans (same_put (o := .lst (List.replicate (0 : Int).toNat [V.str x]).flatten) np2)
      refine ⟨p, p2, _, _, rfl, rfl, (by rw [upd_ne (ne_of_none (by rw [upd_ne (ne_of_none upd_same nt)]; exact upd_same) np2), upd_ne (ne_of_none upd_same nt)]; exact upd_same), upd_same, ?_, fun p3 np3 => ?_⟩
      · rw [cut_to, List.length_take, List.length_map, sizeLine_eq]
        show _ + 0 ≤ _
        omega
      have s4 := s3.trans (same_put (o := .lst (cutV (ms4.map V.str) none (some (k : Int)) ++ (List.replicate (0 : Int).toNat [V.str x]).flatten)) np3)
      refine ⟨.ref f4, rfl, .int k, rfl, _, _, rfl, rfl, _, rfl, f4, _, rfl, .inl (.inl (s4 _ _ ef4)), fun p4 np4 => ?_⟩
      have s5 := s4.trans (same_put (o := .lst (cutV (ms4.map V.str) (some ((k : Int) + 1)) none)) np4)
      refine ⟨p3, p4, _, _, rfl, rfl, (by rw [upd_ne (ne_of_none upd_same np4)]; exact upd_same), upd_same, ?_, fun p5 np5 => ?_⟩
      · rw [cut_to, e3, cut_from, List.length_append, List.length_take, List.length_drop, List.length_map, sizeLine_eq]
        show _ + 0 + _ ≤ _
        omega
      · refine ⟨p5, ms4.take k ++ ms4.drop (k + 1), rfl, (d4.same s5).same (same_put np5), (d4.same s5).free np5, ?_, (lms4.take k).append (lms4.drop _), ?_⟩
        · rw [upd_same, cut_to, e3, cut_from, List.map_append, List.map_take, List.map_drop]
          show some (HO.lst ((_ ++ []) ++ _)) = _
          rw [List.append_nil]
        · rw [List.length_append, List.length_take, List.length_drop]
          omega
  rintro _ G5 ⟨f5, ms5, rfl, d5, nf5, ef5, lms5, fms5⟩
  exact ⟨.ref f5, rfl, f5, _, rfl, .inl ⟨.inl (.inl ef5), fun t nt => q _ t ms5 (d5.same (same_put nt)) (.inl (.inl upd_same)) lms5 fms5⟩⟩

theorem scRight : FnScope ["_law_name", "_law_other", "_law_heads", "_law_fits", "_law_due", "_law_k", "_law_head"] ["_law_name", "_law_other"] (defScope s_law_right) := ⟨rfl, rfl, rfl, by decide +kernel, rfl, by decide +kernel, by decide +kernel⟩
theorem ok_right {f fa fu fb : Addr} {fd fda fdu fdb : FuncData} (F : Fun K "_law_right" "_law_right" s_law_right f fd) (DA : Df K mg "_law_alike" s_law_alike ["_law_found", "_law_right_here"] fa fda) (GA : FnQ P w K mg base 1 fa fda ["_law_found", "_law_right_here"] (spAlike K))
    (DU : Df K mg "is_under" s_is_under ["name", "top"] fu fdu) (GU : FnOk P w K mg base CX0 1 fu fdu ["name", "top"] (spUnder K)) (DB : Df K mg "is_beneath" s_is_beneath ["name", "top"] fb fdb) (GB : FnOk P w K mg base CX0 2 fb fdb ["name", "top"] (spBeneath K))
    (ml : mg "len" = none) (mr : mg "range" = none) : FnQ P w K mg base 3 f fd ["_law_name", "_law_other"] (spRight K) := by
  refine okQ F scRight (fun vs H Q h => ?_) (fun cdv A outer s H vs Q quiet hr h => ?_)
  · obtain ⟨a, c, n, t, rfl, _⟩ := h
    rfl
  obtain ⟨a, c, n, t, rfl, hn, ht, ln, lt, kn, kt, q⟩ := h
  have nd := scRight.nd
  refine ⟨_, C8.pss_cut (ps_setLc (i := 2) (own := [("_law_k", 5)]) (g := gName 5) (tt := tYes) rfl nd rfl rfl (sw_true rfl rfl rfl (by decide +kernel))
      (pi_range1 (by rfl) mr (pa_cons (pe_op op_add (pe_callB call_len_seq (by rfl) ml PySem.boot_len (pa_cons (pv 0) pa_nil)) pe_int) pa_nil))
      (blkOk_by (N := ["_law_name", "_law_other", "_law_heads", "_law_fits", "_law_due", "_law_k", "_law_head"]) (sc := defScope s_law_right) (by decide +kernel)) (fun _ _ _ _ _ => pg_name (i := 5) nd rfl (Or.inl rfl)) (fun _ _ _ _ _ => pts_nil)
      (fun _ _ _ _ _ => pe_slice (r := rSlD K) sl_tupD (pv 0) po_none (po_some (pv 5))))
    (C8.pss_cut (ps_setLc (i := 3) (own := [("_law_head", 6)]) (g := gName 6) rfl nd rfl rfl (sw_true rfl rfl rfl (by decide +kernel))
      (pi_list (pv 2)) (blkOk_by (N := ["_law_name", "_law_other", "_law_heads", "_law_fits", "_law_due", "_law_k", "_law_head"]) (sc := defScope s_law_right) (by decide +kernel)) (fun _ _ _ _ _ => pg_name (i := 6) nd rfl (Or.inl rfl))
      (fun _ _ _ _ _ => pts_one (pt_cmpR (r := rEqD K) (op_eqD hr.units) (pe_op (r := rCatD K) op_catD (pv 6) (pv 1)) (pv 0) (nomark _))) (fun _ _ _ _ _ => pv 6))
    (C8.pss_cut (ps_set (i := 4) nd rfl (.inl rfl) (pe_lst (pa_cons (pe_cmpR (op_neD hr.units) (pv 3) (pe_lst pa_nil) (nomark _))
      (pa_cons (pe_and (pe_cmpR (op_neD hr.units) (pv 3) (pe_lst pa_nil) (nomark _)) (pe_one (pe_cmpR (op_neD hr.units) (pv 3) (pe_lst (pa_cons (pe_tup pa_nil) pa_nil)) (nomark _)))) pa_nil))))
    (pss_one (ps_ret (qcall DA GA quiet (hr.mono (by decide)) (pa_cons (pe_lst (pa_cons (pcall DU GU (hr.mono (by decide)) (pa_cons (pv 0) (pa_cons (pv 1) pa_nil))) (pa_cons (pcall DB GB hr (pa_cons (pv 0) (pa_cons (pv 1) pa_nil))) pa_nil))) (pa_cons (pv 4) pa_nil))))))), ?_⟩
  have e1 : (((n.map V.str).length : Nat) : Int) + 1 = ((n.length + 1 : Nat) : Int) := by rw [List.length_map]; omega
  have many : ((((n.map V.str).length : Nat) : Int) + 1).toNat = n.length + 1 := by rw [e1]; rfl
  have two : ∀ h ∈ heads n (n.length + 1), Labs h ∧ h.length ≤ 100 := fun h hh => by
    obtain ⟨k, _, rfl⟩ := List.mem_map.mp hh
    exact ⟨ln.take k, by rw [List.length_take]; omega⟩
  -- the beginnings of the name
  refine ⟨fun σ' G => ∃ (D : Addr) (vs : List V), σ' = [some (.ref a), some (.ref c), some (.ref D), none, none, none, none] ∧ Same H G ∧ G D = some (.lst vs) ∧ DpAll K G vs ((heads n (n.length + 1)).map nameD), ?_, ?_⟩
  · refine ⟨.ref a, rfl, a, _, rfl, .inr hn, _, _, rfl, rfl, _, rfl, by omega, by rw [List.length_map]; omega, fun D nD => ?_⟩
    show ∃ W, _
    rw [many]
    refine lc_range (lo := 0) (n := n.length + 1) (fun i G => ∃ vs, G D = some (.lst vs) ∧ Same H G ∧ DpAll K G vs ((heads n i).map nameD) ∧ vs.length = i)
      ⟨[], upd_same, same_put nD, .nil, rfl⟩ (fun i G hi h => ?_) (fun G h => ?_)
    · obtain ⟨vs, eD, sm, dp, hl⟩ := h
      have e0 : (0 : Int) + (i : Nat) = (i : Nat) := Int.zero_add _
      refine ⟨rfl, .ref a, rfl, _, rfl, _, rfl, a, _, rfl, same_seqT sm hn, fun p G' sg hp => ?_⟩
      rw [e0, cut_to] at hp
      have hp' : Nm K G' p (n.take i) := by
        show SqT K G' p ((n.take i).map V.str)
        rw [List.map_take]
        exact hp
      have eD' := sg _ _ eD
      refine ⟨vs, eD', small1000 (by omega), vs ++ [.ref p], upd_same, ?_, ?_, by rw [List.length_append, hl]; rfl⟩
      · exact fun b o e => by rw [upd_ne (ne_of_none e nD)]; exact sg _ _ (sm _ _ e)
      · have e2 : heads n (i + 1) = heads n i ++ [n.take i] := by
          unfold heads
          rw [List.range_succ, List.map_append]
          rfl
        rw [e2, List.map_append]
        exact dpa_put eD' (dpa_append (dpa_same sg dp) (.cons (nm_dp hp') .nil)) (by rw [← List.map_append]; exact names_noLst _)
    · obtain ⟨vs, eD, sm, dp, hl⟩ := h
      exact ⟨D, vs, rfl, sm, eD, dp⟩
  rintro _ G ⟨D, vs, rfl, sG, eD, dp⟩
  have vl : vs.length = n.length + 1 := by
    rw [dpa_len dp, List.length_map]
    unfold heads
    rw [List.length_map, List.length_range]
  -- those that fit
  refine ⟨fun σ' G2 => ∃ (T : Addr) (ws : List V), σ' = [some (.ref a), some (.ref c), some (.ref D), some (.ref T), none, none, none] ∧ Same H G2 ∧ G2 T = some (.lst ws) ∧ DpAll K G2 ws ((fits n t (n.length + 1)).map nameD), ?_, ?_⟩
  · refine ⟨.ref D, rfl, D, rfl, ⟨_, .inl (.inl eD)⟩, fun T nT => ?_⟩
    have nTD : D ≠ T := ne_of_none eD nT
    refine lc_list (K := K) (a := D) (xs := vs) (fun i G2 => ∃ ws, G2 T = some (.lst ws) ∧ Same G G2 ∧ DpAll K G2 ws ((fits n t i).map nameD) ∧ ws.length ≤ i)
      ⟨[], upd_same, same_put nT, .nil, Nat.le_refl _⟩ (fun i G2 _ h => .inl (.inl (h.choose_spec.2.1 _ _ eD))) (fun i x G2 hx h => ?_) (fun G2 h => ?_)
    · obtain ⟨ws, eT, sm, dw, hl⟩ := h
      obtain ⟨d, hd, dx⟩ := dpa_get dp hx
      have hi : i < n.length + 1 := by
        have := (List.getElem?_eq_some_iff.mp hx).1
        omega
      have hd' : d = nameD (n.take i) := by
        rw [List.getElem?_map] at hd
        unfold heads at hd
        rw [List.getElem?_map, List.getElem?_range hi] at hd
        exact (Option.some.inj hd).symm
      rw [hd'] at dx
      obtain ⟨p, rfl, hp⟩ := dp_nm dx
      have e2 : heads n (i + 1) = heads n i ++ [n.take i] := by
        unfold heads
        rw [List.range_succ, List.map_append]
        rfl
      have e3 : fits n t (i + 1) = fits n t i ++ [n.take i].filter fun h => decide (h ++ t = n) := by
        unfold fits
        rw [e2, List.filter_append]
      have lk : (n.take i).length ≤ 49 := by rw [List.length_take]; omega
      refine ⟨rfl, .ref p, rfl, .ref c, rfl, p, c, _, _, rfl, rfl, same_seqT sm hp, same_seqT sm (same_seqT sG ht), by rw [List.length_map, List.length_map, sizeLine_eq]; omega, fun u G3 s3 hu => ?_⟩
      have hu' : Nm K G3 u (n.take i ++ t) := by
        show SqT K G3 u ((n.take i ++ t).map V.str)
        rw [List.map_append]
        exact hu
      refine ⟨.ref a, rfl, nameD (n.take i ++ t), nameD n, nm_dp hu', nm_dp (same_seqT s3 (same_seqT sm (same_seqT sG hn))), (good_name ((ln.take i).append lt) ?_).shaped (by decide), (good_name ln (by omega)).shaped (by decide), _, rfl, ?_⟩
      · rw [List.length_append, List.length_take]
        omega
      rw [eqv_name]
      by_cases y : n.take i ++ t = n
      · rw [decide_eq_true y]
        refine iteT ?_
        have eT' := s3 _ _ eT
        refine ⟨.ref p, rfl, ws, eT', small1000 (by omega), ws ++ [.ref p], upd_same, ?_, ?_, by rw [List.length_append]; show _ + 1 ≤ _; omega⟩
        · exact fun b o e => by rw [upd_ne (ne_of_none e nT)]; exact s3 _ _ (sm _ _ e)
        · rw [e3, one_fit, if_pos y, List.map_append]
          exact dpa_put eT' (dpa_append (dpa_same s3 dw) (.cons (nm_dp (same_seqT s3 (same_seqT sm hp))) .nil)) (by rw [← List.map_append]; exact names_noLst _)
      · rw [decide_eq_false y]
        refine iteF ⟨ws, s3 _ _ eT, sm.trans s3, ?_, by omega⟩
        rw [e3, one_fit, if_neg y, List.append_nil]
        exact dpa_same s3 dw
    · obtain ⟨ws, eT, sm, dw, hl⟩ := h
      rw [vl] at dw
      exact ⟨T, ws, rfl, sG.trans sm, eT, dw⟩
  rintro _ G2 ⟨T, ws, rfl, s2, eT, dw⟩
  rw [fits_all] at dw
  -- what is due
  refine ⟨fun σ' G3 => ∃ Z : Addr, σ' = [some (.ref a), some (.ref c), some (.ref D), some (.ref T), some (.ref Z), none, none] ∧ Same H G3 ∧ G3 Z = some (.lst [.bl (decide (t <:+ n)), .bl (decide (t.length < n.length ∧ t <:+ n))]), ?_, ?_⟩
  · refine ⟨.ref T, rfl, by show 0 ≤ sizeLine; decide, fun l1 n1 => ?_⟩
    have s3 := same_put (o := .lst []) n1
    have z0 : Good (.list []) 1 2 := (Good.list (ds := []) (k := 0) (n := 0) (m := 0) (fun _ h => absurd h List.not_mem_nil) (Nat.le_refl _)).mono (Nat.le_refl _) (by decide)
    by_cases y : t <:+ n
    · rw [if_pos y] at dw
      have fine : Good (.list ([n.take (n.length - t.length)].map nameD)) 2 2100000 := good_names (fun l hl => by
        rw [List.mem_singleton.mp hl]
        exact ⟨ln.take _, by rw [List.length_take]; omega⟩) (by show 1 ≤ 100; decide)
      have dT : Dp K G2 (.ref T) (.list ([n.take (n.length - t.length)].map nameD)) := .lst (.inl (.inl eT)) dw
      refine ⟨_, .list [], dp_same s3 dT, .lst (.inl (.inl upd_same)) .nil, fine.shaped (by decide), z0.shaped (by decide), ?_⟩
      refine ⟨.ref T, rfl, by show 0 ≤ sizeLine; decide, fun l2 n2 => ?_⟩
      have s4 := s3.trans (same_put (o := .lst []) n2)
      refine ⟨_, .list [], dp_same s4 dT, .lst (.inl (.inl upd_same)) .nil, fine.shaped (by decide), z0.shaped (by decide), true, rfl, ?_⟩
      refine iteT ⟨.ref T, rfl, by show 0 ≤ sizeLine; decide, fun u nu => ⟨by show 1 ≤ sizeLine; decide, fun l3 n3 => ?_⟩⟩
      have s5 := s4.trans (same_put (o := .tup []) nu)
      have s6 := s5.trans (same_put (o := .lst [.ref u]) n3)
      have one : Good (.list ([[]].map nameD)) 2 2100000 := good_names (fun l hl => by
        rw [List.mem_singleton.mp hl]
        exact ⟨Labs.nil, by decide⟩) (by show 1 ≤ 100; decide)
      have du : Nm K (upd (upd (upd (upd G2 l1 (.lst [])) l2 (.lst [])) u (.tup [])) l3 (.lst [.ref u])) u [] := same_seqT (same_put n3) (.inl (.inl upd_same))
      refine ⟨_, .list ([[]].map nameD), dp_same s6 dT, .lst (.inl (.inl upd_same)) (.cons (nm_dp du) .nil), fine.shaped (by decide), one.shaped (by decide), by show 2 ≤ sizeLine; decide, fun Z nZ => ?_⟩
      refine ⟨Z, rfl, (s2.trans s6).trans (same_put nZ), ?_⟩
      rw [upd_same]
      have b1 : (!PyData.eqv (.list ([n.take (n.length - t.length)].map nameD)) (.list [])) = decide (t <:+ n) := by rw [decide_eq_true y]; rfl
      have b2 : (!PyData.eqv (.list ([n.take (n.length - t.length)].map nameD)) (.list ([[]].map nameD))) = decide (t.length < n.length ∧ t <:+ n) := by
        show (!(PyData.eqv (nameD (n.take (n.length - t.length))) (nameD []) && true)) = _
        rw [eqv_name, Bool.and_true]
        have le := y.length_le
        by_cases e : t.length < n.length
        · have ne : ¬ n.take (n.length - t.length) = [] := fun z => by
            have := congrArg List.length z
            rw [List.length_take] at this
            have : ([] : List Str).length = 0 := rfl
            omega
          rw [decide_eq_false ne, decide_eq_true ⟨e, y⟩]
          rfl
        · have eq : n.take (n.length - t.length) = [] := by
            rw [show n.length - t.length = 0 by omega, List.take_zero]
          rw [decide_eq_true eq, decide_eq_false fun z => e z.1]
          rfl
      rw [b1, b2]
    · rw [if_neg y] at dw
      have dT : Dp K G2 (.ref T) (.list []) := .lst (.inl (.inl eT)) dw
      refine ⟨_, .list [], dp_same s3 dT, .lst (.inl (.inl upd_same)) .nil, z0.shaped (by decide), z0.shaped (by decide), ?_⟩
      refine ⟨.ref T, rfl, by show 0 ≤ sizeLine; decide, fun l2 n2 => ?_⟩
      have s4 := s3.trans (same_put (o := .lst []) n2)
      refine ⟨_, .list [], dp_same s4 dT, .lst (.inl (.inl upd_same)) .nil, z0.shaped (by decide), z0.shaped (by decide), false, rfl, ?_⟩
      refine iteF ⟨by show 2 ≤ sizeLine; decide, fun Z nZ => ?_⟩
      refine ⟨Z, rfl, (s2.trans s4).trans (same_put nZ), ?_⟩
      rw [upd_same, decide_eq_false y, decide_eq_false fun z => y z.2]
      rfl
  rintro _ G3 ⟨Z, rfl, s3, eZ⟩
  refine ⟨.ref a, rfl, .ref c, rfl, a, c, n, t, rfl, same_seqT s3 hn, same_seqT s3 ht, ln, lt, by omega, by omega, fun G4 s4 => ?_⟩
  refine ⟨.ref a, rfl, .ref c, rfl, a, c, n, t, rfl, same_seqT (s3.trans s4) hn, same_seqT (s3.trans s4) ht, ln, lt, by omega, by omega, fun G5 s5 => ?_⟩
  refine ⟨by show 2 ≤ sizeLine; decide, fun R nR => ?_⟩
  have s6 := (s4.trans s5).trans (same_put (o := .lst [.bl (decide (t <:+ n)), .bl (decide (t.length < n.length ∧ t <:+ n))]) nR)
  refine ⟨.ref Z, rfl, .ref R, .ref Z, .list ([decide (t <:+ n), decide (t.length < n.length ∧ t <:+ n)].map PyData.bool), 1, 7002, rfl, .lst (.inl (.inl upd_same)) (dp_bools [_, _]), .lst (.inl (.inl (s6 _ _ eZ))) (dp_bools [_, _]), good_bools (by show 2 ≤ 1000; decide), by decide, by decide, ?_⟩
  exact q _ (s3.trans s6)

theorem scLaw : FnScope ["_law_script", "_law_bag_here", "_law_labels_here", "_law_turn", "_law_name", "_law_other", "_law_one", "_law_two", "_law_again", "_law_found", "_law_k"] ["_law_script"] (defScope s_law) := ⟨rfl, rfl, rfl, by decide +kernel, rfl, by decide +kernel, by decide +kernel⟩
def spLaw (K : PySem.W.Frag) : Sp := fun vs H Q _ => ∃ (a : Addr) (ns : List Int), vs = [.ref a] ∧ SqL K H a (ns.map V.int) ∧ ns.length ≤ 63 ∧ ∀ H', Q (.bl true) H'
theorem ok_law {f fbag ft fal fla fmo fwo fne fri fto : Addr} {fd fdbag fdt fdal fdla fdmo fdwo fdne fdri fdto : FuncData} (F : Fun K "law" "law" s_law f fd)
    (DBag : Df K mg "_law_bag" s_law_bag ["_law_script"] fbag fdbag) (GBag : FnOk P w K mg base CX0 1 fbag fdbag ["_law_script"] (spBag K))
    (DT : Df K mg "_law_take" s_law_take ["_law_bag_here", "_law_many"] ft fdt) (GT : FnOk P w K mg base CX0 1 ft fdt ["_law_bag_here", "_law_many"] spTake)
    (DA : Df K mg "_law_alike" s_law_alike ["_law_found", "_law_right_here"] fal fdal) (GA : FnQ P w K mg base 1 fal fdal ["_law_found", "_law_right_here"] (spAlike K))
    (DL : Df K mg "_law_labels" s_law_labels ["_law_bag_here", "_law_many"] fla fdla) (GL : FnOk P w K mg base CX0 2 fla fdla ["_law_bag_here", "_law_many"] spLabels)
    (DM : Df K mg "_law_more_labels" s_law_more_labels ["_law_bag_here", "_law_labels_here"] fmo fdmo) (GM : FnOk P w K mg base CX0 2 fmo fdmo ["_law_bag_here", "_law_labels_here"] (spMore K))
    (DW : Df K mg "_law_word" s_law_word ["_law_bag_here", "_law_labels_here", "_law_least", "_law_most"] fwo fdwo) (GW : FnOk P w K mg base CX0 3 fwo fdwo ["_law_bag_here", "_law_labels_here", "_law_least", "_law_most"] (spWord K))
    (DN : Df K mg "_law_near" s_law_near ["_law_bag_here", "_law_labels_here", "_law_name"] fne fdne) (GN : FnOk P w K mg base CX0 2 fne fdne ["_law_bag_here", "_law_labels_here", "_law_name"] (spNear K))
    (DR : Df K mg "_law_right" s_law_right ["_law_name", "_law_other"] fri fdri) (GR : FnQ P w K mg base 3 fri fdri ["_law_name", "_law_other"] (spRight K))
    (DO : Df K mg "tops" s_tops ["name"] fto fdto) (GO : FnOk P w K mg base CX0 1 fto fdto ["name"] (spTops K))
    (ml : mg "len" = none) (mr : mg "range" = none) : FnQ P w K mg base 4 f fd ["_law_script"] (spLaw K) := by
  refine okQ F scLaw (fun vs H Q h => ?_) (fun cdv A outer s H vs Q quiet hr h => ?_)
  · obtain ⟨a, ns, rfl, _⟩ := h
    rfl
  obtain ⟨a, ns, rfl, hS, hlen, q⟩ := h
  have nd := scLaw.nd
  refine ⟨_, pss_cons (ps_set (i := 1) nd rfl (.inl rfl) (pcall DBag GBag (hr.mono (by decide)) (pa_cons (pv 0) pa_nil)))
    (C8.pss_cut (ps_set (i := 2) nd rfl (.inl rfl) (pcall DM GM (hr.mono (by decide)) (pa_cons (pv 1) (pa_cons (pcall DL GL (hr.mono (by decide)) (pa_cons (pv 1) (pa_cons (pe_op op_add pe_int (pcall DT GT (hr.mono (by decide)) (pa_cons (pv 1) (pa_cons pe_int pa_nil)))) pa_nil))) pa_nil))))
    (pss_cons (ps_for PassesOwn.never rfl (pi_range1 (by rfl) mr (pa_cons pe_int pa_nil)) (pg_name (i := 3) nd rfl (.inl rfl))
      (pss_cons (ps_set (i := 4) nd rfl (.inr rfl) (pcall DW GW (hr.mono (by decide)) (pa_cons (pv 1) (pa_cons (pv 2) (pa_cons pe_int (pa_cons pe_int pa_nil))))))
      (C8.pss_cut (ps_set (i := 5) nd rfl (.inl rfl) (pcall DN GN (hr.mono (by decide)) (pa_cons (pv 1) (pa_cons (pv 2) (pa_cons (pv 4) pa_nil)))))
      (C8.pss_cut (ps_for PassesOwn.never rfl (pi_list (pe_lst (pa_cons (pe_tup (pa_cons (pv 4) (pa_cons (pv 5) pa_nil))) (pa_cons (pe_tup (pa_cons (pv 5) (pa_cons (pv 4) pa_nil))) (pa_cons (pe_tup (pa_cons (pv 4) (pa_cons (pv 4) pa_nil)))
          (pa_cons (pe_tup (pa_cons (pv 4) (pa_cons (pe_tup pa_nil) pa_nil))) (pa_cons (pe_tup (pa_cons (pe_tup pa_nil) (pa_cons (pv 4) pa_nil))) pa_nil)))))))
          (pg_tup rfl (pgs_cons (pg_name (i := 6) nd rfl (.inl rfl)) (pgs_cons (pg_name (i := 7) nd rfl (.inl rfl)) pgs_nil)))
          (pss_one (ps_if (PW.pt (pw_or (pt_not (pt_val (qcall DR GR quiet hr (pa_cons (pv 6) (pa_cons (pv 7) pa_nil))))) (pw_or1 (pt_not (pt_val (qcall DR GR quiet hr (pa_cons (pv 6) (pa_cons (pv 7) pa_nil)))))))) (pss_one (ps_ret pe_bl)) pss_nil)))
      (pss_one (ps_for PassesOwn.never rfl (pi_range1 (by rfl) mr (pa_cons pe_int pa_nil)) (pg_name (i := 8) nd rfl (.inl rfl))
        (pss_cons (ps_set (i := 9) nd rfl (.inl rfl) (pcall DO GO (hr.mono (by decide)) (pa_cons (pv 4) pa_nil)))
        (pss_cons (ps_if (pt_not (pt_val (qcall DA GA quiet (hr.mono (by decide)) (pa_cons (pv 9) (pa_cons
            (pe_lc (own := [("_law_k", 10)]) (g := gName 10) (tt := tYes) rfl nd (pi_range1 (by rfl) mr (pa_cons (pe_op op_add (pe_callB call_len_seq (by rfl) ml PySem.boot_len (pa_cons (pv 4) pa_nil)) pe_int) pa_nil))
              (blkOk_by (N := ["_law_script", "_law_bag_here", "_law_labels_here", "_law_turn", "_law_name", "_law_other", "_law_one", "_law_two", "_law_again", "_law_found", "_law_k"]) (sc := defScope s_law) (by decide +kernel)) (fun _ _ _ _ _ => pg_name (i := 10) nd rfl (Or.inl rfl)) (fun _ _ _ _ _ => pts_nil)
              (fun _ _ _ _ _ => pe_slice (r := rSlD K) sl_tupD (pv 4) (po_some (pv 10)) po_none)) pa_nil))))) (pss_one (ps_ret pe_bl)) pss_nil)
        (pss_cons (ps_expr (pe_bm0 PySem.F.plainAttrs_list PySem.F.slot_list_reverse PySem.F.type_list_reverse mt_reverse (pv 9)))
        (pss_one (ps_expr (pe_bm PySem.F.plainAttrs_list PySem.F.slot_list_append PySem.F.type_list_append mt_append (pv 9) (pa_cons pe_non pa_nil)))))))))))))
    (pss_one (ps_ret pe_bl)))), ?_⟩
  refine ⟨.ref a, rfl, a, ns, rfl, hS, hlen, fun H1 b bc s1 fb fbc bag => ?_⟩
  refine ⟨fun σ' G => ∃ (L : Addr) (ms : List Str), σ' = [some (.ref a), some (.ref b), some (.ref L), none, none, none, none, none, none, none, none] ∧ Bag b bc G ∧ L ≠ b ∧ G L = some (.lst (ms.map V.str)) ∧ Labs ms ∧ 1 ≤ ms.length ∧ ms.length ≤ 101, ?_, ?_⟩
  · refine ⟨.ref b, rfl, .ref b, rfl, .ref b, rfl, b, bc, 4, rfl, bag, by decide, by decide, fun H2 r d2 hr2 => ?_⟩
    refine ⟨_, _, rfl, rfl, b, bc, r + 1, ?_, d2.bag, by omega, fun H3 l ls d3 nl el lab ten hl => ?_⟩
    · show [V.ref b, V.int (1 + (r : Int))] = _
      rw [show (1 : Int) + (r : Int) = ((r + 1 : Nat) : Int) by omega]
    refine ⟨b, bc, l, ls, rfl, d3.bag, (d2.bag.apart nl).1, el, lab, ten, by omega, by omega, fun H4 p ms d4 np ep lms m1 m2 => ?_⟩
    exact ⟨p, ms, rfl, d4.bag, (d3.bag.apart np).1, ep, lms, m1, m2⟩
  rintro _ G ⟨L, ms, rfl, bagG, neL, eL, lms, m1, m2⟩
  refine ⟨12, rfl, by decide, by decide, ?_⟩
  refine for_range (lo := 0) (n := 12) (fun _ σ' G' => ∃ y3 y4 y5 y6 y7 y8 y9 y10, σ' = [some (.ref a), some (.ref b), some (.ref L), y3, y4, y5, y6, y7, y8, y9, y10] ∧ Drew b bc G G')
    ⟨none, none, none, none, none, none, none, none, rfl, Drew.refl bagG⟩ (fun i σ' G' _ h => ?_) (fun σ' G' _ => q G')
  obtain ⟨y3, y4, y5, y6, y7, y8, y9, y10, rfl, dG⟩ := h
  have sqL : ∀ {G2}, Drew b bc G G2 → SqL K G2 L (ms.map V.str) := fun d => drew_seq d neL (.inl (.inl eL))
  -- the name
  refine ⟨.ref b, rfl, .ref L, rfl, b, bc, L, ms, 0, 7, rfl, dG.bag, neL, sqL dG, lms, m1, by omega, by decide, by decide, fun G2 p nm d2 hp lnm _ l7 => ?_⟩
  -- the other one
  refine ⟨fun σ' G3 => ∃ (p2 : Addr) (om : List Str), σ' = [some (.ref a), some (.ref b), some (.ref L), some (.int (0 + (i : Nat))), some (.ref p), some (.ref p2), y6, y7, y8, y9, y10] ∧ Drew b bc G G3 ∧ Nm K G3 p nm ∧ Nm K G3 p2 om ∧ Labs om ∧ om.length ≤ 8, ?_, ?_⟩
  · refine ⟨.ref b, rfl, .ref L, rfl, .ref p, rfl, b, bc, L, p, ms, nm, rfl, d2.bag, neL, sqL (dG.trans d2), lms, m1, by omega, hp, lnm, by omega, fun G3 p2 om d3 hp2 lom l8 => ?_⟩
    exact ⟨p2, om, rfl, (dG.trans d2).trans d3, d3.nm d2.bag.lst hp, hp2, lom, by omega⟩
  rintro _ G3 ⟨p2, om, rfl, d3, hp3, hp23, lom, l8⟩
  -- the pairs
  refine ⟨fun σ' G4 => ∃ z6 z7, σ' = [some (.ref a), some (.ref b), some (.ref L), some (.int (0 + (i : Nat))), some (.ref p), some (.ref p2), z6, z7, y8, y9, y10] ∧ Same G3 G4, ?_, ?_⟩
  · have z2 : 2 ≤ sizeLine := by decide
    have zz : 0 ≤ sizeLine := by decide
    refine ⟨.ref p, rfl, .ref p2, rfl, z2, fun t1 n1 => ?_⟩
    have e1 := same_put (o := .tup [.ref p, .ref p2]) n1
    refine ⟨.ref p2, rfl, .ref p, rfl, z2, fun t2 n2 => ?_⟩
    have e2 := e1.trans (same_put (o := .tup [.ref p2, .ref p]) n2)
    refine ⟨.ref p, rfl, .ref p, rfl, z2, fun t3 n3 => ?_⟩
    have e3 := e2.trans (same_put (o := .tup [.ref p, .ref p]) n3)
    refine ⟨.ref p, rfl, zz, fun u4 v4 => ⟨z2, fun t4 n4 => ?_⟩⟩
    have e4 := (e3.trans (same_put (o := .tup []) v4)).trans (same_put (o := .tup [.ref p, .ref u4]) n4)
    refine ⟨zz, fun u5 v5 => ⟨.ref p, rfl, z2, fun t5 n5 => ?_⟩⟩
    have e5 := (e4.trans (same_put (o := .tup []) v5)).trans (same_put (o := .tup [.ref u5, .ref p]) n5)
    refine ⟨by show 5 ≤ sizeLine; decide, fun l nl => ?_⟩
    have e6 := e5.trans (same_put (o := .lst [.ref t1, .ref t2, .ref t3, .ref t4, .ref t5]) nl)
    have q5 := same_put (o := .lst [.ref t1, .ref t2, .ref t3, .ref t4, .ref t5]) nl
    have q4 := ((same_put (o := .tup []) v5).trans (same_put (o := .tup [.ref u5, .ref p]) n5)).trans q5
    have q3 := ((same_put (o := .tup []) v4).trans (same_put (o := .tup [.ref p, .ref u4]) n4)).trans q4
    have q2 := (same_put (o := .tup [.ref p, .ref p]) n3).trans q3
    have q1 := (same_put (o := .tup [.ref p2, .ref p]) n2).trans q2
    have qu4 := (same_put (o := .tup [.ref p, .ref u4]) n4).trans q4
    have qu5 := (same_put (o := .tup [.ref u5, .ref p]) n5).trans q5
    generalize hE : upd _ l (.lst [.ref t1, .ref t2, .ref t3, .ref t4, .ref t5]) = G4 at *
    have el : G4 l = some (.lst [.ref t1, .ref t2, .ref t3, .ref t4, .ref t5]) := by
      rw [← hE]
      exact upd_same
    have pN := same_seqT e6 hp3
    have p2N := same_seqT e6 hp23
    have u4N : Nm K G4 u4 [] := .inl (.inl (qu4 _ _ upd_same))
    have u5N : Nm K G4 u5 [] := .inl (.inl (qu5 _ _ upd_same))
    have twos : ∀ x ∈ [V.ref t1, .ref t2, .ref t3, .ref t4, .ref t5], Two K G4 x := by
      intro x hx
      have w1 : Two K G4 (.ref t1) := ⟨t1, p, p2, nm, om, rfl, q1 _ _ upd_same, pN, p2N, lnm, lom, by omega, by omega⟩
      have w2 : Two K G4 (.ref t2) := ⟨t2, p2, p, om, nm, rfl, q2 _ _ upd_same, p2N, pN, lom, lnm, by omega, by omega⟩
      have w3 : Two K G4 (.ref t3) := ⟨t3, p, p, nm, nm, rfl, q3 _ _ upd_same, pN, pN, lnm, lnm, by omega, by omega⟩
      have w4 : Two K G4 (.ref t4) := ⟨t4, p, u4, nm, [], rfl, q4 _ _ upd_same, pN, u4N, lnm, Labs.nil, by omega, by decide⟩
      have w5 : Two K G4 (.ref t5) := ⟨t5, u5, p, [], nm, rfl, q5 _ _ upd_same, u5N, pN, Labs.nil, lnm, by decide, by omega⟩
      simp only [List.mem_cons, List.not_mem_nil, or_false] at hx
      rcases hx with rfl | rfl | rfl | rfl | rfl <;> assumption
    refine ⟨l, rfl, ⟨_, .inl (.inl el)⟩, ?_⟩
    refine for_list (K := K) (a := l) (xs := [.ref t1, .ref t2, .ref t3, .ref t4, .ref t5]) (fun _ σ' G5 => ∃ z6 z7, σ' = [some (.ref a), some (.ref b), some (.ref L), some (.int (0 + (i : Nat))), some (.ref p), some (.ref p2), z6, z7, y8, y9, y10] ∧ Same G4 G5)
      ⟨y6, y7, rfl, Same.refl _⟩ (fun j σ' G5 _ h => ?_) (fun j x σ' G5 hx h => ?_) (fun σ' G5 h => ?_)
    · obtain ⟨_, _, _, s5⟩ := h
      exact .inl (.inl (s5 _ _ el))
    · obtain ⟨z6, z7, rfl, s5⟩ := h
      obtain ⟨t, u, v, n, m, rfl, ht, hu, hv, ln, lm, kn, km⟩ := (twos x (List.mem_of_getElem? hx)).same s5
      refine ⟨t, [.ref u, .ref v], rfl, .inl (.inl ht), rfl, .ref u, _, rfl, .ref v, _, rfl, rfl, ?_⟩
      refine ⟨.ref u, rfl, .ref v, rfl, u, v, n, m, rfl, hu, hv, ln, lm, kn, km, fun G6 s6 => ⟨true, rfl, ?_⟩⟩
      refine iteF ⟨.ref u, rfl, .ref v, rfl, u, v, n, m, rfl, same_seqT s6 hu, same_seqT s6 hv, ln, lm, kn, km, fun G7 s7 => ⟨true, rfl, ?_⟩⟩
      exact iteF ⟨_, _, rfl, (s5.trans s6).trans s7⟩
    · obtain ⟨z6, z7, rfl, s5⟩ := h
      exact ⟨z6, z7, rfl, e6.trans s5⟩
  rintro _ G4 ⟨z6, z7, rfl, s4⟩
  -- the tops, three times
  refine ⟨3, rfl, by decide, by decide, ?_⟩
  refine for_range (lo := 0) (n := 3) (fun _ σ' G5 => ∃ z8 z9 z10, σ' = [some (.ref a), some (.ref b), some (.ref L), some (.int (0 + (i : Nat))), some (.ref p), some (.ref p2), z6, z7, z8, z9, z10] ∧ Same G4 G5)
    ⟨y8, y9, y10, rfl, Same.refl _⟩ (fun j σ' G5 _ h => ?_) (fun σ' G5 h => ?_)
  · obtain ⟨z8, z9, z10, rfl, s5⟩ := h
    have hp5 : Nm K G5 p nm := same_seqT (s4.trans s5) hp3
    refine ⟨.ref p, rfl, p, nm, rfl, hp5, lnm, by omega, fun G6 fo vs s6 nfo efo dvs => ?_⟩
    have hp6 := same_seqT s6 hp5
    have many : ((((nm.map V.str).length : Nat) : Int) + 1).toNat = nm.length + 1 := by rw [List.length_map]; omega
    refine ⟨.ref fo, rfl, .ref p, rfl, p, _, rfl, .inr hp6, _, _, rfl, rfl, _, rfl, by omega, by rw [List.length_map]; omega, fun D nD => ?_⟩
    show ∃ W, _
    rw [many]
    refine lc_range (lo := 0) (n := nm.length + 1) (fun k G7 => ∃ ws, G7 D = some (.lst ws) ∧ Same G6 G7 ∧ DpAll K G7 ws (((List.range k).map fun k => nm.drop k).map nameD) ∧ ws.length = k)
      ⟨[], upd_same, same_put nD, .nil, rfl⟩ (fun k G7 hk h => ?_) (fun G7 h => ?_)
    · obtain ⟨ws, eD, sm, dp, hl⟩ := h
      have e0 : (0 : Int) + (k : Nat) = (k : Nat) := Int.zero_add _
      refine ⟨rfl, .ref p, rfl, _, rfl, _, rfl, p, _, rfl, same_seqT sm hp6, fun u G8 s8 hu => ?_⟩
      rw [e0, cut_from] at hu
      have hu' : Nm K G8 u (nm.drop k) := by
        show SqT K G8 u ((nm.drop k).map V.str)
        rw [List.map_drop]
        exact hu
      have eD' := s8 _ _ eD
      refine ⟨ws, eD', small1000 (by omega), ws ++ [.ref u], upd_same, ?_, ?_, by rw [List.length_append, hl]; rfl⟩
      · exact fun b o e => by rw [upd_ne (ne_of_none e nD)]; exact s8 _ _ (sm _ _ e)
      · rw [List.range_succ, List.map_append, List.map_append]
        exact dpa_put eD' (dpa_append (dpa_same s8 dp) (.cons (nm_dp hu') .nil)) (by rw [← List.map_append]; exact names_noLst _)
    · obtain ⟨ws, eD, sm, dp, hl⟩ := h
      have efo7 := sm _ _ efo
      refine ⟨.ref fo, .ref D, .list ((tails nm).map nameD), 2, 2100000, rfl, .lst (.inl (.inl efo7)) (dpa_same sm dvs), .lst (.inl (.inl eD)) dp, good_tails lnm (by omega), by decide, by decide, true, rfl, ?_⟩
      refine iteF ⟨.ref fo, rfl, .inl ⟨rfl, _, .inl (.inl efo7)⟩, fo, _, rfl, rfl, efo7, ?_⟩
      refine ⟨.ref fo, rfl, .inl ⟨rfl, _, .inl (.inl upd_same)⟩, fo, _, _, rfl, rfl, upd_same, ?_, ?_⟩
      · have := dpa_len dvs
        rw [List.length_map] at this
        unfold tails at this
        rw [List.length_map, List.length_range] at this
        exact small1000 (by rw [List.length_reverse]; omega)
      · refine ⟨_, _, _, rfl, fun b o e => ?_⟩
        have nb := ne_of_none (s5 _ _ e) nfo
        rw [upd_ne nb, upd_ne nb]
        exact sm _ _ (s6 _ _ (s5 _ _ e))
  · obtain ⟨z8, z9, z10, rfl, s5⟩ := h
    exact ⟨_, _, _, _, _, _, _, _, rfl, d3.same (s4.trans s5)⟩

end
theorem all_mk {l : PySem.W.OpenLaw} {w : World} {K : PySem.W.Frag} {h : Heap} {mg : Str → Option Value} {fa f0 f1 f2 f3 f4 f5 f6 f7 f8 f9 f10 f11 f12 : Addr} (X : K.In h) (G : h.Ns mainGlobals mg) (hfa : mg "law" = some (.ref fa))
    {od0 an0 od1 an1 od2 an2 od3 an3 od4 an4 od5 an5 od6 an6 od7 an7 od8 an8 od9 an9 od10 an10 od11 an11 od12 an12 : Option Addr} {sl0 sl1 sl2 sl3 sl4 sl5 sl6 sl7 sl8 sl9 sl10 sl11 sl12 : Array (Option Value)} {oc0 kV0 dc0 pm0 cd0 ct0 oc1 kV1 dc1 pm1 cd1 ct1 oc2 kV2 dc2 pm2 cd2 ct2 oc3 kV3 dc3 pm3 cd3 ct3 oc4 kV4 dc4 pm4 cd4 ct4 oc5 kV5 dc5 pm5 cd5 ct5 oc6 kV6 dc6 pm6 cd6 ct6 oc7 kV7 dc7 pm7 cd7 ct7 oc8 kV8 dc8 pm8 cd8 ct8 oc9 kV9 dc9 pm9 cd9 ct9 oc10 kV10 dc10 pm10 cd10 ct10 oc11 kV11 dc11 pm11 cd11 ct11 oc12 kV12 dc12 pm12 cd12 ct12 : Value}
    (a0 : PySem.W.nsIn K mainGlobals "is_under" = some (some (.ref f0))) (l0 : K.lookup f0 = some ⟨oc0, od0, .func (PySem.W.fnOf "is_under" "is_under" (defArgs s_is_under) (defBody s_is_under) (defScope s_is_under) .none kV0 dc0 pm0 an0 cd0 ct0), sl0⟩) (c0 : PySem.W.codeIn K cd0 "is_under" = true) (k0 : PySem.W.keepIn K (.ref f0) = true)
    (a1 : PySem.W.nsIn K mainGlobals "is_beneath" = some (some (.ref f1))) (l1 : K.lookup f1 = some ⟨oc1, od1, .func (PySem.W.fnOf "is_beneath" "is_beneath" (defArgs s_is_beneath) (defBody s_is_beneath) (defScope s_is_beneath) .none kV1 dc1 pm1 an1 cd1 ct1), sl1⟩) (c1 : PySem.W.codeIn K cd1 "is_beneath" = true) (k1 : PySem.W.keepIn K (.ref f1) = true)
    (a2 : PySem.W.nsIn K mainGlobals "tops" = some (some (.ref f2))) (l2 : K.lookup f2 = some ⟨oc2, od2, .func (PySem.W.fnOf "tops" "tops" (defArgs s_tops) (defBody s_tops) (defScope s_tops) .none kV2 dc2 pm2 an2 cd2 ct2), sl2⟩) (c2 : PySem.W.codeIn K cd2 "tops" = true) (k2 : PySem.W.keepIn K (.ref f2) = true)
    (a3 : PySem.W.nsIn K mainGlobals "_law_bag" = some (some (.ref f3))) (l3 : K.lookup f3 = some ⟨oc3, od3, .func (PySem.W.fnOf "_law_bag" "_law_bag" (defArgs s_law_bag) (defBody s_law_bag) (defScope s_law_bag) .none kV3 dc3 pm3 an3 cd3 ct3), sl3⟩) (c3 : PySem.W.codeIn K cd3 "_law_bag" = true) (k3 : PySem.W.keepIn K (.ref f3) = true)
    (a4 : PySem.W.nsIn K mainGlobals "_law_take" = some (some (.ref f4))) (l4 : K.lookup f4 = some ⟨oc4, od4, .func (PySem.W.fnOf "_law_take" "_law_take" (defArgs s_law_take) (defBody s_law_take) (defScope s_law_take) .none kV4 dc4 pm4 an4 cd4 ct4), sl4⟩) (c4 : PySem.W.codeIn K cd4 "_law_take" = true) (k4 : PySem.W.keepIn K (.ref f4) = true)
    (a5 : PySem.W.nsIn K mainGlobals "_law_alike" = some (some (.ref f5))) (l5 : K.lookup f5 = some ⟨oc5, od5, .func (PySem.W.fnOf "_law_alike" "_law_alike" (defArgs s_law_alike) (defBody s_law_alike) (defScope s_law_alike) .none kV5 dc5 pm5 an5 cd5 ct5), sl5⟩) (c5 : PySem.W.codeIn K cd5 "_law_alike" = true) (k5 : PySem.W.keepIn K (.ref f5) = true)
    (a6 : PySem.W.nsIn K mainGlobals "_law_pick" = some (some (.ref f6))) (l6 : K.lookup f6 = some ⟨oc6, od6, .func (PySem.W.fnOf "_law_pick" "_law_pick" (defArgs s_law_pick) (defBody s_law_pick) (defScope s_law_pick) .none kV6 dc6 pm6 an6 cd6 ct6), sl6⟩) (c6 : PySem.W.codeIn K cd6 "_law_pick" = true) (k6 : PySem.W.keepIn K (.ref f6) = true)
    (a7 : PySem.W.nsIn K mainGlobals "_law_labels" = some (some (.ref f7))) (l7 : K.lookup f7 = some ⟨oc7, od7, .func (PySem.W.fnOf "_law_labels" "_law_labels" (defArgs s_law_labels) (defBody s_law_labels) (defScope s_law_labels) .none kV7 dc7 pm7 an7 cd7 ct7), sl7⟩) (c7 : PySem.W.codeIn K cd7 "_law_labels" = true) (k7 : PySem.W.keepIn K (.ref f7) = true)
    (a8 : PySem.W.nsIn K mainGlobals "_law_word" = some (some (.ref f8))) (l8 : K.lookup f8 = some ⟨oc8, od8, .func (PySem.W.fnOf "_law_word" "_law_word" (defArgs s_law_word) (defBody s_law_word) (defScope s_law_word) .none kV8 dc8 pm8 an8 cd8 ct8), sl8⟩) (c8 : PySem.W.codeIn K cd8 "_law_word" = true) (k8 : PySem.W.keepIn K (.ref f8) = true)
    (a9 : PySem.W.nsIn K mainGlobals "_law_more_labels" = some (some (.ref f9))) (l9 : K.lookup f9 = some ⟨oc9, od9, .func (PySem.W.fnOf "_law_more_labels" "_law_more_labels" (defArgs s_law_more_labels) (defBody s_law_more_labels) (defScope s_law_more_labels) .none kV9 dc9 pm9 an9 cd9 ct9), sl9⟩) (c9 : PySem.W.codeIn K cd9 "_law_more_labels" = true) (k9 : PySem.W.keepIn K (.ref f9) = true)
    (a10 : PySem.W.nsIn K mainGlobals "_law_near" = some (some (.ref f10))) (l10 : K.lookup f10 = some ⟨oc10, od10, .func (PySem.W.fnOf "_law_near" "_law_near" (defArgs s_law_near) (defBody s_law_near) (defScope s_law_near) .none kV10 dc10 pm10 an10 cd10 ct10), sl10⟩) (c10 : PySem.W.codeIn K cd10 "_law_near" = true) (k10 : PySem.W.keepIn K (.ref f10) = true)
    (a11 : PySem.W.nsIn K mainGlobals "_law_right" = some (some (.ref f11))) (l11 : K.lookup f11 = some ⟨oc11, od11, .func (PySem.W.fnOf "_law_right" "_law_right" (defArgs s_law_right) (defBody s_law_right) (defScope s_law_right) .none kV11 dc11 pm11 an11 cd11 ct11), sl11⟩) (c11 : PySem.W.codeIn K cd11 "_law_right" = true) (k11 : PySem.W.keepIn K (.ref f11) = true)
    (a12 : PySem.W.nsIn K mainGlobals "law" = some (some (.ref f12))) (l12 : K.lookup f12 = some ⟨oc12, od12, .func (PySem.W.fnOf "law" "law" (defArgs s_law) (defBody s_law) (defScope s_law) .none kV12 dc12 pm12 an12 cd12 ct12), sl12⟩) (c12 : PySem.W.codeIn K cd12 "law" = true) (k12 : PySem.W.keepIn K (.ref f12) = true)
    (z_abs : PySem.W.nsIn K mainGlobals "abs" = some none)
    (z_len : PySem.W.nsIn K mainGlobals "len" = some none)
    (z_int : PySem.W.nsIn K mainGlobals "int" = some none)
    (z_repr : PySem.W.nsIn K mainGlobals "repr" = some none)
    (z_range : PySem.W.nsIn K mainGlobals "range" = some none)
    (z_tuple : PySem.W.nsIn K mainGlobals "tuple" = some none)
    (z_list : PySem.W.nsIn K mainGlobals "list" = some none) :
    ∃ fd : FuncData, (∀ (s : Shared) (v : Value), BindsTo s fd ⟨[v], []⟩ [("_law_script", v)]) ∧ ∀ base : Heap, K.In base → base.Ns mainGlobals mg → FnQ l.prog w K mg base 4 fa fd ["_law_script"] (spLaw K) := by
  have e := hfa.symm.trans (PySem.W.mg_of X G a12)
  cases e
  have F0 := fun_mk (st := s_is_under) l0 c0 k0
  have D0 : Df K mg "is_under" s_is_under ["name", "top"] f0 _ := ⟨F0, PySem.W.mg_of X G a0, F0.binds (ps := ["name", "top"]) fun _ _ _ _ _ _ us hl => match us, hl with | [_, _], _ => rfl⟩
  have F1 := fun_mk (st := s_is_beneath) l1 c1 k1
  have D1 : Df K mg "is_beneath" s_is_beneath ["name", "top"] f1 _ := ⟨F1, PySem.W.mg_of X G a1, F1.binds (ps := ["name", "top"]) fun _ _ _ _ _ _ us hl => match us, hl with | [_, _], _ => rfl⟩
  have F2 := fun_mk (st := s_tops) l2 c2 k2
  have D2 : Df K mg "tops" s_tops ["name"] f2 _ := ⟨F2, PySem.W.mg_of X G a2, F2.binds (ps := ["name"]) fun _ _ _ _ _ _ us hl => match us, hl with | [_], _ => rfl⟩
  have F3 := fun_mk (st := s_law_bag) l3 c3 k3
  have D3 : Df K mg "_law_bag" s_law_bag ["_law_script"] f3 _ := ⟨F3, PySem.W.mg_of X G a3, F3.binds (ps := ["_law_script"]) fun _ _ _ _ _ _ us hl => match us, hl with | [_], _ => rfl⟩
  have F4 := fun_mk (st := s_law_take) l4 c4 k4
  have D4 : Df K mg "_law_take" s_law_take ["_law_bag_here", "_law_many"] f4 _ := ⟨F4, PySem.W.mg_of X G a4, F4.binds (ps := ["_law_bag_here", "_law_many"]) fun _ _ _ _ _ _ us hl => match us, hl with | [_, _], _ => rfl⟩
  have F5 := fun_mk (st := s_law_alike) l5 c5 k5
  have D5 : Df K mg "_law_alike" s_law_alike ["_law_found", "_law_right_here"] f5 _ := ⟨F5, PySem.W.mg_of X G a5, F5.binds (ps := ["_law_found", "_law_right_here"]) fun _ _ _ _ _ _ us hl => match us, hl with | [_, _], _ => rfl⟩
  have F6 := fun_mk (st := s_law_pick) l6 c6 k6
  have D6 : Df K mg "_law_pick" s_law_pick ["_law_bag_here", "_law_some"] f6 _ := ⟨F6, PySem.W.mg_of X G a6, F6.binds (ps := ["_law_bag_here", "_law_some"]) fun _ _ _ _ _ _ us hl => match us, hl with | [_, _], _ => rfl⟩
  have F7 := fun_mk (st := s_law_labels) l7 c7 k7
  have D7 : Df K mg "_law_labels" s_law_labels ["_law_bag_here", "_law_many"] f7 _ := ⟨F7, PySem.W.mg_of X G a7, F7.binds (ps := ["_law_bag_here", "_law_many"]) fun _ _ _ _ _ _ us hl => match us, hl with | [_, _], _ => rfl⟩
  have F8 := fun_mk (st := s_law_word) l8 c8 k8
  have D8 : Df K mg "_law_word" s_law_word ["_law_bag_here", "_law_labels_here", "_law_least", "_law_most"] f8 _ := ⟨F8, PySem.W.mg_of X G a8, F8.binds (ps := ["_law_bag_here", "_law_labels_here", "_law_least", "_law_most"]) fun _ _ _ _ _ _ us hl => match us, hl with | [_, _, _, _], _ => rfl⟩
  have F9 := fun_mk (st := s_law_more_labels) l9 c9 k9
  have D9 : Df K mg "_law_more_labels" s_law_more_labels ["_law_bag_here", "_law_labels_here"] f9 _ := ⟨F9, PySem.W.mg_of X G a9, F9.binds (ps := ["_law_bag_here", "_law_labels_here"]) fun _ _ _ _ _ _ us hl => match us, hl with | [_, _], _ => rfl⟩
  have F10 := fun_mk (st := s_law_near) l10 c10 k10
  have D10 : Df K mg "_law_near" s_law_near ["_law_bag_here", "_law_labels_here", "_law_name"] f10 _ := ⟨F10, PySem.W.mg_of X G a10, F10.binds (ps := ["_law_bag_here", "_law_labels_here", "_law_name"]) fun _ _ _ _ _ _ us hl => match us, hl with | [_, _, _], _ => rfl⟩
  have F11 := fun_mk (st := s_law_right) l11 c11 k11
  have D11 : Df K mg "_law_right" s_law_right ["_law_name", "_law_other"] f11 _ := ⟨F11, PySem.W.mg_of X G a11, F11.binds (ps := ["_law_name", "_law_other"]) fun _ _ _ _ _ _ us hl => match us, hl with | [_, _], _ => rfl⟩
  have F12 := fun_mk (st := s_law) l12 c12 k12
  have m_abs := PySem.W.mg_none_of X G z_abs
  have m_len := PySem.W.mg_none_of X G z_len
  have m_int := PySem.W.mg_none_of X G z_int
  have m_repr := PySem.W.mg_none_of X G z_repr
  have m_range := PySem.W.mg_none_of X G z_range
  have m_tuple := PySem.W.mg_none_of X G z_tuple
  have m_list := PySem.W.mg_none_of X G z_list
  refine ⟨PySem.W.fnOf "law" "law" (defArgs s_law) (defBody s_law) (defScope s_law) .none kV12 dc12 pm12 an12 cd12 ct12, fun s v => .of_eq rfl, fun base _ _ => ?_⟩
  exact (by
    have G0 := ok_under (P := l.prog) (w := w) (base := base) F0 m_len
    have G1 := ok_beneath (P := l.prog) (w := w) (base := base) F1 D0 G0 m_len
    have G2 := ok_tops (P := l.prog) (w := w) (base := base) F2 m_len m_range
    have G3 := ok_bag (P := l.prog) (w := w) (base := base) F3 m_abs
    have G4 := ok_take (P := l.prog) (w := w) (base := base) F4 m_len m_int
    have G5 := ok_alike (P := l.prog) (w := w) (base := base) F5 m_repr
    have G6 := ok_pick (P := l.prog) (w := w) (base := base) F6 D4 G4 m_len
    have G7 := ok_labels (P := l.prog) (w := w) (base := base) F7 D4 G4 m_int m_range
    have G8 := ok_word (P := l.prog) (w := w) (base := base) F8 D4 G4 D6 G6 m_tuple m_range
    have G9 := ok_more (P := l.prog) (w := w) (base := base) F9 D4 G4 m_int
    have G10 := ok_near (P := l.prog) (w := w) (base := base) F10 D4 G4 m_len m_int m_list m_tuple
    have G11 := ok_right (P := l.prog) (w := w) (base := base) F11 D5 G5 D0 G0 D1 G1 m_len m_range
    exact ok_law F12 D3 G3 D4 G4 D5 G5 D7 G7 D9 G9 D8 G8 D10 G10 D11 G11 D2 G2 m_len m_range)
end K13
open PySem PySem.W PyProof.Rows
set_option maxRecDepth 100000 in
set_option maxHeartbeats 0 in
theorem PySem.Challenge.cw_listnames_k13_names_and_tops_holds : PySem.Challenge.rw_listnames_k13_names_and_tops.Holds := by
  w_on; o_law; k_head; (case hw => w_witness2)
  k_fill
  refine LN.walk_ofQ (l := PySem.Challenge.rw_listnames_k13_names_and_tops) (n := 63) (k := 4) (x := "_law_script") (sp := fun w => K13.spLaw _) rfl (by decide) rfl ⟨rfl, by decide, by decide⟩ (fun w h Y => PySem.W.kIn_of Y) ?F (fun _ _ a ns hl _ hS => ⟨a, ns, rfl, hS, hl, fun _ => rfl⟩)
  case F =>
    intro w mg fa h KX G hmg
    refine' K13.all_mk KX G hmg ?a0 ?l0 ?c0 ?k0 ?a1 ?l1 ?c1 ?k1 ?a2 ?l2 ?c2 ?k2 ?a3 ?l3 ?c3 ?k3 ?a4 ?l4 ?c4 ?k4 ?a5 ?l5 ?c5 ?k5 ?a6 ?l6 ?c6 ?k6 ?a7 ?l7 ?c7 ?k7 ?a8 ?l8 ?c8 ?k8 ?a9 ?l9 ?c9 ?k9 ?a10 ?l10 ?c10 ?k10 ?a11 ?l11 ?c11 ?k11 ?a12 ?l12 ?c12 ?k12 ?z_abs ?z_len ?z_int ?z_repr ?z_range ?z_tuple ?z_list
    (case a0 => k_is)
    (case l0 => k_is)
    (case c0 => k_is)
    (case k0 => k_is)
    (case a1 => k_is)
    (case l1 => k_is)
    (case c1 => k_is)
    (case k1 => k_is)
    (case a2 => k_is)
    (case l2 => k_is)
    (case c2 => k_is)
    (case k2 => k_is)
    (case a3 => k_is)
    (case l3 => k_is)
    (case c3 => k_is)
    (case k3 => k_is)
    (case a4 => k_is)
    (case l4 => k_is)
    (case c4 => k_is)
    (case k4 => k_is)
    (case a5 => k_is)
    (case l5 => k_is)
    (case c5 => k_is)
    (case k5 => k_is)
    (case a6 => k_is)
    (case l6 => k_is)
    (case c6 => k_is)
    (case k6 => k_is)
    (case a7 => k_is)
    (case l7 => k_is)
    (case c7 => k_is)
    (case k7 => k_is)
    (case a8 => k_is)
    (case l8 => k_is)
    (case c8 => k_is)
    (case k8 => k_is)
    (case a9 => k_is)
    (case l9 => k_is)
    (case c9 => k_is)
    (case k9 => k_is)
    (case a10 => k_is)
    (case l10 => k_is)
    (case c10 => k_is)
    (case k10 => k_is)
    (case a11 => k_is)
    (case l11 => k_is)
    (case c11 => k_is)
    (case k11 => k_is)
    (case a12 => k_is)
    (case l12 => k_is)
    (case c12 => k_is)
    (case k12 => k_is)
    (case z_abs => k_is)
    (case z_len => k_is)
    (case z_int => k_is)
    (case z_repr => k_is)
    (case z_range => k_is)
    (case z_tuple => k_is)
    (case z_list => k_is)
