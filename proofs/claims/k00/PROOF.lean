import PyProof.Rows.All
import Wide.All
import OpenK.AllK
import Wide.FinOn
import HandS.ForMost
import HandS.IsInst
import HandS.Wide
import PyProof.ReprRoads
import PySem.Challenge.RW_onebetween_k00_integers_and_letters
set_option Elab.async false
set_option linter.all false
set_option maxRecDepth 100000
set_option maxHeartbeats 4000000
namespace GG
open PySem PySem.Spec PyProof.Rows L2

/-! ### promises that are kept where no repr is under way -/
structure FnG (P : Program) (w : World) (K : PySem.W.Frag) (mg : Str → Option Value) (base : Heap) (CX : CXT) (k : Nat)
    (f : Addr) (fd : FuncData) (ps : List Str) (sp : Sp) : Prop where
  lens : ∀ vs H Q E, sp vs H Q E → vs.length = ps.length
  go : ∀ (A : Around) (outer : List Env) (s : Shared) (H : Hp) (ar : Args) (us : List Value) (vs : List V) (Q : VK) (E : XK),
    A.guards = some [] → Room k A → Env0 P w K mg base A outer s H → BindsTo s fd ar (ps.zip us) → Vals vs us →
    sp vs H Q E → codeAny (model P w) A (.call (.ref f) ar) (CR CX outer P w H s Q E) s

section
variable {P : Program} {w : World} {K : PySem.W.Frag} {mg : Str → Option Value} {base : Heap} {CX : CXT} {k : Nat}
  {f : Addr} {fd : FuncData} {ps : List Str} {sp : Sp}
theorem FnG.ofOk (F : FnOk P w K mg base CX k f fd ps sp) : FnG P w K mg base CX k f fd ps sp :=
  ⟨F.len, fun A o s H ar us vs Q E _ hr => F.run A o s H ar us vs Q E hr⟩

theorem fnG_lk {x qual : Str} {st : Stmt} {N : List Str} {oc : Value} {od an : Option Addr} {osl : Array (Option Value)} {kV doc pm cdv ct : Value}
    (lk : K.lookup f = some ⟨oc, od, .func (PySem.W.fnOf x qual (defArgs st) (defBody st) (defScope st) .none kV doc pm an cdv ct), osl⟩)
    (hcd : PySem.W.codeIn K cdv qual = true) (S : FnScope N ps (defScope st))
    (lens : ∀ vs H Q E, sp vs H Q E → vs.length = ps.length)
    (hb : ∀ (A : Around) (outer : List Env) (s : Shared) (H : Hp) (vs : List V) (Q : VK) (E : XK),
      (A.deeper (envOfC qual (defScope st) s.heap.objs.size f cdv)).guards = some [] →
      Room k (A.deeper (envOfC qual (defScope st) s.heap.objs.size f cdv)) → sp vs H Q E →
      ∃ t, PSs (cxOf CX P w K mg base N qual (defScope st) f cdv A outer s H E) (defBody st) t ∧
        t { nx := fun _ H' => Q .non H', rt := Q } (start N vs) H) :
    FnG P w K mg base CX (k + 1) f (PySem.W.fnOf x qual (defArgs st) (defBody st) (defScope st) .none kV doc pm an cdv ct) ps sp := by
  refine ⟨lens, ?_⟩
  intro A outer s H ar us vs Q E gA room en bd vl hs
  have inK : K.In s.heap := en.mod.kin.keeps (fun b o z => (en.bs b o z).left)
  have noL : s.heap.NoLimit := en.mod.nolimit.keeps (fun b o z => (en.bs b o z).left)
  have kinds : ∀ y ∈ ps.zip us, (defScope st).names.lookup y.1 = some .local ∨
      ((defScope st).names.lookup y.1 = some .cell ∧
        ((cellsFrom (s.heap.objs.size + 1) (defScope st).names []).lookup y.1).isSome = true) := by
    intro ⟨n, v⟩ hy
    cases S.par n (List.of_mem_zip hy).left with
    | inl q => exact Or.inl q
    | inr q => exact Or.inr ⟨q, PySem.W.cellsFrom_some _ _ _ (Or.inl q)⟩
  refine codeAny_call_function room.depth (inK _ _ lk) rfl S.co S.gen rfl
    (PySem.W.codeRec_of inK hcd) (bd _ _ _ _ ?_)
  refine wpAny_newFunctionEnv_cells S.kind kinds (fun env he s1 ic => ?_)
  subst he
  refine ⟨noL.keeps ic.toInCall.keep, codeAny_func ?_⟩
  obtain ⟨t, ht, hq⟩ := hb A outer s H vs Q E gA (room.deeper _) hs
  have J := inv_start (CX := CX) (P := P) (E := E) S room.hd en (lens _ _ _ _ hs) vl ic
  refine wpAny_mono (ht.run [] s1 (start N vs) H _ J hq) (fun fl s2 ends => ?_) (fun _ _ z => z)
  cases fl with
  | next =>
    obtain ⟨σ2, H2, I2, q2⟩ := ends
    exact ⟨V.non, H2, I2.os, I2.bare, I2.base, I2.hok, rfl, q2⟩
  | ret u =>
    obtain ⟨v, σ2, H2, I2, rv, q2⟩ := ends
    exact ⟨v, H2, I2.os, I2.bare, I2.base, I2.hok, rv, q2⟩
  | brk => exact ends.elim (fun _ z => z.elim (fun _ z => z.right.elim))
  | cont => exact ends.elim (fun _ z => z.elim (fun _ z => z.right.elim))
theorem fnG_of {x qual : Str} {st : Stmt} {N : List Str} (F : Fun K x qual st f fd) (S : FnScope N ps (defScope st))
    (lens : ∀ vs H Q E, sp vs H Q E → vs.length = ps.length)
    (hb : ∀ (cdv : Value) (A : Around) (outer : List Env) (s : Shared) (H : Hp) (vs : List V) (Q : VK) (E : XK),
      (A.deeper (envOfC qual (defScope st) s.heap.objs.size f cdv)).guards = some [] →
      Room k (A.deeper (envOfC qual (defScope st) s.heap.objs.size f cdv)) → sp vs H Q E →
      ∃ t, PSs (cxOf CX P w K mg base N qual (defScope st) f cdv A outer s H E) (defBody st) t ∧
        t { nx := fun _ H' => Q .non H', rt := Q } (start N vs) H) :
    FnG P w K mg base CX (k + 1) f fd ps sp := by
  obtain ⟨oc, od, kV, doc, pm, an, cdv, ct, osl, rfl, lk, hcd⟩ := F.ex
  exact fnG_lk lk hcd S lens (hb cdv)
/-- .. of a def that lets no exception out -/
theorem fnG0 {x qual : Str} {st : Stmt} {N : List Str} (F : Fun K x qual st f fd) (S : FnScope N ps (defScope st))
    (lens : ∀ vs H Q E, sp vs H Q E → vs.length = ps.length)
    (hb : ∀ (cdv : Value) (A : Around) (outer : List Env) (s : Shared) (H : Hp) (vs : List V) (Q : VK) (E : XK),
      (A.deeper (envOfC qual (defScope st) s.heap.objs.size f cdv)).guards = some [] →
      Room k (A.deeper (envOfC qual (defScope st) s.heap.objs.size f cdv)) → sp vs H Q E →
      ∃ t, PSs (cxOf CX0 P w K mg base N qual (defScope st) f cdv A outer s H E).nox (defBody st) t ∧
        t { nx := fun _ H' => Q .non H', rt := Q } (start N vs) H) :
    FnG P w K mg base CX0 (k + 1) f fd ps sp :=
  fnG_of F S lens (fun cdv A outer s H vs Q E g r h => (hb cdv A outer s H vs Q E g r h).imp (fun _ z => ⟨z.left.nox, z.right⟩))
end

section
variable {X : Cx} {CX : CXT} {k : Nat} {f : Addr} {fd : FuncData} {ps : List Str} {sp : Sp} {dvs : List V} {ds : List Value}
  {E : XK} {x : Str} {p pos : Pos} {e : Expr} {es : List Expr} {t : TA}
theorem runG {pins : List (Addr × Obj)} {σ : L2.St} {H : Hp} {s : Shared} {Q : VK} {us : List Value} {vs : List V}
    (F : FnG X.prog X.w X.K X.mg X.base CX k f fd ps sp) (gd : X.A.guards = some []) (room : Room k X.A)
    (bd : Binds X.K fd ps ds) (dv : Vals dvs ds) (pass : Passes CX X E) (I : Inv X pins σ H s) (r : Vals vs us)
    (h : sp (vs ++ dvs) H Q E) : wpAny (model X.prog X.w) X.A (call (.ref f) us) (EP X pins σ Q) X.xe s := by
  have both : Vals (vs ++ dvs) (us ++ ds) := Vals.append r dv
  have n : (us ++ ds).length = ps.length := both.length.symm.trans (F.lens _ _ _ _ h)
  have run := F.go X.A X.stack s H ⟨us, []⟩ (us ++ ds) (vs ++ dvs) Q E gd room I.env0 (bd s us I.kIn n) both h
  refine wpAny_call (codeAny_mono run ?_)
  intro res s2 z
  cases res with
  | error ex => exact pass pins σ H s ex s2 I z
  | ok fl =>
    cases fl with
    | ret u => exact Inv.after I z
    | next => exact z.elim
    | brk => exact z.elim
    | cont => exact z.elim
/-- f(e, ..) -/
theorem pe_callG (F : FnG X.prog X.w X.K X.mg X.base CX k f fd ps sp) (gd : X.A.guards = some []) (room : Room k X.A) (hg : Gl X x)
    (hm : X.mg x = some (.ref f)) (kp : PySem.W.keepIn X.K (.ref f) = true) (bd : Binds X.K fd ps ds) (dv : Vals dvs ds)
    (pass : Passes CX X E) (ha : PA X (e :: es) t) (hdb : (x == ("__debug__" : Str)) = false := by decide)
    (he : starEach (e :: es) X.env = (false, eval e X.env) :: starEach es X.env := by rfl)
    (hpl : (backTo pos (starEach es X.env)).any (·.1) = false := by rfl) :
    PE X (.Call (.Name x p) (e :: es) [] pos) (tCall sp dvs E t) := by
  constructor
  intro pins s σ H Q I h
  apply wpAny_Call_Name_kw
  apply ld_glob I hg hm _ hdb
  apply PySem.W.callWith_K (h₀ := X.base) I.ok.mod.kin kp _ he hpl
  apply thn (ha.run pos pins s σ H _ I h)
  intro us s1 ⟨vs, H1, I1, r, q⟩
  exact ⟨I1.kIn, runG F gd room bd dv pass I1 r q⟩
/-- f() -/
theorem pe_callG0 (F : FnG X.prog X.w X.K X.mg X.base CX k f fd ps sp) (gd : X.A.guards = some []) (room : Room k X.A) (hg : Gl X x)
    (hm : X.mg x = some (.ref f)) (kp : PySem.W.keepIn X.K (.ref f) = true) (bd : Binds X.K fd ps ds) (dv : Vals dvs ds)
    (pass : Passes CX X E) (hdb : (x == ("__debug__" : Str)) = false := by decide) :
    PE X (.Call (.Name x p) [] [] pos) (tCall sp dvs E tNil) := by
  constructor
  intro pins s σ H Q I h
  apply wpAny_Call_Name_kw
  apply ld_glob I hg hm _ hdb
  exact PySem.W.callWith_K0 I.kIn kp (runG (us := []) F gd room bd dv pass I .nil h)
end
end GG

namespace GG
open PySem PySem.Spec PyProof.Rows L2
/-! ### the end of a law's row, over such a promise -/
section
variable {P : Program} {w : World} {K : PySem.W.Frag} {mg mb : Str → Option Value} {CX : CXT} {k : Nat} {fa a : Addr} {fd : FuncData}
  {x : Str} {sp : Sp} {s₁ : Shared} {vs : List Value} {ns : List Int}
/-- from a heap in which the script alone may be tracked -/
theorem law_coreG {H : Hp} (KX : K.In s₁.heap) (ng : s₁.heap.Ns mainGlobals mg) (nb : s₁.heap.Ns builtinsNs mb)
    (bb : ∀ x : Str, x ≠ "__name__" → mb x = bootBuiltins x) (lim : s₁.heap.NoLimit) (g0 : s₁.gens = #[])
    (ha : s₁.heap.get? a = some { cls := .type "list", data := .seq vs.toArray }) (room : Room k callerA)
    (F : ∀ base : Heap, K.In base → base.Ns mainGlobals mg → FnG P w K mg base CX k fa fd [x] sp)
    (bind : ∀ (s : Shared) (u : Value), BindsTo s fd ⟨[u], []⟩ [(x, u)])
    (want : sp [.ref a] H (fun v _ => v = .bl true) fun _ _ _ => False)
    (noX : ∀ H e s', CX [] H s₁ (fun _ _ _ => False) e s' → False)
    (only : Only H) (ok : HOk P w H s₁.heap) (at_a : ∀ b, H b ≠ none → b = a) (notK : H a ≠ none → K.lookup a = none) :
    codeAny (model P w) callerA (.call (.ref fa) ⟨[.ref a], []⟩)
      (fun r s' => r = .ok (.ret (.bool true)) ∧ OldK s₁.heap s'.heap ∧ s'.os = s₁.os ∧ AllBare s'.gens) s₁ := by
  have dictFree : ∀ {b : Addr} {o : Obj} {es : Array DictEntry} {ep : Nat},
      s₁.heap.get? b = some o → o.data = .dict es ep → H b = none := by
    intro b o es ep e d
    rcases hq : H b with _ | u
    · rfl
    · have ba := at_a b (fun z => by rw [z] at hq; cases hq)
      rw [ba, ha] at e
      cases e
      cases (show Data.seq vs.toArray _ = Data.dict es ep from d)
  have ns : ∀ {b : Addr} {m : Str → Option Value}, s₁.heap.Ns b m → (hidT s₁.heap H).Ns b m := by
    rintro b m ⟨o, es, ep, e, d, r⟩
    exact ⟨o, es, ep, hidT_get e (dictFree e d), d, r⟩
  have KB : K.In (hidT s₁.heap H) := by
    intro b o e
    refine hidT_get (KX b o e) ?_
    rcases hq : H b with _ | u
    · rfl
    · have ba := at_a b (fun z => by rw [z] at hq; cases hq)
      rw [ba] at hq e
      rw [notK (fun z => by rw [z] at hq; cases hq)] at e
      cases e
  have en : Env0 P w K mg (hidT s₁.heap H) callerA [] s₁ H := by
    refine ⟨rfl, ⟨KB, ns ng, ⟨mb, ns nb, bb⟩, ?_⟩, fun b o e => of_hidT e, Nat.le_of_eq (hidT_size _ _), trivial, ?_, ok, .of_eq g0⟩
    · obtain ⟨mc, h1, h2⟩ := lim
      exact ⟨mc, ns h1, h2⟩
    · intro b z
      cases (show b ∈ ([] : List Addr) from z)
  refine codeAny_mono ((F _ KB (ns ng)).go callerA [] s₁ H ⟨[.ref a], []⟩ [.ref a] [.ref a] _ _ rfl room en
    (bind s₁ (.ref a)) (.cons rfl .nil) want) ?_
  intro r s' z
  cases r with
  | error e => exact (noX H e s' z).elim
  | ok fl =>
    cases fl with
    | next => exact z.elim
    | brk => exact z.elim
    | cont => exact z.elim
    | ret u =>
      obtain ⟨v, H', os, bare, un, ok', rv, q⟩ := z
      cases (show v = .bl true from q)
      cases (show u = Value.bool true from rv)
      refine ⟨rfl, OldK.of_keep ?_, os, bare⟩
      intro b o e
      rcases only b with hq | ⟨ob, xs, hq⟩
      · exact un.keep b o e hq (fun z => by cases (show b ∈ ([] : List Addr) from z)) (fun z => by cases z)
      · have f1 := (ok b _ hq).left
        have f2 := (ok' b _ (un.frzs b ob _ hq)).left
        rw [e] at f1
        cases f1
        exact f2
theorem law_callG (KX : K.In s₁.heap) (ng : s₁.heap.Ns mainGlobals mg) (nb : s₁.heap.Ns builtinsNs mb)
    (bb : ∀ x : Str, x ≠ "__name__" → mb x = bootBuiltins x) (lim : s₁.heap.NoLimit) (g0 : s₁.gens = #[])
    (ha : s₁.heap.get? a = some { cls := .type "list", data := .seq vs.toArray }) (hi : IntsAre vs ns) (hl : ns.length ≤ sizeLine)
    (room : Room k callerA) (F : ∀ base : Heap, K.In base → base.Ns mainGlobals mg → FnG P w K mg base CX k fa fd [x] sp)
    (bind : ∀ (s : Shared) (u : Value), BindsTo s fd ⟨[u], []⟩ [(x, u)])
    (want : ∀ H : Hp, Only H → SqL K H a (ns.map V.int) → sp [.ref a] H (fun v _ => v = .bl true) fun _ _ _ => False)
    (noX : ∀ H e s', CX [] H s₁ (fun _ _ _ => False) e s' → False) :
    codeAny (model P w) callerA (.call (.ref fa) ⟨[.ref a], []⟩)
      (fun r s' => r = .ok (.ret (.bool true)) ∧ OldK s₁.heap s'.heap ∧ s'.os = s₁.os ∧ AllBare s'.gens) s₁ := by
  have vi := vals_ints hi
  rcases hk : K.lookup a with _ | o
  · have hH : ∀ b, (fun b => if b = a then some (HO.frz { cls := .type "list", data := .seq vs.toArray } (.lst (ns.map V.int))) else none : Hp) b ≠ none → b = a := by
      intro b z
      by_cases e : b = a
      · exact e
      · exact absurd (if_neg e) z
    refine law_coreG (H := fun b => if b = a then some (HO.frz { cls := .type "list", data := .seq vs.toArray } (.lst (ns.map V.int))) else none)
      KX ng nb bb lim g0 ha room F bind (want _ ?_ (.inl (.inr ⟨_, if_pos rfl⟩))) noX ?_ ?_ hH (fun _ => hk)
    all_goals first
      | (intro b
         by_cases e : b = a
         · exact .inr ⟨_, _, if_pos e⟩
         · exact .inl (if_neg e))
      | (intro b u z
         by_cases e : b = a
         · have z' := (if_pos e).symm.trans z
           cases z'
           rw [e]
           exact ⟨ha, by rw [List.length_map]; exact hl, vs, _, vi, ha⟩
         · have z' := (if_neg e).symm.trans z
           cases z')
  · have e := KX a o hk
    rw [ha] at e
    cases e
    refine law_coreG (H := fun _ => none) KX ng nb bb lim g0 ha room F bind (want _ (fun _ => .inl rfl) ?_) noX (fun _ => .inl rfl) ?_ (fun b z => absurd rfl z) (fun z => absurd rfl z)
    · exact .inr ⟨_, vs.toArray, _, hk, rfl, rfl, rfl, by rw [List.size_toArray, hi.length]; exact hl, by simpa using vi⟩
    · intro b u z
      cases (show (none : Option HO) = some u from z)
end
/-- the goal that the head leaves -/
theorem walkG {l : PySem.W.OpenLaw} {n k : Nat} {q : Program} {loose : List Str} {XP : (Str → Option Value) → Heap → Prop} {YP : World → Heap → Prop}
    {d : DefRec} {K : Params → PySem.W.Frag} {CX : World → CXT} {sp : World → Sp} {x : Str}
    (hn : l.most = some n) (hn2 : n ≤ sizeLine) (hdf : d.params.defaults = []) (room : Room k callerA)
    (hY : ∀ (w : World) (h : Heap), YP w h → (K w.params).In h)
    (F : ∀ (w : World) (mg : Str → Option Value) (fa : Addr) (h : Heap), (K w.params).In h → h.Ns mainGlobals mg → mg d.name = some (.ref fa) →
      ∃ fd : FuncData, (∀ (s : Shared) (u : Value), BindsTo s fd ⟨[u], []⟩ [(x, u)]) ∧
        ∀ base : Heap, (K w.params).In base → base.Ns mainGlobals mg → FnG l.prog w (K w.params) mg base (CX w) k fa fd [x] (sp w))
    (want : ∀ (w : World) (H : Hp) (a : Addr) (ns : List Int), ns.length ≤ n → Only H → SqL (K w.params) H a (ns.map V.int) →
      sp w [.ref a] H (fun v _ => v = .bl true) fun _ _ _ => False)
    (noX : ∀ (w : World) (H : Hp) (s : Shared) (e : Value) (s' : Shared), CX w [] H s (fun _ _ _ => False) e s' → False) :
    PySem.W.WalkO q loose XP YP l.row.toRowW d [] (fun f vs => PySem.call f vs) := by
  apply Att.attach_call hn hdf
  intro w s₀ s₁ mg mb fa o pm cd doc a vs ns G Y ho hd hcd hmg hobj hints hlen hg
  obtain ⟨fd, hb, hF⟩ := F w mg fa _ (hY w _ Y) G.T.g hmg
  exact law_callG (hY w _ Y) G.T.g G.T.b G.T.builtins G.T.nolimit hg hobj hints (Nat.le_trans hlen hn2) room hF hb
    (fun H h1 h2 => want w H a ns hlen h1 h2) (fun H e s' => noX w H s₁ e s')
end GG

namespace GG
open PySem PySem.Spec PyProof.Rows L2
/-! ### repr of data -/
def isDsp : PyData → Bool
  | .list _ => true
  | .tuple _ => true
  | _ => false
/-- repr(x), x nested lists and tuples of bools, ints, texts, None -/
def rRepr (K : PySem.W.Frag) : List V → Hp → VK → Prop := fun xs H Q => ∃ x d, xs = [x] ∧ Dp K H x d ∧
  (d.showable = true ∧ d.hasDict = false ∧ d.depth ≤ 40 ∧ d.shown.length ≤ sizeLine) ∧ Q (.str d.shown) H
theorem call_reprU {X : Cx} (gd : X.A.guards = some []) (un : X.A.units + 64 < cLine) : CallR X (.builtin "repr") (rRepr X.K) := by
  intro pins s σ H xs us Q I r h
  obtain ⟨x, d, rfl, hd, ⟨sh, nod, dep, big⟩, q⟩ := h
  obtain ⟨u, rfl, ru⟩ := vals1 r
  cases d with
  | none =>
    cases hd
    cases (show u = Value.none from ru)
    exact PySem.P.repr_of_none ⟨.str _, H, I.tok _, ⟨_, rfl⟩, by simpa [PyData.shown] using q⟩
  | bool b =>
    cases hd
    cases (show u = Value.bool b from ru)
    exact PySem.P.repr_of_bool ⟨.str _, H, I.tok _, ⟨_, rfl⟩, by simpa [PyData.shown] using q⟩
  | int i =>
    cases hd
    obtain ⟨t, rfl⟩ := (show ∃ t, u = Value.int i t from ru)
    refine PySem.P.repr_of_int (by simpa [PyData.showable] using sh) ⟨.str _, H, I.tok _, ⟨_, rfl⟩, by simpa [PyData.shown] using q⟩
  | str y =>
    cases hd
    obtain ⟨t, rfl⟩ := (show ∃ t, u = Value.str y t from ru)
    exact PySem.P.repr_of_str ⟨.str _, H, I.tok _, ⟨_, rfl⟩, by simpa [PyData.shown] using q⟩ (by simpa [PyData.shown] using big)
  | dict kvs => cases hd
  | list ds =>
    obtain ⟨as, rd⟩ := Dp.reads I _ _ _ hd ru
    cases hd
    cases (show u = Value.ref _ from ru)
    refine repr_of_reads' rd sh (PyData.noDict_hsm nod) gd (by omega) (fun _ _ e => e) (fun h' u tk kept => ?_) big
    exact ⟨.str _, H, I.kept kept, ⟨_, rfl⟩, q⟩
  | tuple ds =>
    obtain ⟨as, rd⟩ := Dp.reads I _ _ _ hd ru
    cases hd
    cases (show u = Value.ref _ from ru)
    refine repr_of_reads' rd sh (PyData.noDict_hsm nod) gd (by omega) (fun _ _ e => e) (fun h' u tk kept => ?_) big
    exact ⟨.str _, H, I.kept kept, ⟨_, rfl⟩, q⟩
theorem call_reprD {X : Cx} {k : Nat} (gd : X.A.guards = some []) (room : Room k X.A) : CallR X (.builtin "repr") (rRepr X.K) := call_reprU gd room.units
/-! ### ** of a great base -/
def CPowW (i j : Int) : Prop := 0 ≤ j ∧ (Builtin.Int.intBits i : Int) * j ≤ 2 ^ 27
theorem op_powW {X : Cx} : OpR X (binaryOp .Pow) (rI CPowW fun i j => .int (i ^ j.toNat)) := opI fun _ _ _ _ _ _ _ hc q => pow_int hc.1 hc.2 q
/-! ### the heap but for one object -/
/-- all that stands in H stands in H', but for what is at l -/
def But (l : Addr) (H H' : Hp) : Prop := ∀ b o, b ≠ l → H b = some o → H' b = some o
theorem But.refl {l : Addr} {H : Hp} : But l H H := fun _ _ _ e => e
theorem But.trans {l : Addr} {H H1 H2 : Hp} (a : But l H H1) (b : But l H1 H2) : But l H H2 := fun c o n e => b c o n (a c o n e)
theorem But.same {l : Addr} {H H1 H2 : Hp} (a : But l H H1) (b : Same H1 H2) : But l H H2 := fun c o n e => b c o (a c o n e)
theorem But.ofSame {l : Addr} {H H1 : Hp} (b : Same H H1) : But l H H1 := fun c o _ e => b c o e
theorem But.new {l p : Addr} {H H1 : Hp} {o : HO} (a : But l H H1) (h : H1 p = none) : But l H (upd H1 p o) := fun c u n e => by
  have e1 := a c u n e
  rw [upd_ne (ne_of_none e1 h)]
  exact e1
theorem But.at {l : Addr} {H : Hp} {o : HO} : But l H (upd H l o) := fun c u n e => by
  rw [upd_ne n]
  exact e
theorem But.seqL {l a : Addr} {K : PySem.W.Frag} {H H' : Hp} {xs : List V} (b : But l H H') (n : a ≠ l) (h : SqL K H a xs) : SqL K H' a xs := by
  rcases h with (h | ⟨o, h⟩) | h
  · exact .inl (.inl (b _ _ n h))
  · exact .inl (.inr ⟨o, b _ _ n h⟩)
  · exact .inr h
theorem But.seqT {l a : Addr} {K : PySem.W.Frag} {H H' : Hp} {xs : List V} (b : But l H H') (n : a ≠ l) (h : SqT K H a xs) : SqT K H' a xs := by
  rcases h with (h | ⟨o, h⟩) | h
  · exact .inl (.inl (b _ _ n h))
  · exact .inl (.inr ⟨o, b _ _ n h⟩)
  · exact .inr h
theorem sameUpd {H : Hp} {p : Addr} {o : HO} (h : H p = none) : Same H (upd H p o) := fun b x e => by
  rw [upd_ne (ne_of_none e h)]
  exact e
/-! ### dice -/
def Dice (H : Hp) (l : Addr) : Prop := ∃ a b c : Int, H l = some (.lst [.int a, .int b, .int c]) ∧ 0 ≤ a
theorem Dice.same {H H' : Hp} {l : Addr} (d : Dice H l) (s : Same H H') : Dice H' l := by
  obtain ⟨a, b, c, e, h⟩ := d
  exact ⟨a, b, c, s _ _ e, h⟩
theorem Dice.new {H : Hp} {l p : Addr} {o : HO} (d : Dice H l) (h : H p = none) : Dice (upd H p o) l := d.same (sameUpd h)
theorem Dice.ne {H : Hp} {l p : Addr} (d : Dice H l) (h : H p = none) : l ≠ p := by
  obtain ⟨a, b, c, e, _⟩ := d
  exact ne_of_none e h
theorem mul60 : CMulW (10 ^ Int.toNat 60) (10 ^ Int.toNat 60) := by
  unfold CMulW
  decide +kernel
theorem pos60 : (0 : Int) < 10 ^ Int.toNat 60 * 10 ^ Int.toNat 60 := by decide +kernel
def spDice (K : PySem.W.Frag) : Sp := fun vs H Q _ => ∃ (a : Addr) (ns : List Int) (spot : Nat), vs = [.ref a, .int spot] ∧ SqL K H a (ns.map V.int) ∧
  spot ≤ 100 ∧ ∀ H' p, Same H H' → H p = none → Dice H' p → Q (.ref p) H'
def spRoll : Sp := fun vs H Q _ => ∃ (l : Addr) (t : Int), vs = [.ref l, .int t] ∧ Dice H l ∧ 0 < t ∧ t < 1073741824 ∧
  ∀ H' (r : Int), But l H H' → Dice H' l → 0 ≤ r → r < t → Q (.int r) H'
def spPick (K : PySem.W.Frag) : Sp := fun vs H Q _ => ∃ (l a : Addr) (xs : List V), vs = [.ref l, .ref a] ∧ Dice H l ∧ a ≠ l ∧
  (SqL K H a xs ∨ SqT K H a xs) ∧ 0 < xs.length ∧ xs.length ≤ 1000 ∧
  ∀ H' (i : Nat) (v : V), But l H H' → Dice H' l → xs[i]? = some v → Q v H'
end GG

set_option maxHeartbeats 4000000
namespace K00
open PySem PySem.Spec PyProof.Rows L2 GG
def topS (i : Nat) : Stmt := PySem.Challenge.pw_onebetween_k00_integers_and_letters.main.body.getD i (.Pass ⟨0, 0, 0, 0⟩)
abbrev sDice : Stmt := topS 7
abbrev sRoll : Stmt := topS 8
abbrev sPick : Stmt := topS 9
theorem scDice : FnScope ["script", "spot", "cell", "left"] ["script", "spot"] (defScope sDice) := ⟨rfl, rfl, rfl, by decide +kernel, rfl, by decide +kernel, by decide +kernel⟩
theorem scRoll : FnScope ["dice", "total", "found", "one", "two"] ["dice", "total"] (defScope sRoll) := ⟨rfl, rfl, rfl, by decide +kernel, rfl, by decide +kernel, by decide +kernel⟩
theorem scPick : FnScope ["dice", "items"] ["dice", "items"] (defScope sPick) := ⟨rfl, rfl, rfl, by decide +kernel, rfl, by decide +kernel, by decide +kernel⟩
section
variable {P : Program} {w : World} {K : PySem.W.Frag} {mg : Str → Option Value} {base : Heap}
theorem ok_dice {f : Addr} {fd : FuncData} {k : Nat} (F : Fun K "_law_dice" "_law_dice" sDice f fd)
    (ml : mg "len" = none) (mi : mg "int" = none) (mx : mg "max" = none) (ma : mg "abs" = none) :
    FnOk P w K mg base CX0 (k + 1) f fd ["script", "spot"] (spDice K) := by
  refine F.ok scDice (fun vs H Q E h => ?_) (fun cdv A outer s H vs Q E hr h => ?_)
  · obtain ⟨a, ns, spot, rfl, _⟩ := h
    rfl
  · obtain ⟨a, ns, spot, rfl, hS, hsp, q⟩ := h
    refine ⟨_, pss_cons (ps_set (i := 2) scDice.nd rfl (.inl rfl)
        (pe_ifExp (pt_cmpR op_lt (pv 1) (pe_callB call_len_seq (by rfl) ml PySem.boot_len (pa_cons (pv 0) pa_nil)) (nomark _))
          (pe_callTy call_int1 (by rfl) mi (by decide +kernel) (pa_cons (pe_ix ix_list (pv 0) (pv 1) (fun _ _ => rfl)) pa_nil))
          (pe_op op_add (pe_op op_mul pe_int (pv 1)) pe_int)))
      (pss_cons (ps_set (i := 3) scDice.nd rfl (.inl rfl)
        (pe_op op_mod (pe_callB (call_max2 rfl) (by rfl) mx (by decide +kernel) (pa_cons pe_int (pa_cons (pe_op op_sub (pe_callB call_abs (by rfl) ma (by decide +kernel) (pa_cons (pv 2) pa_nil)) (pe_op op_pow pe_int pe_int)) pa_nil)))
          (pe_op op_mulW (pe_op op_pow pe_int pe_int) (pe_op op_pow pe_int pe_int))))
      (pss_one (ps_ret (pe_lst (pa_cons (pv 3) (pa_cons
        (pe_op op_add (pe_op op_add (pe_op op_add (pe_op op_mul (pe_op op_mod (pe_callB call_abs (by rfl) ma (by decide +kernel) (pa_cons (pv 2) pa_nil)) pe_int) pe_int) (pe_op op_mul pe_int (pv 1)))
          (pe_op op_mul pe_int (pe_callTy call_int1 (by rfl) mi (by decide +kernel) (pa_cons (pe_cmpR op_lt (pv 2) pe_int (nomark _)) pa_nil)))) pe_int)
        (pa_cons pe_int pa_nil))))))), ?_⟩
    refine ⟨.int spot, rfl, .ref a, rfl, a, _, rfl, .inl hS, _, _, rfl, rfl, _, rfl, ite2 (fun e => ?_) (fun e => ?_)⟩
    · have e1 := of_decide_eq_true e
      rw [List.length_map] at e1
      have e2 : spot < ns.length := by omega
      have g : (ns.map V.int)[spot]? = some (.int ns[spot]) := by
        rw [List.getElem?_map, List.getElem?_eq_getElem e2]
        rfl
      refine ⟨.ref a, rfl, .int spot, rfl, a, _, spot, .int ns[spot], rfl, rfl, hS, atI_nat g, .inl ⟨_, rfl, ?_⟩⟩
      refine ⟨_, rfl, _, rfl, _, _, rfl, rfl, ⟨by decide, by decide, by decide⟩, _, _, rfl, rfl, _, _, rfl, _, _, rfl, rfl, ⟨by decide, by decide, by decide⟩, _, _, rfl, rfl, ⟨by decide, by decide, by decide⟩, _, _, rfl, rfl, mul60, _, _, rfl, rfl, pos60, ?_⟩
      refine ⟨_, rfl, _, rfl, _, rfl, _, _, rfl, rfl, (show (0 : Int) < 1152921504606846809 by decide), _, _, rfl, rfl, .inr (by decide), _, rfl, _, _, rfl, rfl, .inl (by decide), _, _, rfl, rfl, _, rfl, _, _, rfl, rfl, .inr ⟨_, rfl, _, _, rfl, rfl, .inl (by decide), _, _, rfl, rfl, _, _, rfl, rfl, (by show 3 ≤ sizeLine; decide), fun p np => ?_⟩⟩
      exact q _ p (sameUpd np) np ⟨_, _, _, upd_same, Int.emod_nonneg _ (by have := pos60; omega)⟩
    · refine ⟨_, rfl, _, _, rfl, rfl, .inl (by decide), _, _, rfl, rfl, ?_⟩
      refine ⟨_, rfl, _, rfl, _, _, rfl, rfl, ⟨by decide, by decide, by decide⟩, _, _, rfl, rfl, _, _, rfl, _, _, rfl, rfl, ⟨by decide, by decide, by decide⟩, _, _, rfl, rfl, ⟨by decide, by decide, by decide⟩, _, _, rfl, rfl, mul60, _, _, rfl, rfl, pos60, ?_⟩
      refine ⟨_, rfl, _, rfl, _, rfl, _, _, rfl, rfl, (show (0 : Int) < 1152921504606846809 by decide), _, _, rfl, rfl, .inr (by decide), _, rfl, _, _, rfl, rfl, .inl (by decide), _, _, rfl, rfl, _, rfl, _, _, rfl, rfl, .inr ⟨_, rfl, _, _, rfl, rfl, .inl (by decide), _, _, rfl, rfl, _, _, rfl, rfl, (by show 3 ≤ sizeLine; decide), fun p np => ?_⟩⟩
      exact q _ p (sameUpd np) np ⟨_, _, _, upd_same, Int.emod_nonneg _ (by have := pos60; omega)⟩
theorem ok_roll {f : Addr} {fd : FuncData} {k : Nat} (F : Fun K "_law_roll" "_law_roll" sRoll f fd) (mi : mg "int" = none) :
    FnOk P w K mg base CX0 (k + 1) f fd ["dice", "total"] spRoll := by
  refine F.ok scRoll (fun vs H Q E h => ?_) (fun cdv A outer s H vs Q E hr h => ?_)
  · obtain ⟨a, n, rfl, _⟩ := h
    rfl
  · obtain ⟨l, n, rfl, ⟨a, b, c, hd, ha⟩, h0, h1, q⟩ := h
    have at0 : atI [V.int a, .int b, .int c] 0 = some (.int a) := rfl
    have at1 : atI [V.int a, .int b, .int c] 1 = some (.int b) := rfl
    have at2 : atI [V.int a, .int b, .int c] 2 = some (.int c) := rfl
    refine ⟨_, pss_cons (ps_if (pt_cmpR op_gt (pe_ix ix_list (pv 0) pe_int (fun _ _ => rfl)) pe_int (nomark _))
        (pss_cons (ps_set (i := 2) scRoll.nd rfl (.inl rfl) (pe_op op_mod (pe_callTy call_int1 (by rfl) mi (by decide +kernel) (pa_cons (pe_ix ix_list (pv 0) pe_int (fun _ _ => rfl)) pa_nil)) (pv 1)))
        (pss_cons (ps_asg (pe_op op_fdiv (pe_ix ix_list (pv 0) pe_int (fun _ _ => rfl)) (pv 1)) (pg_sub (pv 0) pe_int set_list))
        (pss_one (ps_ret (pv 2))))) pss_nil)
      (pss_cons (ps_asg (pe_op op_add (pe_ix ix_list (pv 0) pe_int (fun _ _ => rfl)) pe_int) (pg_sub (pv 0) pe_int set_list))
      (pss_cons (ps_set (i := 3) scRoll.nd rfl (.inl rfl) (pe_op op_mod (pe_callTy call_int1 (by rfl) mi (by decide +kernel)
          (pa_cons (pe_op op_add (pe_ix ix_list (pv 0) pe_int (fun _ _ => rfl)) (pe_op op_mul pe_int (pe_ix ix_list (pv 0) pe_int (fun _ _ => rfl)))) pa_nil)) pe_int))
      (pss_cons (ps_set (i := 4) scRoll.nd rfl (.inl rfl) (pe_op op_add (pe_op op_mul (pe_op op_mod (pe_callTy call_int1 (by rfl) mi (by decide +kernel)
          (pa_cons (pe_op op_add (pe_op op_mul (pv 3) (pv 3)) (pe_op op_mul pe_int (pe_ix ix_list (pv 0) pe_int (fun _ _ => rfl)))) pa_nil)) pe_int) pe_int) (pv 3)))
      (pss_one (ps_ret (pe_op op_mod (pe_callTy call_int1 (by rfl) mi (by decide +kernel) (pa_cons (pe_op op_fdiv (pv 4) pe_int) pa_nil)) (pv 1))))))), ?_⟩
    refine ⟨.ref l, rfl, l, _, 0, _, rfl, rfl, .of hd, at0, a, 0, rfl, rfl, _, rfl, ite2 (fun e => ?_) (fun e => ?_)⟩
    · refine ⟨.ref l, rfl, l, _, 0, _, rfl, rfl, .of hd, at0, .inl ⟨a, rfl, .int n, rfl, a, n, rfl, rfl, h0, ?_⟩⟩
      refine ⟨.ref l, rfl, l, _, 0, _, rfl, rfl, .of hd, at0, .int n, rfl, a, n, rfl, rfl, ⟨h0, h1⟩, .ref l, rfl, l, _, 0, 0, rfl, rfl, hd, rfl, ?_⟩
      refine ⟨_, rfl, q _ _ .at ⟨a / n, b, c, upd_same, Int.ediv_nonneg ha (by omega)⟩ (Int.emod_nonneg _ (by omega)) (Int.emod_lt_of_pos _ h0)⟩
    · refine ⟨.ref l, rfl, l, _, 2, _, rfl, rfl, .of hd, at2, c, 1, rfl, rfl, .ref l, rfl, l, _, 2, 2, rfl, rfl, hd, rfl, ?_⟩
      have hd' : (upd H l (.lst [.int a, .int b, .int (c + 1)])) l = some (.lst [.int a, .int b, .int (c + 1)]) := upd_same
      have at1 : atI [V.int a, .int b, .int (c + 1)] 1 = some (.int b) := rfl
      have at2 : atI [V.int a, .int b, .int (c + 1)] 2 = some (.int (c + 1)) := rfl
      have p1 : (0 : Int) < 2305843009213693669 := by decide
      have p2 : (0 : Int) < 1152921504606846779 := by decide
      refine ⟨.ref l, rfl, l, _, 1, _, rfl, rfl, .of hd', at1, .ref l, rfl, l, _, 2, _, rfl, rfl, .of hd', at2, _, _, rfl, rfl, .inl (by decide), _, _, rfl, rfl, .inl ⟨_, rfl, _, _, rfl, rfl, p1, ?_⟩⟩
      have b0 := Int.emod_nonneg (b + 86028121 * (c + 1)) (show (2305843009213693669 : Int) ≠ 0 by decide)
      have b1 := Int.emod_lt_of_pos (b + 86028121 * (c + 1)) p1
      refine ⟨_, rfl, _, rfl, _, _, rfl, rfl, .inl ⟨Int.lt_of_lt_of_le (by decide) b0, Int.lt_trans b1 (by decide)⟩, .ref l, rfl, l, _, 2, _, rfl, rfl, .of hd', at2, _, _, rfl, rfl, .inl (by decide), _, _, rfl, rfl, .inl ⟨_, rfl, _, _, rfl, rfl, p2, ?_⟩⟩
      refine ⟨_, _, rfl, rfl, .inr (by decide), _, rfl, _, _, rfl, rfl, ?_⟩
      refine ⟨_, rfl, _, _, rfl, rfl, ⟨by decide, by decide⟩, .inl ⟨_, rfl, .int n, rfl, _, n, rfl, rfl, h0, ?_⟩⟩
      exact q _ _ .at ⟨a, b, c + 1, upd_same, ha⟩ (Int.emod_nonneg _ (by omega)) (Int.emod_lt_of_pos _ h0)
theorem ok_pick {f fR : Addr} {fd fdR : FuncData} (F : Fun K "_law_pick" "_law_pick" sPick f fd) (FR : Fun K "_law_roll" "_law_roll" sRoll fR fdR)
    (bR : Binds K fdR ["dice", "total"] []) (gR : mg "_law_roll" = some (.ref fR)) (ml : mg "len" = none) (mi : mg "int" = none) :
    FnOk P w K mg base CX0 2 f fd ["dice", "items"] (spPick K) := by
  have GR : FnOk P w K mg base CX0 1 fR fdR ["dice", "total"] spRoll := ok_roll FR mi
  refine F.ok scPick (fun vs H Q E h => ?_) (fun cdv A outer s H vs Q E hr h => ?_)
  · obtain ⟨l, a, xs, rfl, _⟩ := h
    rfl
  · obtain ⟨l, a, xs, rfl, hd, ne, hx, h0, h1, q⟩ := h
    refine ⟨_, pss_one (ps_ret (pe_ix ix_seq (pv 1) (pe_call GR hr (by rfl) gR FR.kp bR .nil pass0
      (pa_cons (pv 0) (pa_cons (pe_callB call_len_seq (by rfl) ml PySem.boot_len (pa_cons (pv 1) pa_nil)) pa_nil))) (fun _ _ => rfl))), ?_⟩
    refine ⟨.ref a, rfl, .ref l, rfl, .ref a, rfl, a, xs, rfl, hx, l, xs.length, rfl, hd, by omega, by omega, fun H' r bt hd' r0 r1 => ?_⟩
    have e : xs[r.toNat]? = some xs[r.toNat] := List.getElem?_eq_getElem (by omega)
    have e2 : atI xs r = some xs[r.toNat] := by
      have := atI_nat e
      rwa [show ((r.toNat : Nat) : Int) = r by omega] at this
    rcases hx with hx | hx
    · exact .inl ⟨a, xs, r, _, rfl, rfl, bt.seqL ne hx, e2, q H' r.toNat _ bt hd' e⟩
    · exact .inr (.inl ⟨a, xs, r, _, rfl, rfl, bt.seqT ne hx, e2, q H' r.toNat _ bt hd' e⟩)
end
end K00

set_option maxHeartbeats 4000000
namespace K00
open PySem PySem.Spec PyProof.Rows L2 GG
abbrev sInteger : Stmt := topS 3
abbrev sCount : Stmt := topS 4
abbrev sLetter : Stmt := topS 5
abbrev sLimit : Stmt := topS 10
abbrev sNumber : Stmt := topS 11
abbrev sLaw : Stmt := topS 12
theorem scInteger : FnScope ["value"] ["value"] (defScope sInteger) := ⟨rfl, rfl, rfl, by decide +kernel, rfl, by decide +kernel, by decide +kernel⟩
theorem scCount : FnScope ["value"] ["value"] (defScope sCount) := ⟨rfl, rfl, rfl, by decide +kernel, rfl, by decide +kernel, by decide +kernel⟩
theorem scLetter : FnScope ["value"] ["value"] (defScope sLetter) := ⟨rfl, rfl, rfl, by decide +kernel, rfl, by decide +kernel, by decide +kernel⟩
theorem scLimit : FnScope [] [] (defScope sLimit) := ⟨rfl, rfl, rfl, by decide +kernel, rfl, by decide +kernel, by decide +kernel⟩
theorem scNumber : FnScope ["dice", "near", "number"] ["dice"] (defScope sNumber) := ⟨rfl, rfl, rfl, by decide +kernel, rfl, by decide +kernel, by decide +kernel⟩
theorem scLaw : FnScope ["script", "signs", "spot", "dice", "turn", "number", "sign", "text", "is_short", "told", "odd"] ["script"] (defScope sLaw) := ⟨rfl, rfl, rfl, by decide +kernel, rfl, by decide +kernel, by decide +kernel⟩
/-- the least integer of more figures -/
def BND : Int := ((10 ^ 200 : Nat) : Int)
def isInt (i : Int) : Bool := decide (-BND < i) && decide (i < BND)
def isCnt (i : Int) : Bool := isInt i && decide (0 ≤ i)
def leS (x y : Str) : Bool := !decide (y.cps.toList < x.cps.toList)
def isLet (z : Str) : Bool := decide (z.length = 1) && (leS "a" z && leS z "z")
def spInteger (K : PySem.W.Frag) : Sp := fun vs H Q _ => ∃ v, vs = [v] ∧ ((∃ i, v = .int i ∧ Q (.bl (isInt i)) H) ∨ (∃ b, v = .bl b ∧ Q (.bl false) H) ∨
  ∃ t, TyX K H v (.type t) ∧ kitB t "int" = some false ∧ Q (.bl false) H)
def spCount (K : PySem.W.Frag) : Sp := fun vs H Q _ => ∃ v, vs = [v] ∧ ((∃ i, v = .int i ∧ Q (.bl (isCnt i)) H) ∨ (∃ b, v = .bl b ∧ Q (.bl false) H) ∨
  ∃ t, TyX K H v (.type t) ∧ kitB t "int" = some false ∧ Q (.bl false) H)
def spLetter (K : PySem.W.Frag) : Sp := fun vs H Q _ => ∃ v, vs = [v] ∧ ((∃ z b, v = .str z ∧ z.length ≤ sizeLine ∧ isLet z = b ∧ Q (.bl b) H) ∨
  ∃ t, TyX K H v (.type t) ∧ kitB t "str" = some false ∧ Q (.bl false) H)
def spLimit : Sp := fun vs H Q _ => vs = [] ∧ Q (.int BND) H
def spNumber : Sp := fun vs H Q _ => ∃ l, vs = [.ref l] ∧ Dice H l ∧ ∀ H' (n : Int), But l H H' → Dice H' l → n.natAbs < 10 ^ 231 → Q (.int n) H'
theorem limE : ((10 : Int) ^ (50 : Int).toNat) ^ (4 : Int).toNat = BND := by decide +kernel
section
variable {P : Program} {w : World} {K : PySem.W.Frag} {mg : Str → Option Value} {base : Heap}
theorem ok_integer {f : Addr} {fd : FuncData} {k : Nat} {tB : Tok} (F : Fun K "is_integer" "is_integer" sInteger f fd)
    (mi : mg "int" = none) (mb : mg "bool" = none) (ms : mg "isinstance" = none) (mB : mg "_BOUND" = some (.int BND tB)) :
    FnOk P w K mg base CX0 (k + 1) f fd ["value"] (spInteger K) := by
  refine F.ok scInteger (fun vs H Q E h => ?_) (fun cdv A outer s H vs Q E hr h => ?_)
  · obtain ⟨v, rfl, _⟩ := h
    rfl
  · obtain ⟨v, rfl, h⟩ := h
    refine ⟨_, pss_one (ps_ret (pe_and (pe_callB call_isi (by rfl) ms (by decide +kernel) (pa_cons (pv 0) (pa_cons (pe_bltn (v := .ty "int") (by rfl) mi (by decide +kernel) rfl) pa_nil)))
      (pe_and (pe_not (pe_callB call_isi (by rfl) ms (by decide +kernel) (pa_cons (pv 0) (pa_cons (pe_bltn (v := .ty "bool") (by rfl) mb (by decide +kernel) rfl) pa_nil))))
      (pe_one (pe_chain op_lt op_lt (pe_un un_neg (pe_glob (v := .int BND) (by rfl) mB ⟨_, rfl⟩)) (pv 0) (pe_glob (v := .int BND) (by rfl) mB ⟨_, rfl⟩)))))), ?_⟩
    rcases h with ⟨i, rfl, q⟩ | ⟨b, rfl, q⟩ | ⟨t, ty, kb, q⟩
    · refine ⟨_, rfl, _, _, _, _, true, rfl, .ty _, .base (.int i), kit_ty (by decide +kernel), true, rfl, iteT ?_⟩
      refine ⟨_, rfl, _, _, _, _, false, rfl, .ty _, .base (.int i), kit_ty (by decide +kernel), false, rfl, true, rfl, iteT ?_⟩
      refine ⟨_, rfl, _, rfl, _, _, rfl, rfl, _, rfl, ite2 (fun e => ?_) (fun e => ?_)⟩
      · refine ⟨_, _, rfl, rfl, ?_⟩
        have e' : isInt i = decide (i < BND) := by
          unfold isInt
          rw [e, Bool.true_and]
        rw [e'] at q
        exact q
      · have e' : isInt i = false := by
          unfold isInt
          rw [Bool.not_eq_true _ |>.mp e, Bool.false_and]
        rw [e'] at q
        exact q
    · refine ⟨_, rfl, _, _, _, _, true, rfl, .ty _, .base (.bl b), kit_ty (by decide +kernel), true, rfl, iteT ?_⟩
      exact ⟨_, rfl, _, _, _, _, true, rfl, .ty _, .base (.bl b), kit_ty (by decide +kernel), true, rfl, false, rfl, iteF q⟩
    · exact ⟨_, rfl, _, _, _, _, false, rfl, .ty _, ty, kit_ty kb, false, rfl, iteF q⟩
theorem ok_count {f fI : Addr} {fd fdI : FuncData} (F : Fun K "is_count" "is_count" sCount f fd) (bI : Binds K fdI ["value"] [])
    (GI : FnOk P w K mg base CX0 1 fI fdI ["value"] (spInteger K)) (gI : mg "is_integer" = some (.ref fI)) (kI : PySem.W.keepIn K (.ref fI) = true) :
    FnOk P w K mg base CX0 2 f fd ["value"] (spCount K) := by
  refine F.ok scCount (fun vs H Q E h => ?_) (fun cdv A outer s H vs Q E hr h => ?_)
  · obtain ⟨v, rfl, _⟩ := h
    rfl
  · obtain ⟨v, rfl, h⟩ := h
    refine ⟨_, pss_one (ps_ret (pe_and (pe_call GI hr (by rfl) gI kI bI .nil pass0 (pa_cons (pv 0) pa_nil))
      (pe_one (pe_cmpR op_ge (pv 0) pe_int (nomark _))))), ?_⟩
    rcases h with ⟨i, rfl, q⟩ | ⟨b, rfl, q⟩ | ⟨t, ty, kb, q⟩
    · refine ⟨_, rfl, _, rfl, .inl ⟨i, rfl, _, rfl, ite2 (fun e => ?_) (fun e => ?_)⟩⟩
      · have e' : isCnt i = decide (0 ≤ i) := by
          unfold isCnt
          rw [e, Bool.true_and]
        rw [e'] at q
        exact ⟨_, rfl, _, _, rfl, rfl, q⟩
      · have e' : isCnt i = false := by
          unfold isCnt
          rw [Bool.not_eq_true _ |>.mp e, Bool.false_and]
        rw [e'] at q
        exact q
    · exact ⟨_, rfl, _, rfl, .inr (.inl ⟨b, rfl, _, rfl, iteF q⟩)⟩
    · exact ⟨_, rfl, _, rfl, .inr (.inr ⟨t, ty, kb, _, rfl, iteF q⟩)⟩
theorem ok_letter {f : Addr} {fd : FuncData} {k : Nat} (F : Fun K "is_letter" "is_letter" sLetter f fd)
    (mstr : mg "str" = none) (ml : mg "len" = none) (ms : mg "isinstance" = none) :
    FnOk P w K mg base CX0 (k + 1) f fd ["value"] (spLetter K) := by
  refine F.ok scLetter (fun vs H Q E h => ?_) (fun cdv A outer s H vs Q E hr h => ?_)
  · obtain ⟨v, rfl, _⟩ := h
    rfl
  · obtain ⟨v, rfl, h⟩ := h
    refine ⟨_, pss_one (ps_ret (pe_and (pe_callB call_isi (by rfl) ms (by decide +kernel) (pa_cons (pv 0) (pa_cons (pe_bltn (v := .ty "str") (by rfl) mstr (by decide +kernel) rfl) pa_nil)))
      (pe_and (pe_cmpR op_eq (pe_callB call_len_str (by rfl) ml PySem.boot_len (pa_cons (pv 0) pa_nil)) pe_int (nomark _))
      (pe_one (pe_chain op_le_str op_le_str pe_str (pv 0) pe_str))))), ?_⟩
    rcases h with ⟨z, b, rfl, hz, rfl, q⟩ | ⟨t, ty, kb, q⟩
    · refine ⟨_, rfl, _, _, _, _, true, rfl, .ty _, .base (.str z), kit_ty (by decide +kernel), true, rfl, iteT ?_⟩
      refine ⟨_, rfl, z, rfl, hz, rfl, _, rfl, ite2 (fun e => ?_) (fun e => ?_)⟩
      · have e1 : ((z.length : Nat) : Int) = 1 := V.int.inj (of_decide_eq_true e)
        have e2 : isLet z = (leS "a" z && leS z "z") := by
          unfold isLet
          rw [decide_eq_true (by omega), Bool.true_and]
        refine ⟨_, rfl, _, _, rfl, rfl, _, rfl, ite2 (fun c => ?_) (fun c => ?_)⟩
        · refine ⟨_, _, rfl, rfl, ?_⟩
          rw [e2, show leS "a" z = true from c, Bool.true_and] at q
          exact q
        · rw [e2, show leS "a" z = false from Bool.not_eq_true _ |>.mp c, Bool.false_and] at q
          exact q
      · have e2 : isLet z = false := by
          unfold isLet
          rw [decide_eq_false (fun c => e (by rw [c]; rfl)), Bool.false_and]
        rw [e2] at q
        exact q
    · exact ⟨_, rfl, _, _, _, _, false, rfl, .ty _, ty, kit_ty kb, false, rfl, iteF q⟩
theorem ok_limit {f : Addr} {fd : FuncData} {k : Nat} (F : Fun K "_law_limit" "_law_limit" sLimit f fd) :
    FnOk P w K mg base CX0 (k + 1) f fd [] spLimit := by
  refine F.ok scLimit (fun vs H Q E h => ?_) (fun cdv A outer s H vs Q E hr h => ?_)
  · rw [h.1]
    rfl
  · obtain ⟨rfl, q⟩ := h
    refine ⟨_, pss_one (ps_ret (pe_op op_powW (pe_op op_pow pe_int pe_int) pe_int)), ?_⟩
    refine ⟨_, _, rfl, rfl, ⟨by decide, by decide, by decide⟩, _, _, rfl, rfl, ⟨by decide, by decide +kernel⟩, ?_⟩
    rw [← limE] at q
    exact q
theorem near_small : ∀ v ∈ [V.int 0, .int 1, .int 10, .int ((10 : Int) ^ (20 : Int).toNat), .int (BND / 10), .int BND, .int BND, .int (BND * (10 : Int) ^ (30 : Int).toNat)],
    ∃ i : Int, v = .int i ∧ i.natAbs ≤ 10 ^ 230 := by
  intro v hv
  simp only [List.mem_cons, List.not_mem_nil, or_false] at hv
  rcases hv with rfl | rfl | rfl | rfl | rfl | rfl | rfl | rfl
  all_goals exact ⟨_, rfl, by decide +kernel⟩
theorem num_bound {i r : Int} (h : i.natAbs ≤ 10 ^ 230) (r0 : 0 ≤ r) (r1 : r < 5) : (i + r - 2).natAbs < 10 ^ 231 ∧ (0 - (i + r - 2)).natAbs < 10 ^ 231 := by
  have e : 10 ^ 230 + 10 ≤ 10 ^ 231 := by decide +kernel
  generalize 10 ^ 230 = M at h e
  generalize 10 ^ 231 = N at e ⊢
  omega
theorem ok_number {f fL fP fR : Addr} {fd fdL fdP fdR : FuncData} (F : Fun K "_law_drawn_number" "_law_drawn_number" sNumber f fd)
    (bL : Binds K fdL [] []) (bP : Binds K fdP ["dice", "items"] []) (bR : Binds K fdR ["dice", "total"] [])
    (GL : FnOk P w K mg base CX0 1 fL fdL [] spLimit) (GP : FnOk P w K mg base CX0 2 fP fdP ["dice", "items"] (spPick K)) (GR : FnOk P w K mg base CX0 1 fR fdR ["dice", "total"] spRoll)
    (gL : mg "_law_limit" = some (.ref fL)) (gP : mg "_law_pick" = some (.ref fP)) (gR : mg "_law_roll" = some (.ref fR))
    (kL : PySem.W.keepIn K (.ref fL) = true) (kP : PySem.W.keepIn K (.ref fP) = true) (kR : PySem.W.keepIn K (.ref fR) = true) :
    FnOk P w K mg base CX0 3 f fd ["dice"] spNumber := by
  refine F.ok scNumber (fun vs H Q E h => ?_) (fun cdv A outer s H vs Q E hr h => ?_)
  · obtain ⟨l, rfl, _⟩ := h
    rfl
  · obtain ⟨l, rfl, hd, q⟩ := h
    have hr1 := hr.mono (show 1 ≤ 2 by decide)
    refine ⟨_, pss_cons (ps_set (i := 1) scNumber.nd rfl (.inl rfl) (pe_lst (pa_cons pe_int (pa_cons pe_int (pa_cons pe_int (pa_cons (pe_op op_pow pe_int pe_int)
        (pa_cons (pe_op op_fdiv (pe_call0 GL hr1 (by rfl) gL kL bL .nil pass0) pe_int) (pa_cons (pe_call0 GL hr1 (by rfl) gL kL bL .nil pass0) (pa_cons (pe_call0 GL hr1 (by rfl) gL kL bL .nil pass0)
        (pa_cons (pe_op op_mulW (pe_call0 GL hr1 (by rfl) gL kL bL .nil pass0) (pe_op op_pow pe_int pe_int)) pa_nil))))))))))
      (pss_cons (ps_set (i := 2) scNumber.nd rfl (.inl rfl) (pe_op op_sub (pe_op op_add (pe_call GP hr (by rfl) gP kP bP .nil pass0 (pa_cons (pv 0) (pa_cons (pv 1) pa_nil)))
        (pe_call GR hr1 (by rfl) gR kR bR .nil pass0 (pa_cons (pv 0) (pa_cons pe_int pa_nil)))) pe_int))
      (pss_one (ps_ret (pe_ifExp (pt_cmpR op_eq (pe_call GR hr1 (by rfl) gR kR bR .nil pass0 (pa_cons (pv 0) (pa_cons pe_int pa_nil))) pe_int (nomark _))
        (pe_op op_sub pe_int (pv 2)) (pv 2))))), ?_⟩
    refine ⟨_, _, rfl, rfl, ⟨by decide, by decide, by decide⟩, rfl, _, _, rfl, rfl, ⟨by decide, by decide⟩, rfl, rfl, rfl, _, _, rfl, rfl, ⟨by decide, by decide, by decide⟩, _, _, rfl, rfl, ?_⟩
    refine ⟨(by unfold CMulW; decide +kernel), (by show 8 ≤ sizeLine; decide), fun p np => ?_⟩
    refine ⟨_, rfl, _, rfl, l, p, _, rfl, hd.new np, (hd.ne np).symm, .inl (.of upd_same), by decide, by decide, fun H1 i v b1 d1 e1 => ?_⟩
    obtain ⟨z, rfl, hz⟩ := near_small v (List.mem_of_getElem? e1)
    refine ⟨_, rfl, l, 5, rfl, d1, by decide, by decide, fun H2 r b2 d2 r0 r1 => ?_⟩
    have bb := num_bound hz r0 r1
    refine ⟨_, _, rfl, rfl, _, _, rfl, rfl, ?_⟩
    have b12 : But l H H2 := (But.ofSame (sameUpd np)).trans (b1.trans b2)
    refine ⟨_, rfl, l, 2, rfl, d2, by decide, by decide, fun H3 r' b3 d3 _ _ => ⟨rfl, _, rfl, ite2 (fun e => ?_) (fun e => ?_)⟩⟩
    · exact ⟨_, rfl, _, _, rfl, rfl, q H3 _ (b12.trans b3) d3 bb.2⟩
    · exact ⟨_, rfl, q H3 _ (b12.trans b3) d3 bb.1⟩
/-! ### lengths of decimal texts -/
theorem short_iff (n : Int) : decide (((Str.ofString (toString (if n < 0 then -n else n))).length : Int) ≤ 200) = isInt n := by
  have key : (Str.ofString (toString (if n < 0 then -n else n))).length ≤ 200 ↔ n.natAbs < 10 ^ 200 := by
    have e : (if n < 0 then -n else n) = (n.natAbs : Int) := by
      split <;> omega
    rw [e]
    have e2 : toString ((n.natAbs : Nat) : Int) = Nat.repr n.natAbs := rfl
    rw [e2]
    have e3 : (Str.ofString (Nat.repr n.natAbs)).length = (Nat.repr n.natAbs).length := by
      rw [PyProof.Rows.ofString_length]
      first | rfl | simp
    rw [e3]
    exact Nat.length_repr_le_iff (by decide)
  unfold isInt BND
  have e1 : (((10 ^ 200 : Nat) : Int)) = ((10 ^ 200 : Nat) : Int) := rfl
  rw [← Bool.decide_and]
  apply decide_eq_decide.mpr
  generalize 10 ^ 200 = M at key ⊢
  omega
end
end K00

set_option maxHeartbeats 4000000
namespace K00
open PySem PySem.Spec PyProof.Rows L2 GG
abbrev SIGNS : Str := "abcdefghijklmnopqrstuvwxyzABMZ0159 _-.,+*{}[]@"
theorem ends_small : ∀ v ∈ [V.str "", .str "", .str "", .str "a", .str " ", .str "*"], ∃ z : Str, v = .str z ∧ z.length ≤ 1 := by
  intro v hv
  simp only [List.mem_cons, List.not_mem_nil, or_false] at hv
  rcases hv with rfl | rfl | rfl | rfl | rfl | rfl
  all_goals exact ⟨_, rfl, by decide⟩
theorem bools4 : ∀ b1 b2 b3 b4 : Bool, (PyData.list [.bool b1, .bool b2, .bool b3, .bool b4]).showable = true ∧ (PyData.list [.bool b1, .bool b2, .bool b3, .bool b4]).hasDict = false ∧
    (PyData.list [.bool b1, .bool b2, .bool b3, .bool b4]).depth ≤ 40 ∧ (PyData.list [.bool b1, .bool b2, .bool b3, .bool b4]).shown.length ≤ sizeLine := by decide +kernel
theorem dp4 {K : PySem.W.Frag} {H : Hp} {p : Addr} {b1 b2 b3 b4 : Bool} (h : H p = some (.lst [.bl b1, .bl b2, .bl b3, .bl b4])) :
    Dp K H (.ref p) (.list [.bool b1, .bool b2, .bool b3, .bool b4]) :=
  .lst (.of h) (.cons (.bl _) (.cons (.bl _) (.cons (.bl _) (.cons (.bl _) .nil))))
theorem dp3 {K : PySem.W.Frag} {H : Hp} {p : Addr} {b1 b2 b3 : Bool} (h : H p = some (.lst [.bl b1, .bl b2, .bl b3])) :
    Dp K H (.ref p) (.list [.bool b1, .bool b2, .bool b3]) :=
  .lst (.of h) (.cons (.bl _) (.cons (.bl _) (.cons (.bl _) .nil)))
/-- a value of another kind: no integer and no letter -/
def OddV (K : PySem.W.Frag) (H : Hp) (v : V) : Prop :=
  ((∃ b, v = .bl b) ∨ ∃ t, TyX K H v (.type t) ∧ kitB t "int" = some false) ∧
  ((∃ z, v = .str z ∧ z.length ≤ sizeLine ∧ isLet z = false) ∨ ∃ t, TyX K H v (.type t) ∧ kitB t "str" = some false)
theorem rng_b (L : Int) : -(2 ^ 62) ≤ (if (if L < 5 then L else 5) > 1 then (if L < 5 then L else 5) else 1) ∧ (if (if L < 5 then L else 5) > 1 then (if L < 5 then L else 5) else 1) < 2 ^ 62 ∧
    (if (if L < 5 then L else 5) > 1 then (if L < 5 then L else 5) else 1).toNat ≤ 5 := by
  refine ⟨?_, ?_, ?_⟩ <;> (repeat' split) <;> omega
theorem and2 {tb : TE} {σ : L2.St} {H : Hp} {Q : VK} {c d : Bool} (hb : c = true → ∀ Q' : VK, Q' (.bl d) H → tb σ H Q') (q : Q (.bl (c && d)) H) :
    if c = true then tb σ H Q else Q (.bl false) H := by
  cases c with
  | true => exact iteT (hb rfl Q q)
  | false => exact iteF q
theorem castQ {R : VK} {H : Hp} {a b : Bool} (e : a = b) (h : R (.bl b) H) : R (.bl a) H := by
  rw [e]
  exact h
theorem sameUpd2 {H : Hp} {p : Addr} {o o' : HO} (h : H p = none) : Same H (upd (upd H p o) p o') := by
  rw [upd_upd]
  exact sameUpd h
theorem iteN {b : Bool} {A B : Prop} (h : b = true) (x : B) : if (!b) = true then A else B := by
  subst h
  exact iteF x
theorem len1 (n : Nat) : decide (V.int (n : Int) = V.int 1) = decide (n = 1) := by
  apply decide_eq_decide.mpr
  constructor
  · intro e
    have := V.int.inj e
    omega
  · intro e
    rw [e]
    rfl
theorem abs_log {n : Int} (h : n.natAbs < 10 ^ 231) : (if n < 0 then -n else n).natAbs.log2 < 1920 := by
  have e : (if n < 0 then -n else n).natAbs = n.natAbs := by
    split <;> omega
  rw [e]
  exact PySem.Flt.log2_lt_of (by decide) (Nat.lt_trans h (by decide +kernel))
theorem odd_non {K : PySem.W.Frag} {H : Hp} : OddV K H .non := ⟨.inr ⟨_, .base .non, by decide +kernel⟩, .inr ⟨_, .base .non, by decide +kernel⟩⟩
theorem odd_bl {K : PySem.W.Frag} {H : Hp} (b : Bool) : OddV K H (.bl b) := ⟨.inl ⟨b, rfl⟩, .inr ⟨_, .base (.bl b), by decide +kernel⟩⟩
theorem odd_str {K : PySem.W.Frag} {H : Hp} {z : Str} (h1 : z.length ≤ sizeLine) (h2 : isLet z = false) : OddV K H (.str z) := ⟨.inr ⟨_, .base (.str z), by decide +kernel⟩, .inl ⟨z, rfl, h1, h2⟩⟩
theorem odd_tup {K : PySem.W.Frag} {H : Hp} {a : Addr} {xs : List V} (e : H a = some (.tup xs)) : OddV K H (.ref a) := ⟨.inr ⟨_, .base (.tup e), by decide +kernel⟩, .inr ⟨_, .base (.tup e), by decide +kernel⟩⟩
theorem odd_lst {K : PySem.W.Frag} {H : Hp} {a : Addr} {xs : List V} (e : H a = some (.lst xs)) : OddV K H (.ref a) := ⟨.inr ⟨_, .base (.lst e), by decide +kernel⟩, .inr ⟨_, .base (.lst e), by decide +kernel⟩⟩
theorem odd_dct {K : PySem.W.Frag} {H : Hp} {a : Addr} {kvs : List (Key × V)} (e : H a = some (.dK kvs)) : OddV K H (.ref a) := ⟨.inr ⟨_, .base (.dK e), by decide +kernel⟩, .inr ⟨_, .base (.dK e), by decide +kernel⟩⟩
theorem eqv3 : PyData.eqv (.list [.bool false, .bool false, .bool false]) (.list [.bool false, .bool false, .bool false]) = true := by decide +kernel
theorem eqvEnd : PyData.eqv (.list [.bool (isInt 0), .bool (isCnt 0), .bool (isCnt (0 - 1)), .int 200]) (.list [.bool true, .bool true, .bool false, .int 200]) = true := by decide +kernel
def spLaw (K : PySem.W.Frag) : Sp := fun vs H Q _ => ∃ (a : Addr) (ns : List Int), vs = [.ref a] ∧ SqL K H a (ns.map V.int) ∧ ns.length ≤ 63 ∧ ∀ H', Q (.bl true) H'
section
variable {P : Program} {w : World} {K : PySem.W.Frag} {mg : Str → Option Value} {base : Heap}
theorem ok_law {f fD fR fP fN fI fC fL : Addr} {fd fdD fdR fdP fdN fdI fdC fdL : FuncData} {tM : Tok} (F : Fun K "law" "law" sLaw f fd)
    (bD : Binds K fdD ["script", "spot"] []) (bR : Binds K fdR ["dice", "total"] []) (bP : Binds K fdP ["dice", "items"] []) (bN : Binds K fdN ["dice"] [])
    (bI : Binds K fdI ["value"] []) (bC : Binds K fdC ["value"] []) (bL : Binds K fdL ["value"] [])
    (GD : FnOk P w K mg base CX0 1 fD fdD ["script", "spot"] (spDice K)) (GR : FnOk P w K mg base CX0 1 fR fdR ["dice", "total"] spRoll)
    (GP : FnOk P w K mg base CX0 2 fP fdP ["dice", "items"] (spPick K)) (GN : FnOk P w K mg base CX0 3 fN fdN ["dice"] spNumber)
    (GI : FnOk P w K mg base CX0 1 fI fdI ["value"] (spInteger K)) (GC : FnOk P w K mg base CX0 2 fC fdC ["value"] (spCount K)) (GL : FnOk P w K mg base CX0 1 fL fdL ["value"] (spLetter K))
    (gD : mg "_law_dice" = some (.ref fD)) (gR : mg "_law_roll" = some (.ref fR)) (gP : mg "_law_pick" = some (.ref fP)) (gN : mg "_law_drawn_number" = some (.ref fN))
    (gI : mg "is_integer" = some (.ref fI)) (gC : mg "is_count" = some (.ref fC)) (gL : mg "is_letter" = some (.ref fL)) (gM : mg "MAX_FIGURES" = some (.int 200 tM))
    (kD : PySem.W.keepIn K (.ref fD) = true) (kR : PySem.W.keepIn K (.ref fR) = true) (kP : PySem.W.keepIn K (.ref fP) = true) (kN : PySem.W.keepIn K (.ref fN) = true)
    (kI : PySem.W.keepIn K (.ref fI) = true) (kC : PySem.W.keepIn K (.ref fC) = true) (kL : PySem.W.keepIn K (.ref fL) = true)
    (mr : mg "range" = none) (mx : mg "max" = none) (mn : mg "min" = none) (ml : mg "len" = none) (mstr : mg "str" = none) (ma : mg "abs" = none) (mp : mg "repr" = none) :
    FnG P w K mg base CX0 4 f fd ["script"] (spLaw K) := by
  refine fnG0 F scLaw (fun vs H Q E h => ?_) (fun cdv A outer s H vs Q E gd hr h => ?_)
  · obtain ⟨a, ns, rfl, _⟩ := h
    rfl
  · obtain ⟨a, ns, rfl, hS, hlen, q⟩ := h
    have hr1 := hr.mono (show 1 ≤ 3 by decide)
    have hr2 := hr.mono (show 2 ≤ 3 by decide)
    refine ⟨_, pss_cons (ps_set (i := 1) scLaw.nd rfl (.inl rfl) pe_str)
      (pss_cons (ps_for PassesOwn.never rfl (pi_range1 rfl mr (pa_cons (pe_callB (call_max2 rfl) (by rfl) mx (by decide +kernel) (pa_cons pe_int (pa_cons
          (pe_callB (call_min2 rfl) (by rfl) mn (by decide +kernel) (pa_cons pe_int (pa_cons (pe_callB call_len_seq (by rfl) ml PySem.boot_len (pa_cons (pv 0) pa_nil)) pa_nil))) pa_nil))) pa_nil))
          (pg_name (i := 2) scLaw.nd rfl (.inl rfl))
        (pss_cons (ps_set (i := 3) scLaw.nd rfl (.inl rfl) (pe_call GD hr1 (by rfl) gD kD bD .nil pass0 (pa_cons (pv 0) (pa_cons (pv 2) pa_nil))))
        (pss_cons (ps_for PassesOwn.never rfl (pi_range1 rfl mr (pa_cons pe_int pa_nil)) (pg_name (i := 4) scLaw.nd rfl (.inl rfl))
          (pss_cons (ps_par (i := 5) (j := 6) rfl scLaw.nd rfl rfl (by decide) rfl rfl (pa_cons (pe_call GN hr (by rfl) gN kN bN .nil pass0 (pa_cons (pv 3) pa_nil))
              (pa_cons (pe_ix ix_str (pv 1) (pe_call GR hr1 (by rfl) gR kR bR .nil pass0 (pa_cons (pv 3) (pa_cons (pe_callB call_len_str (by rfl) ml PySem.boot_len (pa_cons (pv 1) pa_nil)) pa_nil))) (fun _ _ => rfl)) pa_nil)) (by rfl))
          (pss_cons (ps_set (i := 7) scLaw.nd rfl (.inl rfl) (pe_op op_add_str (pv 6) (pe_call GP hr2 (by rfl) gP kP bP .nil pass0 (pa_cons (pv 3) (pa_cons
              (pe_lst (pa_cons pe_str (pa_cons pe_str (pa_cons pe_str (pa_cons pe_str (pa_cons pe_str (pa_cons pe_str pa_nil))))))) pa_nil)))))
          (pss_cons (ps_set (i := 8) scLaw.nd rfl (.inl rfl) (pe_cmpR op_le (pe_callB call_len_str (by rfl) ml PySem.boot_len (pa_cons (pe_callTy call_str_int (by rfl) mstr (by decide +kernel)
              (pa_cons (pe_callB call_abs (by rfl) ma (by decide +kernel) (pa_cons (pv 5) pa_nil)) pa_nil)) pa_nil)) pe_int (nomark _)))
          (pss_cons (ps_set (i := 9) scLaw.nd rfl (.inl rfl) (pe_lst (pa_cons (pe_call GI hr1 (by rfl) gI kI bI .nil pass0 (pa_cons (pv 5) pa_nil))
              (pa_cons (pe_call GC hr2 (by rfl) gC kC bC .nil pass0 (pa_cons (pv 5) pa_nil)) (pa_cons (pe_call GL hr1 (by rfl) gL kL bL .nil pass0 (pa_cons (pv 7) pa_nil))
              (pa_cons (pe_call GL hr1 (by rfl) gL kL bL .nil pass0 (pa_cons (pv 5) pa_nil)) pa_nil))))))
          (pss_one (ps_if (pt_cmpR op_ne (pe_callB (call_reprD gd hr) (by rfl) mp (by decide +kernel) (pa_cons (pv 9) pa_nil))
              (pe_callB (call_reprD gd hr) (by rfl) mp (by decide +kernel) (pa_cons (pe_lst (pa_cons (pv 8) (pa_cons (pe_and (pv 8) (pe_one (pe_cmpR op_ge (pv 5) pe_int (nomark _))))
                (pa_cons (pe_and (pe_cmpR op_eq (pe_callB call_len_str (by rfl) ml PySem.boot_len (pa_cons (pv 7) pa_nil)) pe_int (nomark _)) (pe_one (pe_chain op_le_str op_le_str pe_str (pv 7) pe_str)))
                (pa_cons pe_bl pa_nil))))) pa_nil)) (nomark _))
            (pss_one (ps_ret pe_bl)) pss_nil)))))))
        (pss_cons (ps_set (i := 10) scLaw.nd rfl (.inl rfl) (pe_call GP hr2 (by rfl) gP kP bP .nil pass0 (pa_cons (pv 3) (pa_cons
            (pe_lst (pa_cons pe_non (pa_cons pe_bl (pa_cons pe_bl (pa_cons pe_str (pa_cons (pe_tup pa_nil) (pa_cons (pe_tup (pa_cons pe_int pa_nil)) (pa_cons (pe_lst (pa_cons pe_int pa_nil))
              (pa_cons (pe_disp (pps_cons pe_int pe_int pps_nil) (by rfl) (by rfl) (fun z => by cases z) (by decide)) (pa_cons (pe_tup (pa_cons pe_str pa_nil)) (pa_cons (pe_lst (pa_cons pe_str pa_nil))
              (pa_cons pe_str (pa_cons pe_str (pa_cons (pe_disp (pps_cons pe_str pe_int pps_nil) (by rfl) (by rfl) (fun z => by cases z) (by decide)) (pa_cons pe_str pa_nil))))))))))))))) pa_nil))))
        (pss_one (ps_if (pt_cmpR (op_neD hr.units) (pe_lst (pa_cons (pe_call GI hr1 (by rfl) gI kI bI .nil pass0 (pa_cons (pv 10) pa_nil))
              (pa_cons (pe_call GC hr2 (by rfl) gC kC bC .nil pass0 (pa_cons (pv 10) pa_nil)) (pa_cons (pe_call GL hr1 (by rfl) gL kL bL .nil pass0 (pa_cons (pv 10) pa_nil)) pa_nil))))
            (pe_lst (pa_cons pe_bl (pa_cons pe_bl (pa_cons pe_bl pa_nil)))) (nomark _))
          (pss_one (ps_ret pe_bl)) pss_nil))))))
      (pss_one (ps_ret (pe_cmpR (op_eqD hr.units) (pe_lst (pa_cons (pe_call GI hr1 (by rfl) gI kI bI .nil pass0 (pa_cons pe_int pa_nil)) (pa_cons (pe_call GC hr2 (by rfl) gC kC bC .nil pass0 (pa_cons pe_int pa_nil))
          (pa_cons (pe_call GC hr2 (by rfl) gC kC bC .nil pass0 (pa_cons (pe_op op_sub pe_int pe_int) pa_nil)) (pa_cons (pe_glob (v := .int 200) (by rfl) gM ⟨_, rfl⟩) pa_nil)))))
          (pe_lst (pa_cons pe_bl (pa_cons pe_bl (pa_cons pe_bl (pa_cons pe_int pa_nil))))) (nomark _))))), ?_⟩
    have hM := rng_b (ns.map V.int).length
    refine ⟨.ref a, rfl, a, _, rfl, .inl hS, _, _, rfl, _, _, rfl, _, rfl, hM.1, hM.2.1, ?_⟩
    refine for_range (lo := 0) (fun i σ H1 => ∃ y2 y3 y4 y5 y6 y7 y8 y9 y10, σ = [some (.ref a), some (.str SIGNS), y2, y3, y4, y5, y6, y7, y8, y9, y10] ∧ SqL K H1 a (ns.map V.int))
      ⟨_, _, _, _, _, _, _, _, _, rfl, hS⟩ (fun i σ H1 hi hP => ?_) (fun σ H1 hP => ?_)
    · obtain ⟨y2, y3, y4, y5, y6, y7, y8, y9, y10, rfl, hS1⟩ := hP
      -- dice = _law_dice(script, spot)
      refine ⟨.ref a, rfl, _, rfl, a, ns, i, by rw [Int.zero_add]; rfl, hS1, by omega, fun H2 p s2' np d2 => ?_⟩
      -- for turn in range(4)
      refine ⟨4, rfl, by decide, by decide, ?_⟩
      refine for_range (lo := 0) (n := 4) (fun j σ H3 => ∃ y4 y5 y6 y7 y8 y9 y10, σ = [some (.ref a), some (.str SIGNS), some (.int (0 + i)), some (.ref p), y4, y5, y6, y7, y8, y9, y10] ∧ But p H2 H3 ∧ Dice H3 p)
        ⟨_, _, _, _, _, _, _, rfl, .refl, d2⟩ (fun j σ H3 hj hP => ?_) (fun σ H3 hP => ?_)
      · obtain ⟨y4, y5, y6, y7, y8, y9, y10, rfl, b3, d3⟩ := hP
        -- number, sign
        refine ⟨.ref p, rfl, p, rfl, d3, fun H4 n b4 d4 bn => ?_⟩
        refine ⟨.str SIGNS, rfl, .ref p, rfl, .str SIGNS, rfl, SIGNS, rfl, by decide, p, _, rfl, d4, by decide, by decide, fun H5 r b5 d5 r0 r1 => ?_⟩
        have hr5 : r.toNat < SIGNS.cps.toList.length := by
          have e : SIGNS.cps.toList.length = SIGNS.length := by decide
          omega
        have hc : atI SIGNS.cps.toList r = some SIGNS.cps.toList[r.toNat] := by
          have := atI_nat (List.getElem?_eq_getElem hr5)
          rwa [show ((r.toNat : Nat) : Int) = r by omega] at this
        refine ⟨SIGNS, r, _, rfl, rfl, by decide, hc, _, _, rfl, ?_⟩
        generalize SIGNS.cps.toList[r.toNat] = c
        -- text
        refine ⟨_, rfl, .ref p, rfl, (by show 6 ≤ sizeLine; decide), fun l6 n6 => ?_⟩
        refine ⟨p, l6, _, rfl, d5.new n6, (d5.ne n6).symm, .inl (.of upd_same), by decide, by decide, fun H6 i6 v6 b6 d6 e6 => ?_⟩
        obtain ⟨z, rfl, hz⟩ := ends_small v6 (List.mem_of_getElem? e6)
        have hs1 : (⟨#[c]⟩ : Str).length = 1 := rfl
        have hs : (1 : Nat) + 1 ≤ sizeLine := by decide
        refine ⟨_, _, rfl, rfl, by omega, ?_⟩
        have hz2 : ((⟨#[c]⟩ : Str) ++ z).length ≤ sizeLine := by
          rw [strLen_append]
          omega
        generalize (⟨#[c]⟩ : Str) ++ z = text at hz2
        -- is_short
        have hl := abs_log bn
        refine ⟨_, rfl, _, rfl, _, rfl, hl, _, rfl, int_text_fits hl, _, _, rfl, rfl, ?_⟩
        simp only [short_iff n]
        -- told
        refine ⟨_, rfl, _, rfl, .inl ⟨n, rfl, ?_⟩⟩
        refine ⟨_, rfl, _, rfl, .inl ⟨n, rfl, ?_⟩⟩
        refine ⟨_, rfl, _, rfl, .inl ⟨text, _, rfl, hz2, rfl, ?_⟩⟩
        refine ⟨_, rfl, _, rfl, .inr ⟨"int", .base (.int n), by decide +kernel, (by show 4 ≤ sizeLine; decide), fun t4 n4 => ?_⟩⟩
        -- repr(told) != repr([..])
        refine ⟨.ref t4, rfl, _, _, rfl, dp4 upd_same, bools4 _ _ _ _, ?_⟩
        refine ⟨_, rfl, _, rfl, _, rfl, and2 (d := decide (0 ≤ n)) (fun _ Q' z => ⟨_, rfl, _, _, rfl, rfl, z⟩) ?_⟩
        refine ⟨_, rfl, _, rfl, hz2, rfl, _, rfl, and2 (d := leS "a" text && leS text "z") (fun _ Q' z => ?_) ?_⟩
        · exact ⟨_, rfl, _, _, rfl, rfl, _, rfl, ite2 (fun e => ⟨_, _, rfl, rfl, by
              rw [show leS "a" text = true from e, Bool.true_and] at z
              exact z⟩) (fun e => by
              rw [show leS "a" text = false from Bool.not_eq_true _ |>.mp e, Bool.false_and] at z
              exact z)⟩
        · refine ⟨(by show 4 ≤ sizeLine; decide), fun u4 m4 => ?_⟩
          refine ⟨_, _, rfl, dp4 upd_same, bools4 _ _ _ _, rfl, _, rfl, iteNS ?_ ?_⟩
          · rw [len1]
            rfl
          · refine ⟨_, _, _, _, _, _, _, rfl, ?_, ?_⟩
            · exact (((b3.trans (b4.trans b5)).new n6).trans b6).new n4 |>.new m4
            · exact (d6.new n4).new m4
      · obtain ⟨y4, y5, y6, y7, y8, y9, y10, rfl, b3, d3⟩ := hP
        -- odd
        refine ⟨.ref p, rfl, by decide, fun a1 n1 => ?_⟩
        refine ⟨by decide, fun a2 n2 => ?_⟩
        refine ⟨by decide, fun a3 n3 => ?_⟩
        refine fun a4 n4 => ⟨upd_same, [(.inl 7, .int 7)], rfl, by decide, ?_⟩
        refine ⟨by decide, fun a5 n5 => ?_⟩
        refine ⟨by decide, fun a6 n6 => ?_⟩
        refine fun a7 n7 => ⟨upd_same, [(.inr "a", .int 1)], rfl, by decide, ?_⟩
        refine ⟨(by show 14 ≤ sizeLine; decide), fun a8 n8 => ?_⟩
        have s1 := sameUpd (o := .tup []) n1
        have s2 := sameUpd (o := .tup [.int 7]) n2
        have s3 := sameUpd (o := .lst [.int 7]) n3
        have s4 := sameUpd2 (o := .dK []) (o' := .dK (mergeK [] [(.inl 7, .int 7)])) n4
        have s5 := sameUpd (o := .tup [.str "a"]) n5
        have s6 := sameUpd (o := .lst [.str "a"]) n6
        have s7 := sameUpd2 (o := .dK []) (o' := .dK (mergeK [] [(.inr "a", .int 1)])) n7
        have s8 := sameUpd (o := .lst [.non, .bl true, .bl false, .str "7", .ref a1, .ref a2, .ref a3, .ref a4, .ref a5, .ref a6, .str "", .str "ab", .ref a7, .str "\n"]) n8
        have t7 := s7.trans s8
        have t6 := s6.trans t7
        have t5 := s5.trans t6
        have t4 := s4.trans t5
        have t3 := s3.trans t4
        have t2 := s2.trans t3
        have t1 := s1.trans t2
        have p1 := (d3.ne n1).symm
        have q1 := d3.same s1
        have p2 := (q1.ne n2).symm
        have q2 := q1.same s2
        have p3 := (q2.ne n3).symm
        have q3 := q2.same s3
        have p4 := (q3.ne n4).symm
        have q4 := q3.same s4
        have p5 := (q4.ne n5).symm
        have q5 := q4.same s5
        have p6 := (q5.ne n6).symm
        have q6 := q5.same s6
        have p7 := (q6.ne n7).symm
        have q7 := q6.same s7
        have p8 := (q7.ne n8).symm
        have f1 := t2 _ _ (upd_same (o := .tup []))
        have f2 := t3 _ _ (upd_same (o := .tup [.int 7]))
        have f3 := t4 _ _ (upd_same (o := .lst [.int 7]))
        have f4 := t5 _ _ (upd_same (o := .dK (mergeK [] [(.inl 7, .int 7)])))
        have f5 := t6 _ _ (upd_same (o := .tup [.str "a"]))
        have f6 := t7 _ _ (upd_same (o := .lst [.str "a"]))
        have f7 := s8 _ _ (upd_same (o := .dK (mergeK [] [(.inr "a", .int 1)])))
        refine ⟨p, a8, _, rfl, q7.same s8, p8, .inl (.of upd_same), Nat.zero_lt_succ _, (by show 14 ≤ 1000; decide), fun H9 i9 v9 b9 d9 e9 => ?_⟩
        have ov : OddV K H9 v9 := by
          have m9 := List.mem_of_getElem? e9
          simp only [List.mem_cons, List.not_mem_nil, or_false] at m9
          rcases m9 with rfl | rfl | rfl | rfl | rfl | rfl | rfl | rfl | rfl | rfl | rfl | rfl | rfl | rfl
          · exact odd_non
          · exact odd_bl _
          · exact odd_bl _
          · exact odd_str (by decide) (by decide)
          · exact odd_tup (b9 _ _ p1 f1)
          · exact odd_tup (b9 _ _ p2 f2)
          · exact odd_lst (b9 _ _ p3 f3)
          · exact odd_dct (b9 _ _ p4 f4)
          · exact odd_tup (b9 _ _ p5 f5)
          · exact odd_lst (b9 _ _ p6 f6)
          · exact odd_str (by decide) (by decide)
          · exact odd_str (by decide) (by decide)
          · exact odd_dct (b9 _ _ p7 f7)
          · exact odd_str (by decide) (by decide)
        have all : Same H1 H9 := fun b o e => by
          have nb : b ≠ p := ne_of_none e np
          exact b9 b o nb (t1 b o (b3 b o nb (s2' b o e)))
        obtain ⟨o1, o2⟩ := ov
        rcases o1 with ⟨b, rfl⟩ | ⟨t, ty, kb⟩ <;> rcases o2 with ⟨z, ez, hz, lz⟩ | ⟨t', ty', kb'⟩
        · cases ez
        all_goals
          refine ⟨_, rfl, _, rfl, ?_⟩
          first
            | refine .inr (.inl ⟨_, rfl, ?_⟩)
            | refine .inr (.inr ⟨_, ty, kb, ?_⟩)
          refine ⟨_, rfl, _, rfl, ?_⟩
          first
            | refine .inr (.inl ⟨_, rfl, ?_⟩)
            | refine .inr (.inr ⟨_, ty, kb, ?_⟩)
          refine ⟨_, rfl, _, rfl, ?_⟩
          first
            | refine .inl ⟨_, false, ez, hz, lz, ?_⟩
            | refine .inr ⟨_, ty', kb', ?_⟩
          refine ⟨(by show 3 ≤ sizeLine; decide), fun l1 m1 => ⟨(by show 3 ≤ sizeLine; decide), fun l2 m2 => ?_⟩⟩
          have x1 : (upd (upd H9 l1 (.lst [.bl false, .bl false, .bl false])) l2 (.lst [.bl false, .bl false, .bl false])) l1 = some (.lst [.bl false, .bl false, .bl false]) := by
            rw [upd_ne (ne_of_none upd_same m2), upd_same]
          refine ⟨_, _, dp3 x1, dp3 upd_same, rfl, rfl, _, rfl, iteN eqv3 ?_⟩
          exact ⟨_, _, _, _, _, _, _, _, _, rfl, (all.trans ((sameUpd m1).trans (sameUpd m2))).seq hS1⟩
    · obtain ⟨y2, y3, y4, y5, y6, y7, y8, y9, y10, rfl, hS1⟩ := hP
      refine ⟨_, rfl, .inl ⟨0, rfl, ?_⟩⟩
      refine ⟨_, rfl, .inl ⟨0, rfl, ?_⟩⟩
      refine ⟨_, _, rfl, rfl, _, rfl, .inl ⟨_, rfl, ?_⟩⟩
      refine ⟨(by show 4 ≤ sizeLine; decide), fun l1 m1 => ⟨(by show 4 ≤ sizeLine; decide), fun l2 m2 => ?_⟩⟩
      have e1 : (upd (upd H1 l1 (.lst [.bl (isInt 0), .bl (isCnt 0), .bl (isCnt (0 - 1)), .int 200])) l2 (.lst [.bl true, .bl true, .bl false, .int 200])) l1 = some (.lst [.bl (isInt 0), .bl (isCnt 0), .bl (isCnt (0 - 1)), .int 200]) := by
        rw [upd_ne (ne_of_none upd_same m2), upd_same]
      refine ⟨_, _, .lst (.of e1) (.cons (.bl _) (.cons (.bl _) (.cons (.bl _) (.cons (.int _) .nil)))), .lst (.of upd_same) (.cons (.bl _) (.cons (.bl _) (.cons (.bl _) (.cons (.int _) .nil)))), rfl, rfl, ?_⟩
      rw [eqvEnd]
      exact q _
end
end K00


set_option maxHeartbeats 4000000
namespace K00
open PySem PySem.Spec PyProof.Rows L2 GG
theorem all_mk {l : PySem.W.OpenLaw} {w : World} {K : PySem.W.Frag} {h : Heap} {mg : Str → Option Value} {f_is_integer f_is_count f_is_letter f__law_dice f__law_roll f__law_pick f__law_limit f__law_drawn_number f_law fa : Addr}
    (X : K.In h) (G : h.Ns mainGlobals mg) (hfa : mg "law" = some (.ref fa))
    {od0 an0 : Option Addr} {sl0 : Array (Option Value)} {oc0 kV0 dc0 pm0 cd0 ct0 : Value}
    (a0 : PySem.W.nsIn K mainGlobals "is_integer" = some (some (.ref f_is_integer)))
    (l0 : K.lookup f_is_integer = some ⟨oc0, od0, .func (PySem.W.fnOf "is_integer" "is_integer" (defArgs sInteger) (defBody sInteger) (defScope sInteger) .none kV0 dc0 pm0 an0 cd0 ct0), sl0⟩)
    (c0 : PySem.W.codeIn K cd0 "is_integer" = true) (k0 : PySem.W.keepIn K (.ref f_is_integer) = true)
    {od1 an1 : Option Addr} {sl1 : Array (Option Value)} {oc1 kV1 dc1 pm1 cd1 ct1 : Value}
    (a1 : PySem.W.nsIn K mainGlobals "is_count" = some (some (.ref f_is_count)))
    (l1 : K.lookup f_is_count = some ⟨oc1, od1, .func (PySem.W.fnOf "is_count" "is_count" (defArgs sCount) (defBody sCount) (defScope sCount) .none kV1 dc1 pm1 an1 cd1 ct1), sl1⟩)
    (c1 : PySem.W.codeIn K cd1 "is_count" = true) (k1 : PySem.W.keepIn K (.ref f_is_count) = true)
    {od2 an2 : Option Addr} {sl2 : Array (Option Value)} {oc2 kV2 dc2 pm2 cd2 ct2 : Value}
    (a2 : PySem.W.nsIn K mainGlobals "is_letter" = some (some (.ref f_is_letter)))
    (l2 : K.lookup f_is_letter = some ⟨oc2, od2, .func (PySem.W.fnOf "is_letter" "is_letter" (defArgs sLetter) (defBody sLetter) (defScope sLetter) .none kV2 dc2 pm2 an2 cd2 ct2), sl2⟩)
    (c2 : PySem.W.codeIn K cd2 "is_letter" = true) (k2 : PySem.W.keepIn K (.ref f_is_letter) = true)
    {od3 an3 : Option Addr} {sl3 : Array (Option Value)} {oc3 kV3 dc3 pm3 cd3 ct3 : Value}
    (a3 : PySem.W.nsIn K mainGlobals "_law_dice" = some (some (.ref f__law_dice)))
    (l3 : K.lookup f__law_dice = some ⟨oc3, od3, .func (PySem.W.fnOf "_law_dice" "_law_dice" (defArgs sDice) (defBody sDice) (defScope sDice) .none kV3 dc3 pm3 an3 cd3 ct3), sl3⟩)
    (c3 : PySem.W.codeIn K cd3 "_law_dice" = true) (k3 : PySem.W.keepIn K (.ref f__law_dice) = true)
    {od4 an4 : Option Addr} {sl4 : Array (Option Value)} {oc4 kV4 dc4 pm4 cd4 ct4 : Value}
    (a4 : PySem.W.nsIn K mainGlobals "_law_roll" = some (some (.ref f__law_roll)))
    (l4 : K.lookup f__law_roll = some ⟨oc4, od4, .func (PySem.W.fnOf "_law_roll" "_law_roll" (defArgs sRoll) (defBody sRoll) (defScope sRoll) .none kV4 dc4 pm4 an4 cd4 ct4), sl4⟩)
    (c4 : PySem.W.codeIn K cd4 "_law_roll" = true) (k4 : PySem.W.keepIn K (.ref f__law_roll) = true)
    {od5 an5 : Option Addr} {sl5 : Array (Option Value)} {oc5 kV5 dc5 pm5 cd5 ct5 : Value}
    (a5 : PySem.W.nsIn K mainGlobals "_law_pick" = some (some (.ref f__law_pick)))
    (l5 : K.lookup f__law_pick = some ⟨oc5, od5, .func (PySem.W.fnOf "_law_pick" "_law_pick" (defArgs sPick) (defBody sPick) (defScope sPick) .none kV5 dc5 pm5 an5 cd5 ct5), sl5⟩)
    (c5 : PySem.W.codeIn K cd5 "_law_pick" = true) (k5 : PySem.W.keepIn K (.ref f__law_pick) = true)
    {od6 an6 : Option Addr} {sl6 : Array (Option Value)} {oc6 kV6 dc6 pm6 cd6 ct6 : Value}
    (a6 : PySem.W.nsIn K mainGlobals "_law_limit" = some (some (.ref f__law_limit)))
    (l6 : K.lookup f__law_limit = some ⟨oc6, od6, .func (PySem.W.fnOf "_law_limit" "_law_limit" (defArgs sLimit) (defBody sLimit) (defScope sLimit) .none kV6 dc6 pm6 an6 cd6 ct6), sl6⟩)
    (c6 : PySem.W.codeIn K cd6 "_law_limit" = true) (k6 : PySem.W.keepIn K (.ref f__law_limit) = true)
    {od7 an7 : Option Addr} {sl7 : Array (Option Value)} {oc7 kV7 dc7 pm7 cd7 ct7 : Value}
    (a7 : PySem.W.nsIn K mainGlobals "_law_drawn_number" = some (some (.ref f__law_drawn_number)))
    (l7 : K.lookup f__law_drawn_number = some ⟨oc7, od7, .func (PySem.W.fnOf "_law_drawn_number" "_law_drawn_number" (defArgs sNumber) (defBody sNumber) (defScope sNumber) .none kV7 dc7 pm7 an7 cd7 ct7), sl7⟩)
    (c7 : PySem.W.codeIn K cd7 "_law_drawn_number" = true) (k7 : PySem.W.keepIn K (.ref f__law_drawn_number) = true)
    {od8 an8 : Option Addr} {sl8 : Array (Option Value)} {oc8 kV8 dc8 pm8 cd8 ct8 : Value}
    (a8 : PySem.W.nsIn K mainGlobals "law" = some (some (.ref f_law)))
    (l8 : K.lookup f_law = some ⟨oc8, od8, .func (PySem.W.fnOf "law" "law" (defArgs sLaw) (defBody sLaw) (defScope sLaw) .none kV8 dc8 pm8 an8 cd8 ct8), sl8⟩)
    (c8 : PySem.W.codeIn K cd8 "law" = true) (k8 : PySem.W.keepIn K (.ref f_law) = true)
    (z_isinstance : PySem.W.nsIn K mainGlobals "isinstance" = some none)
    (z_int : PySem.W.nsIn K mainGlobals "int" = some none)
    (z_bool : PySem.W.nsIn K mainGlobals "bool" = some none)
    (z_str : PySem.W.nsIn K mainGlobals "str" = some none)
    (z_len : PySem.W.nsIn K mainGlobals "len" = some none)
    (z_max : PySem.W.nsIn K mainGlobals "max" = some none)
    (z_min : PySem.W.nsIn K mainGlobals "min" = some none)
    (z_abs : PySem.W.nsIn K mainGlobals "abs" = some none)
    (z_range : PySem.W.nsIn K mainGlobals "range" = some none)
    (z_repr : PySem.W.nsIn K mainGlobals "repr" = some none)
    {t_BOUND : Tok} (y_BOUND : PySem.W.nsIn K mainGlobals "_BOUND" = some (some (.int BND t_BOUND)))
    {tMAX_FIGURES : Tok} (yMAX_FIGURES : PySem.W.nsIn K mainGlobals "MAX_FIGURES" = some (some (.int 200 tMAX_FIGURES)))
    : ∃ fd : FuncData, (∀ (s : Shared) (v : Value), BindsTo s fd ⟨[v], []⟩ [("script", v)]) ∧ ∀ base : Heap, K.In base → base.Ns mainGlobals mg →
      FnG l.prog w K mg base CX0 4 fa fd ["script"] (spLaw K) := by
  have e := hfa.symm.trans (PySem.W.mg_of X G a8)
  cases e
  have F_is_integer := fun_mk (st := sInteger) l0 c0 k0
  have b_is_integer := F_is_integer.binds (ps := ["value"]) fun _ _ _ _ _ _ us hl => match us, hl with | [_], _ => rfl
  have g_is_integer := PySem.W.mg_of X G a0
  have q_is_integer := F_is_integer.kp
  have F_is_count := fun_mk (st := sCount) l1 c1 k1
  have b_is_count := F_is_count.binds (ps := ["value"]) fun _ _ _ _ _ _ us hl => match us, hl with | [_], _ => rfl
  have g_is_count := PySem.W.mg_of X G a1
  have q_is_count := F_is_count.kp
  have F_is_letter := fun_mk (st := sLetter) l2 c2 k2
  have b_is_letter := F_is_letter.binds (ps := ["value"]) fun _ _ _ _ _ _ us hl => match us, hl with | [_], _ => rfl
  have g_is_letter := PySem.W.mg_of X G a2
  have q_is_letter := F_is_letter.kp
  have F__law_dice := fun_mk (st := sDice) l3 c3 k3
  have b__law_dice := F__law_dice.binds (ps := ["script", "spot"]) fun _ _ _ _ _ _ us hl => match us, hl with | [_, _], _ => rfl
  have g__law_dice := PySem.W.mg_of X G a3
  have q__law_dice := F__law_dice.kp
  have F__law_roll := fun_mk (st := sRoll) l4 c4 k4
  have b__law_roll := F__law_roll.binds (ps := ["dice", "total"]) fun _ _ _ _ _ _ us hl => match us, hl with | [_, _], _ => rfl
  have g__law_roll := PySem.W.mg_of X G a4
  have q__law_roll := F__law_roll.kp
  have F__law_pick := fun_mk (st := sPick) l5 c5 k5
  have b__law_pick := F__law_pick.binds (ps := ["dice", "items"]) fun _ _ _ _ _ _ us hl => match us, hl with | [_, _], _ => rfl
  have g__law_pick := PySem.W.mg_of X G a5
  have q__law_pick := F__law_pick.kp
  have F__law_limit := fun_mk (st := sLimit) l6 c6 k6
  have b__law_limit := F__law_limit.binds (ps := []) fun _ _ _ _ _ _ us hl => match us, hl with | [], _ => rfl
  have g__law_limit := PySem.W.mg_of X G a6
  have q__law_limit := F__law_limit.kp
  have F__law_drawn_number := fun_mk (st := sNumber) l7 c7 k7
  have b__law_drawn_number := F__law_drawn_number.binds (ps := ["dice"]) fun _ _ _ _ _ _ us hl => match us, hl with | [_], _ => rfl
  have g__law_drawn_number := PySem.W.mg_of X G a7
  have q__law_drawn_number := F__law_drawn_number.kp
  have F_law := fun_mk (st := sLaw) l8 c8 k8
  have m_isinstance := PySem.W.mg_none_of X G z_isinstance
  have m_int := PySem.W.mg_none_of X G z_int
  have m_bool := PySem.W.mg_none_of X G z_bool
  have m_str := PySem.W.mg_none_of X G z_str
  have m_len := PySem.W.mg_none_of X G z_len
  have m_max := PySem.W.mg_none_of X G z_max
  have m_min := PySem.W.mg_none_of X G z_min
  have m_abs := PySem.W.mg_none_of X G z_abs
  have m_range := PySem.W.mg_none_of X G z_range
  have m_repr := PySem.W.mg_none_of X G z_repr
  have m_BOUND := PySem.W.mg_of X G y_BOUND
  have mMAX_FIGURES := PySem.W.mg_of X G yMAX_FIGURES
  refine ⟨PySem.W.fnOf "law" "law" (defArgs sLaw) (defBody sLaw) (defScope sLaw) .none kV8 dc8 pm8 an8 cd8 ct8, fun s v => .of_eq rfl, fun base _ _ => ?_⟩
  have GD : FnOk l.prog w K mg base CX0 1 _ _ ["script", "spot"] (spDice K) := ok_dice F__law_dice m_len m_int m_max m_abs
  have GR : FnOk l.prog w K mg base CX0 1 _ _ ["dice", "total"] spRoll := ok_roll F__law_roll m_int
  have GP : FnOk l.prog w K mg base CX0 2 _ _ ["dice", "items"] (spPick K) := ok_pick F__law_pick F__law_roll b__law_roll g__law_roll m_len m_int
  have GL : FnOk l.prog w K mg base CX0 1 _ _ [] spLimit := ok_limit F__law_limit
  have GN : FnOk l.prog w K mg base CX0 3 _ _ ["dice"] spNumber := ok_number F__law_drawn_number b__law_limit b__law_pick b__law_roll GL GP GR g__law_limit g__law_pick g__law_roll q__law_limit q__law_pick q__law_roll
  have GI : FnOk l.prog w K mg base CX0 1 _ _ ["value"] (spInteger K) := ok_integer F_is_integer m_int m_bool m_isinstance m_BOUND
  have GC : FnOk l.prog w K mg base CX0 2 _ _ ["value"] (spCount K) := ok_count F_is_count b_is_integer GI g_is_integer q_is_integer
  have GT : FnOk l.prog w K mg base CX0 1 _ _ ["value"] (spLetter K) := ok_letter F_is_letter m_str m_len m_isinstance
  exact ok_law F_law b__law_dice b__law_roll b__law_pick b__law_drawn_number b_is_integer b_is_count b_is_letter GD GR GP GN GI GC GT g__law_dice g__law_roll g__law_pick g__law_drawn_number g_is_integer g_is_count g_is_letter mMAX_FIGURES q__law_dice q__law_roll q__law_pick q__law_drawn_number q_is_integer q_is_count q_is_letter m_range m_max m_min m_len m_str m_abs m_repr
end K00
open PySem PySem.W PyProof.Rows
set_option maxHeartbeats 0 in
theorem PySem.Challenge.cw_onebetween_k00_integers_and_letters_holds : PySem.Challenge.rw_onebetween_k00_integers_and_letters.Holds := by
  w_on; o_law; k_head; (case hw => w_witness2)
  k_fill
  refine GG.walkG (l := PySem.Challenge.rw_onebetween_k00_integers_and_letters) (n := 63) (k := 4) (x := "script") (CX := fun _ => L2.CX0) (sp := fun w => K00.spLaw _) rfl (by decide) rfl ⟨rfl, by decide, by decide⟩ (fun w h Y => PySem.W.kIn_of Y) ?F (fun _ _ a ns hl _ hS => ⟨a, ns, rfl, hS, hl, fun _ => rfl⟩) (fun _ _ _ _ _ h => h)
  case F =>
    intro w mg fa h KX G hmg
    refine' K00.all_mk KX G hmg ?a0 ?l0 ?c0 ?k0 ?a1 ?l1 ?c1 ?k1 ?a2 ?l2 ?c2 ?k2 ?a3 ?l3 ?c3 ?k3 ?a4 ?l4 ?c4 ?k4 ?a5 ?l5 ?c5 ?k5 ?a6 ?l6 ?c6 ?k6 ?a7 ?l7 ?c7 ?k7 ?a8 ?l8 ?c8 ?k8 ?z_isinstance ?z_int ?z_bool ?z_str ?z_len ?z_max ?z_min ?z_abs ?z_range ?z_repr ?y_BOUND ?yMAX_FIGURES
    (case a0 => k_is); (case l0 => k_is); (case c0 => k_is); (case k0 => k_is); (case a1 => k_is); (case l1 => k_is); (case c1 => k_is); (case k1 => k_is); (case a2 => k_is); (case l2 => k_is); (case c2 => k_is); (case k2 => k_is); (case a3 => k_is); (case l3 => k_is); (case c3 => k_is); (case k3 => k_is); (case a4 => k_is); (case l4 => k_is); (case c4 => k_is); (case k4 => k_is); (case a5 => k_is); (case l5 => k_is); (case c5 => k_is); (case k5 => k_is); (case a6 => k_is); (case l6 => k_is); (case c6 => k_is); (case k6 => k_is); (case a7 => k_is); (case l7 => k_is); (case c7 => k_is); (case k7 => k_is); (case a8 => k_is); (case l8 => k_is); (case c8 => k_is); (case k8 => k_is); (case z_isinstance => k_is); (case z_int => k_is); (case z_bool => k_is); (case z_str => k_is); (case z_len => k_is); (case z_max => k_is); (case z_min => k_is); (case z_abs => k_is); (case z_range => k_is); (case z_repr => k_is); (case y_BOUND => k_is); (case yMAX_FIGURES => k_is)
