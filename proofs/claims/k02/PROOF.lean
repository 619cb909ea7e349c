import PyProof.Rows.All
import Wide.All
import OpenK.AllK
import Wide.FinOn
import HandS.ForMost
import HandS.IsInst
import HandS.Wide
import PyProof.ReprRoads
import HandS.ForExc
import HandS.TryMany
import HandS.ExcField
import KE.KExcInit
import HandS.Lambda
import HandS.EndTab
import KE.GoesEnum
import HandS.Iter
import HandS.Walk
import HandS.RevRange
import HandS.WideBits
import HandS.Style
import HandS.TupMul
import HandS.Conv
import PyProof.ReprLen
import HandS.ExcIs
import PySem.Challenge.RW_onebetween_k02_whole_powers_and_figures
set_option Elab.async false
set_option linter.all false
set_option maxRecDepth 100000
set_option maxHeartbeats 4000000
namespace GG
open PySem PySem.Spec PyProof.Rows L2

/-! ### promises that are kept where no repr is under way -/
structure FnG (P : Program) (w : World) (K : PySem.W.Frag) (mg : Str → Option Value) (base : Heap) (CX : CXT) (k : Nat)
    (f : Addr) (fd : FuncData) (ps : List Str) (sp : Sp) : Prop where
  lens : ∀ vs H Q E, sp vs H Q E → vs.length = ps.length
  go : ∀ (A : Around) (outer : List Env) (s : Shared) (H : Hp) (ar : Args) (us : List Value) (vs : List V) (Q : VK) (E : XK),
    A.guards = some [] → Room k A → Env0 P w K mg base A outer s H → BindsTo s fd ar (ps.zip us) → Vals vs us →
    sp vs H Q E → codeAny (model P w) A (.call (.ref f) ar) (CR CX outer P w H s Q E) s

section
variable {P : Program} {w : World} {K : PySem.W.Frag} {mg : Str → Option Value} {base : Heap} {CX : CXT} {k : Nat}
  {f : Addr} {fd : FuncData} {ps : List Str} {sp : Sp}
theorem FnG.ofOk (F : FnOk P w K mg base CX k f fd ps sp) : FnG P w K mg base CX k f fd ps sp :=
  ⟨F.len, fun A o s H ar us vs Q E _ hr => F.run A o s H ar us vs Q E hr⟩

theorem fnG_lk {x qual : Str} {st : Stmt} {N : List Str} {oc : Value} {od an : Option Addr} {osl : Array (Option Value)} {kV doc pm cdv ct : Value}
    (lk : K.lookup f = some ⟨oc, od, .func (PySem.W.fnOf x qual (defArgs st) (defBody st) (defScope st) .none kV doc pm an cdv ct), osl⟩)
    (hcd : PySem.W.codeIn K cdv qual = true) (S : FnScope N ps (defScope st))
    (lens : ∀ vs H Q E, sp vs H Q E → vs.length = ps.length)
    (hb : ∀ (A : Around) (outer : List Env) (s : Shared) (H : Hp) (vs : List V) (Q : VK) (E : XK),
      (A.deeper (envOfC qual (defScope st) s.heap.objs.size f cdv)).guards = some [] →
      Room k (A.deeper (envOfC qual (defScope st) s.heap.objs.size f cdv)) → sp vs H Q E →
      ∃ t, PSs (cxOf CX P w K mg base N qual (defScope st) f cdv A outer s H E) (defBody st) t ∧
        t { nx := fun _ H' => Q .non H', rt := Q } (start N vs) H) :
    FnG P w K mg base CX (k + 1) f (PySem.W.fnOf x qual (defArgs st) (defBody st) (defScope st) .none kV doc pm an cdv ct) ps sp := by
  refine ⟨lens, ?_⟩
  intro A outer s H ar us vs Q E gA room en bd vl hs
  have inK : K.In s.heap := en.mod.kin.keeps (fun b o z => (en.bs b o z).left)
  have noL : s.heap.NoLimit := en.mod.nolimit.keeps (fun b o z => (en.bs b o z).left)
  have kinds : ∀ y ∈ ps.zip us, (defScope st).names.lookup y.1 = some .local ∨
      ((defScope st).names.lookup y.1 = some .cell ∧
        ((cellsFrom (s.heap.objs.size + 1) (defScope st).names []).lookup y.1).isSome = true) := by
    intro ⟨n, v⟩ hy
    cases S.par n (List.of_mem_zip hy).left with
    | inl q => exact Or.inl q
    | inr q => exact Or.inr ⟨q, PySem.W.cellsFrom_some _ _ _ (Or.inl q)⟩
  refine codeAny_call_function room.depth (inK _ _ lk) rfl S.co S.gen rfl
    (PySem.W.codeRec_of inK hcd) (bd _ _ _ _ ?_)
  refine wpAny_newFunctionEnv_cells S.kind kinds (fun env he s1 ic => ?_)
  subst he
  refine ⟨noL.keeps ic.toInCall.keep, codeAny_func ?_⟩
  obtain ⟨t, ht, hq⟩ := hb A outer s H vs Q E gA (room.deeper _) hs
  have J := inv_start (CX := CX) (P := P) (E := E) S room.hd en (lens _ _ _ _ hs) vl ic
  refine wpAny_mono (ht.run [] s1 (start N vs) H _ J hq) (fun fl s2 ends => ?_) (fun _ _ z => z)
  cases fl with
  | next =>
    obtain ⟨σ2, H2, I2, q2⟩ := ends
    exact ⟨V.non, H2, I2.os, I2.bare, I2.base, I2.hok, rfl, q2⟩
  | ret u =>
    obtain ⟨v, σ2, H2, I2, rv, q2⟩ := ends
    exact ⟨v, H2, I2.os, I2.bare, I2.base, I2.hok, rv, q2⟩
  | brk => exact ends.elim (fun _ z => z.elim (fun _ z => z.right.elim))
  | cont => exact ends.elim (fun _ z => z.elim (fun _ z => z.right.elim))
theorem fnG_of {x qual : Str} {st : Stmt} {N : List Str} (F : Fun K x qual st f fd) (S : FnScope N ps (defScope st))
    (lens : ∀ vs H Q E, sp vs H Q E → vs.length = ps.length)
    (hb : ∀ (cdv : Value) (A : Around) (outer : List Env) (s : Shared) (H : Hp) (vs : List V) (Q : VK) (E : XK),
      (A.deeper (envOfC qual (defScope st) s.heap.objs.size f cdv)).guards = some [] →
      Room k (A.deeper (envOfC qual (defScope st) s.heap.objs.size f cdv)) → sp vs H Q E →
      ∃ t, PSs (cxOf CX P w K mg base N qual (defScope st) f cdv A outer s H E) (defBody st) t ∧
        t { nx := fun _ H' => Q .non H', rt := Q } (start N vs) H) :
    FnG P w K mg base CX (k + 1) f fd ps sp := by
  obtain ⟨oc, od, kV, doc, pm, an, cdv, ct, osl, rfl, lk, hcd⟩ := F.ex
  exact fnG_lk lk hcd S lens (hb cdv)
/-- .. of a def that lets no exception out -/
theorem fnG0 {x qual : Str} {st : Stmt} {N : List Str} (F : Fun K x qual st f fd) (S : FnScope N ps (defScope st))
    (lens : ∀ vs H Q E, sp vs H Q E → vs.length = ps.length)
    (hb : ∀ (cdv : Value) (A : Around) (outer : List Env) (s : Shared) (H : Hp) (vs : List V) (Q : VK) (E : XK),
      (A.deeper (envOfC qual (defScope st) s.heap.objs.size f cdv)).guards = some [] →
      Room k (A.deeper (envOfC qual (defScope st) s.heap.objs.size f cdv)) → sp vs H Q E →
      ∃ t, PSs (cxOf CX0 P w K mg base N qual (defScope st) f cdv A outer s H E).nox (defBody st) t ∧
        t { nx := fun _ H' => Q .non H', rt := Q } (start N vs) H) :
    FnG P w K mg base CX0 (k + 1) f fd ps sp :=
  fnG_of F S lens (fun cdv A outer s H vs Q E g r h => (hb cdv A outer s H vs Q E g r h).imp (fun _ z => ⟨z.left.nox, z.right⟩))
end

section
variable {X : Cx} {CX : CXT} {k : Nat} {f : Addr} {fd : FuncData} {ps : List Str} {sp : Sp} {dvs : List V} {ds : List Value}
  {E : XK} {x : Str} {p pos : Pos} {e : Expr} {es : List Expr} {t : TA}
theorem runG {pins : List (Addr × Obj)} {σ : L2.St} {H : Hp} {s : Shared} {Q : VK} {us : List Value} {vs : List V}
    (F : FnG X.prog X.w X.K X.mg X.base CX k f fd ps sp) (gd : X.A.guards = some []) (room : Room k X.A)
    (bd : Binds X.K fd ps ds) (dv : Vals dvs ds) (pass : Passes CX X E) (I : Inv X pins σ H s) (r : Vals vs us)
    (h : sp (vs ++ dvs) H Q E) : wpAny (model X.prog X.w) X.A (call (.ref f) us) (EP X pins σ Q) X.xe s := by
  have both : Vals (vs ++ dvs) (us ++ ds) := Vals.append r dv
  have n : (us ++ ds).length = ps.length := both.length.symm.trans (F.lens _ _ _ _ h)
  have run := F.go X.A X.stack s H ⟨us, []⟩ (us ++ ds) (vs ++ dvs) Q E gd room I.env0 (bd s us I.kIn n) both h
  refine wpAny_call (codeAny_mono run ?_)
  intro res s2 z
  cases res with
  | error ex => exact pass pins σ H s ex s2 I z
  | ok fl =>
    cases fl with
    | ret u => exact Inv.after I z
    | next => exact z.elim
    | brk => exact z.elim
    | cont => exact z.elim
/-- f(e, ..) -/
theorem pe_callG (F : FnG X.prog X.w X.K X.mg X.base CX k f fd ps sp) (gd : X.A.guards = some []) (room : Room k X.A) (hg : Gl X x)
    (hm : X.mg x = some (.ref f)) (kp : PySem.W.keepIn X.K (.ref f) = true) (bd : Binds X.K fd ps ds) (dv : Vals dvs ds)
    (pass : Passes CX X E) (ha : PA X (e :: es) t) (hdb : (x == ("__debug__" : Str)) = false := by decide)
    (he : starEach (e :: es) X.env = (false, eval e X.env) :: starEach es X.env := by rfl)
    (hpl : (backTo pos (starEach es X.env)).any (·.1) = false := by rfl) :
    PE X (.Call (.Name x p) (e :: es) [] pos) (tCall sp dvs E t) := by
  constructor
  intro pins s σ H Q I h
  apply wpAny_Call_Name_kw
  apply ld_glob I hg hm _ hdb
  apply PySem.W.callWith_K (h₀ := X.base) I.ok.mod.kin kp _ he hpl
  apply thn (ha.run pos pins s σ H _ I h)
  intro us s1 ⟨vs, H1, I1, r, q⟩
  exact ⟨I1.kIn, runG F gd room bd dv pass I1 r q⟩
/-- f() -/
theorem pe_callG0 (F : FnG X.prog X.w X.K X.mg X.base CX k f fd ps sp) (gd : X.A.guards = some []) (room : Room k X.A) (hg : Gl X x)
    (hm : X.mg x = some (.ref f)) (kp : PySem.W.keepIn X.K (.ref f) = true) (bd : Binds X.K fd ps ds) (dv : Vals dvs ds)
    (pass : Passes CX X E) (hdb : (x == ("__debug__" : Str)) = false := by decide) :
    PE X (.Call (.Name x p) [] [] pos) (tCall sp dvs E tNil) := by
  constructor
  intro pins s σ H Q I h
  apply wpAny_Call_Name_kw
  apply ld_glob I hg hm _ hdb
  exact PySem.W.callWith_K0 I.kIn kp (runG (us := []) F gd room bd dv pass I .nil h)
end
end GG

namespace GG
open PySem PySem.Spec PyProof.Rows L2
/-! ### the end of a law's row, over such a promise -/
section
variable {P : Program} {w : World} {K : PySem.W.Frag} {mg mb : Str → Option Value} {CX : CXT} {k : Nat} {fa a : Addr} {fd : FuncData}
  {x : Str} {sp : Sp} {s₁ : Shared} {vs : List Value} {ns : List Int}
/-- from a heap in which the script alone may be tracked -/
theorem law_coreG {H : Hp} (KX : K.In s₁.heap) (ng : s₁.heap.Ns mainGlobals mg) (nb : s₁.heap.Ns builtinsNs mb)
    (bb : ∀ x : Str, x ≠ "__name__" → mb x = bootBuiltins x) (lim : s₁.heap.NoLimit) (g0 : s₁.gens = #[])
    (ha : s₁.heap.get? a = some { cls := .type "list", data := .seq vs.toArray }) (room : Room k callerA)
    (F : ∀ base : Heap, K.In base → base.Ns mainGlobals mg → FnG P w K mg base CX k fa fd [x] sp)
    (bind : ∀ (s : Shared) (u : Value), BindsTo s fd ⟨[u], []⟩ [(x, u)])
    (want : sp [.ref a] H (fun v _ => v = .bl true) fun _ _ _ => False)
    (noX : ∀ H e s', CX [] H s₁ (fun _ _ _ => False) e s' → False)
    (only : Only H) (ok : HOk P w H s₁.heap) (at_a : ∀ b, H b ≠ none → b = a) (notK : H a ≠ none → K.lookup a = none) :
    codeAny (model P w) callerA (.call (.ref fa) ⟨[.ref a], []⟩)
      (fun r s' => r = .ok (.ret (.bool true)) ∧ OldK s₁.heap s'.heap ∧ s'.os = s₁.os ∧ AllBare s'.gens) s₁ := by
  have dictFree : ∀ {b : Addr} {o : Obj} {es : Array DictEntry} {ep : Nat},
      s₁.heap.get? b = some o → o.data = .dict es ep → H b = none := by
    intro b o es ep e d
    rcases hq : H b with _ | u
    · rfl
    · have ba := at_a b (fun z => by rw [z] at hq; cases hq)
      rw [ba, ha] at e
      cases e
      cases (show Data.seq vs.toArray _ = Data.dict es ep from d)
  have ns : ∀ {b : Addr} {m : Str → Option Value}, s₁.heap.Ns b m → (hidT s₁.heap H).Ns b m := by
    rintro b m ⟨o, es, ep, e, d, r⟩
    exact ⟨o, es, ep, hidT_get e (dictFree e d), d, r⟩
  have KB : K.In (hidT s₁.heap H) := by
    intro b o e
    refine hidT_get (KX b o e) ?_
    rcases hq : H b with _ | u
    · rfl
    · have ba := at_a b (fun z => by rw [z] at hq; cases hq)
      rw [ba] at hq e
      rw [notK (fun z => by rw [z] at hq; cases hq)] at e
      cases e
  have en : Env0 P w K mg (hidT s₁.heap H) callerA [] s₁ H := by
    refine ⟨rfl, ⟨KB, ns ng, ⟨mb, ns nb, bb⟩, ?_⟩, fun b o e => of_hidT e, Nat.le_of_eq (hidT_size _ _), trivial, ?_, ok, .of_eq g0⟩
    · obtain ⟨mc, h1, h2⟩ := lim
      exact ⟨mc, ns h1, h2⟩
    · intro b z
      cases (show b ∈ ([] : List Addr) from z)
  refine codeAny_mono ((F _ KB (ns ng)).go callerA [] s₁ H ⟨[.ref a], []⟩ [.ref a] [.ref a] _ _ rfl room en
    (bind s₁ (.ref a)) (.cons rfl .nil) want) ?_
  intro r s' z
  cases r with
  | error e => exact (noX H e s' z).elim
  | ok fl =>
    cases fl with
    | next => exact z.elim
    | brk => exact z.elim
    | cont => exact z.elim
    | ret u =>
      obtain ⟨v, H', os, bare, un, ok', rv, q⟩ := z
      cases (show v = .bl true from q)
      cases (show u = Value.bool true from rv)
      refine ⟨rfl, OldK.of_keep ?_, os, bare⟩
      intro b o e
      rcases only b with hq | ⟨ob, xs, hq⟩
      · exact un.keep b o e hq (fun z => by cases (show b ∈ ([] : List Addr) from z)) (fun z => by cases z)
      · have f1 := (ok b _ hq).left
        have f2 := (ok' b _ (un.frzs b ob _ hq)).left
        rw [e] at f1
        cases f1
        exact f2
theorem law_callG (KX : K.In s₁.heap) (ng : s₁.heap.Ns mainGlobals mg) (nb : s₁.heap.Ns builtinsNs mb)
    (bb : ∀ x : Str, x ≠ "__name__" → mb x = bootBuiltins x) (lim : s₁.heap.NoLimit) (g0 : s₁.gens = #[])
    (ha : s₁.heap.get? a = some { cls := .type "list", data := .seq vs.toArray }) (hi : IntsAre vs ns) (hl : ns.length ≤ sizeLine)
    (room : Room k callerA) (F : ∀ base : Heap, K.In base → base.Ns mainGlobals mg → FnG P w K mg base CX k fa fd [x] sp)
    (bind : ∀ (s : Shared) (u : Value), BindsTo s fd ⟨[u], []⟩ [(x, u)])
    (want : ∀ H : Hp, Only H → SqL K H a (ns.map V.int) → sp [.ref a] H (fun v _ => v = .bl true) fun _ _ _ => False)
    (noX : ∀ H e s', CX [] H s₁ (fun _ _ _ => False) e s' → False) :
    codeAny (model P w) callerA (.call (.ref fa) ⟨[.ref a], []⟩)
      (fun r s' => r = .ok (.ret (.bool true)) ∧ OldK s₁.heap s'.heap ∧ s'.os = s₁.os ∧ AllBare s'.gens) s₁ := by
  have vi := vals_ints hi
  rcases hk : K.lookup a with _ | o
  · have hH : ∀ b, (fun b => if b = a then some (HO.frz { cls := .type "list", data := .seq vs.toArray } (.lst (ns.map V.int))) else none : Hp) b ≠ none → b = a := by
      intro b z
      by_cases e : b = a
      · exact e
      · exact absurd (if_neg e) z
    refine law_coreG (H := fun b => if b = a then some (HO.frz { cls := .type "list", data := .seq vs.toArray } (.lst (ns.map V.int))) else none)
      KX ng nb bb lim g0 ha room F bind (want _ ?_ (.inl (.inr ⟨_, if_pos rfl⟩))) noX ?_ ?_ hH (fun _ => hk)
    all_goals first
      | (intro b
         by_cases e : b = a
         · exact .inr ⟨_, _, if_pos e⟩
         · exact .inl (if_neg e))
      | (intro b u z
         by_cases e : b = a
         · have z' := (if_pos e).symm.trans z
           cases z'
           rw [e]
           exact ⟨ha, by rw [List.length_map]; exact hl, vs, _, vi, ha⟩
         · have z' := (if_neg e).symm.trans z
           cases z')
  · have e := KX a o hk
    rw [ha] at e
    cases e
    refine law_coreG (H := fun _ => none) KX ng nb bb lim g0 ha room F bind (want _ (fun _ => .inl rfl) ?_) noX (fun _ => .inl rfl) ?_ (fun b z => absurd rfl z) (fun z => absurd rfl z)
    · exact .inr ⟨_, vs.toArray, _, hk, rfl, rfl, rfl, by rw [List.size_toArray, hi.length]; exact hl, by simpa using vi⟩
    · intro b u z
      cases (show (none : Option HO) = some u from z)
end
/-- the goal that the head leaves -/
theorem walkG {l : PySem.W.OpenLaw} {n k : Nat} {q : Program} {loose : List Str} {XP : (Str → Option Value) → Heap → Prop} {YP : World → Heap → Prop}
    {d : DefRec} {K : Params → PySem.W.Frag} {CX : World → CXT} {sp : World → Sp} {x : Str}
    (hn : l.most = some n) (hn2 : n ≤ sizeLine) (hdf : d.params.defaults = []) (room : Room k callerA)
    (hY : ∀ (w : World) (h : Heap), YP w h → (K w.params).In h)
    (F : ∀ (w : World) (mg : Str → Option Value) (fa : Addr) (h : Heap), (K w.params).In h → h.Ns mainGlobals mg → mg d.name = some (.ref fa) →
      ∃ fd : FuncData, (∀ (s : Shared) (u : Value), BindsTo s fd ⟨[u], []⟩ [(x, u)]) ∧
        ∀ base : Heap, (K w.params).In base → base.Ns mainGlobals mg → FnG l.prog w (K w.params) mg base (CX w) k fa fd [x] (sp w))
    (want : ∀ (w : World) (H : Hp) (a : Addr) (ns : List Int), ns.length ≤ n → Only H → SqL (K w.params) H a (ns.map V.int) →
      sp w [.ref a] H (fun v _ => v = .bl true) fun _ _ _ => False)
    (noX : ∀ (w : World) (H : Hp) (s : Shared) (e : Value) (s' : Shared), CX w [] H s (fun _ _ _ => False) e s' → False) :
    PySem.W.WalkO q loose XP YP l.row.toRowW d [] (fun f vs => PySem.call f vs) := by
  apply Att.attach_call hn hdf
  intro w s₀ s₁ mg mb fa o pm cd doc a vs ns G Y ho hd hcd hmg hobj hints hlen hg
  obtain ⟨fd, hb, hF⟩ := F w mg fa _ (hY w _ Y) G.T.g hmg
  exact law_callG (hY w _ Y) G.T.g G.T.b G.T.builtins G.T.nolimit hg hobj hints (Nat.le_trans hlen hn2) room hF hb
    (fun H h1 h2 => want w H a ns hlen h1 h2) (fun H e s' => noX w H s₁ e s')
end GG

namespace GG
open PySem PySem.Spec PyProof.Rows L2
/-! ### repr of data -/
def isDsp : PyData → Bool
  | .list _ => true
  | .tuple _ => true
  | _ => false
/-- repr(x), x nested lists and tuples of bools, ints, texts, None -/
def rRepr (K : PySem.W.Frag) : List V → Hp → VK → Prop := fun xs H Q => ∃ x d, xs = [x] ∧ Dp K H x d ∧
  (d.showable = true ∧ d.hasDict = false ∧ d.depth ≤ 40 ∧ d.shown.length ≤ sizeLine) ∧ Q (.str d.shown) H
theorem call_reprU {X : Cx} (gd : X.A.guards = some []) (un : X.A.units + 64 < cLine) : CallR X (.builtin "repr") (rRepr X.K) := by
  intro pins s σ H xs us Q I r h
  obtain ⟨x, d, rfl, hd, ⟨sh, nod, dep, big⟩, q⟩ := h
  obtain ⟨u, rfl, ru⟩ := vals1 r
  cases d with
  | none =>
    cases hd
    cases (show u = Value.none from ru)
    exact PySem.P.repr_of_none ⟨.str _, H, I.tok _, ⟨_, rfl⟩, by simpa [PyData.shown] using q⟩
  | bool b =>
    cases hd
    cases (show u = Value.bool b from ru)
    exact PySem.P.repr_of_bool ⟨.str _, H, I.tok _, ⟨_, rfl⟩, by simpa [PyData.shown] using q⟩
  | int i =>
    cases hd
    obtain ⟨t, rfl⟩ := (show ∃ t, u = Value.int i t from ru)
    refine PySem.P.repr_of_int (by simpa [PyData.showable] using sh) ⟨.str _, H, I.tok _, ⟨_, rfl⟩, by simpa [PyData.shown] using q⟩
  | str y =>
    cases hd
    obtain ⟨t, rfl⟩ := (show ∃ t, u = Value.str y t from ru)
    exact PySem.P.repr_of_str ⟨.str _, H, I.tok _, ⟨_, rfl⟩, by simpa [PyData.shown] using q⟩ (by simpa [PyData.shown] using big)
  | dict kvs => cases hd
  | list ds =>
    obtain ⟨as, rd⟩ := Dp.reads I _ _ _ hd ru
    cases hd
    cases (show u = Value.ref _ from ru)
    refine repr_of_reads' rd sh (PyData.noDict_hsm nod) gd (by omega) (fun _ _ e => e) (fun h' u tk kept => ?_) big
    exact ⟨.str _, H, I.kept kept, ⟨_, rfl⟩, q⟩
  | tuple ds =>
    obtain ⟨as, rd⟩ := Dp.reads I _ _ _ hd ru
    cases hd
    cases (show u = Value.ref _ from ru)
    refine repr_of_reads' rd sh (PyData.noDict_hsm nod) gd (by omega) (fun _ _ e => e) (fun h' u tk kept => ?_) big
    exact ⟨.str _, H, I.kept kept, ⟨_, rfl⟩, q⟩
theorem call_reprD {X : Cx} {k : Nat} (gd : X.A.guards = some []) (room : Room k X.A) : CallR X (.builtin "repr") (rRepr X.K) := call_reprU gd room.units
/-! ### ** of a great base -/
def CPowW (i j : Int) : Prop := 0 ≤ j ∧ (Builtin.Int.intBits i : Int) * j ≤ 2 ^ 27
theorem op_powW {X : Cx} : OpR X (binaryOp .Pow) (rI CPowW fun i j => .int (i ^ j.toNat)) := opI fun _ _ _ _ _ _ _ hc q => pow_int hc.1 hc.2 q
/-! ### the heap but for one object -/
/-- all that stands in H stands in H', but for what is at l -/
def But (l : Addr) (H H' : Hp) : Prop := ∀ b o, b ≠ l → H b = some o → H' b = some o
theorem But.refl {l : Addr} {H : Hp} : But l H H := fun _ _ _ e => e
theorem But.trans {l : Addr} {H H1 H2 : Hp} (a : But l H H1) (b : But l H1 H2) : But l H H2 := fun c o n e => b c o n (a c o n e)
theorem But.same {l : Addr} {H H1 H2 : Hp} (a : But l H H1) (b : Same H1 H2) : But l H H2 := fun c o n e => b c o (a c o n e)
theorem But.ofSame {l : Addr} {H H1 : Hp} (b : Same H H1) : But l H H1 := fun c o _ e => b c o e
theorem But.new {l p : Addr} {H H1 : Hp} {o : HO} (a : But l H H1) (h : H1 p = none) : But l H (upd H1 p o) := fun c u n e => by
  have e1 := a c u n e
  rw [upd_ne (ne_of_none e1 h)]
  exact e1
theorem But.at {l : Addr} {H : Hp} {o : HO} : But l H (upd H l o) := fun c u n e => by
  rw [upd_ne n]
  exact e
theorem But.seqL {l a : Addr} {K : PySem.W.Frag} {H H' : Hp} {xs : List V} (b : But l H H') (n : a ≠ l) (h : SqL K H a xs) : SqL K H' a xs := by
  rcases h with (h | ⟨o, h⟩) | h
  · exact .inl (.inl (b _ _ n h))
  · exact .inl (.inr ⟨o, b _ _ n h⟩)
  · exact .inr h
theorem But.seqT {l a : Addr} {K : PySem.W.Frag} {H H' : Hp} {xs : List V} (b : But l H H') (n : a ≠ l) (h : SqT K H a xs) : SqT K H' a xs := by
  rcases h with (h | ⟨o, h⟩) | h
  · exact .inl (.inl (b _ _ n h))
  · exact .inl (.inr ⟨o, b _ _ n h⟩)
  · exact .inr h
theorem sameUpd {H : Hp} {p : Addr} {o : HO} (h : H p = none) : Same H (upd H p o) := fun b x e => by
  rw [upd_ne (ne_of_none e h)]
  exact e
/-! ### dice -/
def Dice (H : Hp) (l : Addr) : Prop := ∃ a b c : Int, H l = some (.lst [.int a, .int b, .int c]) ∧ 0 ≤ a
theorem Dice.same {H H' : Hp} {l : Addr} (d : Dice H l) (s : Same H H') : Dice H' l := by
  obtain ⟨a, b, c, e, h⟩ := d
  exact ⟨a, b, c, s _ _ e, h⟩
theorem Dice.new {H : Hp} {l p : Addr} {o : HO} (d : Dice H l) (h : H p = none) : Dice (upd H p o) l := d.same (sameUpd h)
theorem Dice.ne {H : Hp} {l p : Addr} (d : Dice H l) (h : H p = none) : l ≠ p := by
  obtain ⟨a, b, c, e, _⟩ := d
  exact ne_of_none e h
theorem mul60 : CMulW (10 ^ Int.toNat 60) (10 ^ Int.toNat 60) := by
  unfold CMulW
  decide +kernel
theorem pos60 : (0 : Int) < 10 ^ Int.toNat 60 * 10 ^ Int.toNat 60 := by decide +kernel
def spDice (K : PySem.W.Frag) : Sp := fun vs H Q _ => ∃ (a : Addr) (ns : List Int) (spot : Nat), vs = [.ref a, .int spot] ∧ SqL K H a (ns.map V.int) ∧
  spot ≤ 100 ∧ ∀ H' p, Same H H' → H p = none → Dice H' p → Q (.ref p) H'
def spRoll : Sp := fun vs H Q _ => ∃ (l : Addr) (t : Int), vs = [.ref l, .int t] ∧ Dice H l ∧ 0 < t ∧ t < 1073741824 ∧
  ∀ H' (r : Int), But l H H' → Dice H' l → 0 ≤ r → r < t → Q (.int r) H'
def spPick (K : PySem.W.Frag) : Sp := fun vs H Q _ => ∃ (l a : Addr) (xs : List V), vs = [.ref l, .ref a] ∧ Dice H l ∧ a ≠ l ∧
  (SqL K H a xs ∨ SqT K H a xs) ∧ 0 < xs.length ∧ xs.length ≤ 1000 ∧
  ∀ H' (i : Nat) (v : V), But l H H' → Dice H' l → xs[i]? = some v → Q v H'
end GG

set_option maxHeartbeats 4000000
namespace PySem
namespace GX
open PySem.W PySem.Calls PyProof.Rows PySem.HandSPX
/-! ### own exceptions with one field over any of the built-in classes -/
/-- what the written part says of the class named cn at C (its field fld), and of its __init__, at fI -/
structure OwnX (K : Frag) (mg : Str → Option Value) (cn fld : Str) (bmB : List Value) (newId : String) (C fI : Addr) : Prop where
  gC : mg cn = some (.ref C)
  cls : ∃ nm q N bs bm sn sub ab col dd k0 k1 k2 k3 k5, K.lookup C = some (excClassObj nm q C N bs bm true sn sub ab col dd k0 k1 k2 k3 k5 newId) ∧ excTail bmB bm = true
  sa : findIn K (.ref C) "__setattr__" = some (some (.builtin "object.__setattr__"))
  ga : findIn K (.ref C) "__getattribute__" = some (some (.builtin "BaseException.__getattribute__"))
  gg : findIn K (.ref C) "__getattr__" = some none
  noN : findIn K (.ref C) fld = some none
  iC : findIn K (.ref C) "__init__" = some (some (.ref fI))
  tC : typeIn K (.ref fI) = some (.type "function")
  kC : keepIn K (.ref C) = true
  exC : subIn K (.ref C) (.type "BaseException") = some true
  tyC : typeIn K (.ref C) = some (.type "type")
  hdC : hasDictIn K C = true
  te : exmOne K (.ref C) (.ref C) = some true
/-- what __init__ leaves of a fresh exception at x -/
structure Inited (fld : Str) (h h' : Heap) (x C dx t1 : Addr) (v : Value) : Prop where
  keep : ∀ b o, b ≠ x → h.get? b = some o → h'.get? b = some o
  obj : h'.get? x = some { cls := .ref C, dict := some dx, data := .fields #[.ref t1, .none, .none, .none, .bool false, .none] }
  dbig : h.objs.size ≤ dx
  dne : dx ≠ x
  ns : h'.Ns1 dx (fun y => if y = fld then some v else none)
/-- a made one -/
structure MadeX (fld : Str) (h h' : Heap) (e C d : Addr) (v : Value) : Prop where
  keep : ∀ b o, h.get? b = some o → h'.get? b = some o
  new : h.objs.size ≤ e
  obj : ∃ t1, h'.get? e = some { cls := .ref C, dict := some d, data := .fields #[.ref t1, .none, .none, .none, .bool false, .none] }
  dbig : h.objs.size ≤ d
  dne : d ≠ e
  ns : h'.Ns1 d (fun y => if y = fld then some v else none)
/-- the __init__ at fI stores its argument -/
def InitOk (K : Frag) (fld : Str) (C fI : Addr) : Prop :=
  ∀ (prog : Program) (w : World) (A : Around) (R : Result → Shared → Prop) (s : Shared) (x t0 : Addr) (v : Value), K.In s.heap → s.heap.NoLimit →
    s.heap.get? x = some (excO C t0) → K.lookup x = none → A.depth < recursionLimit →
    (∀ h' tk dx, Inited fld s.heap h' x C dx t0 v → R (.ok (.ret .none)) { s with heap := h', toks := tk }) →
    codeAny (model prog w) A (.call (.ref fI) ⟨[.ref x, v], []⟩) R s
theorem single_size (v : Value) : [v].length ≤ sizeLine := by
  rw [sizeLine_eq]
  exact (by decide : 1 ≤ 16777216)
theorem loadLoc {M : Model} {s : Shared} {name : Str} {scope : Scope} {L a : Addr} {cd : Value} {m : Str → Option Value} {x : Str} {pos : Pos} {v : Value} {Q : Value → Shared → Prop} {A : Around} {E : Value → Shared → Prop}
    (hn : s.heap.Ns L m) (hv : m x = some v) (h : Q v s) (hk : scope.kind = .function := by rfl)
    (hl : (envOfC name scope L a cd).kindOf x = some .local := by rfl) (hd : (x == ("__debug__" : Str)) = false := by decide) :
    wpAny M A (eval (.Name x pos) (envOfC name scope L a cd)) Q E s := wpAny_Name (wpAny_loadName_local hk hl hn hv h) hd
section
open Builtin Builtin.ObjectAttr
variable {prog : Program} {w : World} {A : Around} {E : Value → Shared → Prop} {R : Result → Shared → Prop} {hp : Heap} {g : Array GenState} {d : Drawn} {t : Nat} {os : OsState} {B newId initId : String} {bmB : List Value}
/-- self.name = v on such an exception that has no dict yet -/
theorem osaX {K : Frag} {name : Str} {tk : Tok} {v : Value} {x C : Addr} {fv : Array Value} {cd : ClassData} (SF : StoreFacts B bmB "object.__setattr__" "object")
    (X : K.In hp) (hx : hp.get? x = some { cls := .ref C, data := .fields fv }) (hcd : clsIn K C = some cd) (hov : excOver K C bmB = true)
    (hh : cd.hasDict = true) (ha : findIn K (.ref C) name = some none)
    (hq : ∀ h' tk' dx, (∀ b o, b ≠ x → hp.get? b = some o → h'.get? b = some o) → hp.objs.size ≤ dx → dx ≠ x →
      h'.get? x = some { cls := .ref C, dict := some dx, data := .fields fv } →
      h'.Ns1 dx (fun y => if y = name then some v else none) → R (.ok (.ret .none)) ⟨h', g, d, tk', os⟩) :
    codeAny (model prog w) A (.call (.builtin "object.__setattr__") ⟨[.ref x, .str name tk, v], []⟩) R ⟨hp, g, d, t, os⟩ := by
  have I : InstAt hp x { cls := .ref C, data := .fields fv } C none := ⟨hx, rfl, rfl, trivial⟩
  have xs : x ≠ hp.objs.size := Nat.ne_of_lt (Heap.lt_size hx)
  have taker : takerIn K C name = some none := by
    unfold takerIn
    rw [ha]
    rfl
  refine osa_openX (s := ⟨hp, g, d, t, os⟩) SF X I hov taker ?_
  intro b
  have lc : Looks (model prog w) hp (classData C) cd := looks_clsIn X hcd
  show wpAny _ _ (storeInOwnDict (.ref x) (.ref C) (.str name tk) name v b) _ _ _
  obtain ⟨nm, bs, mro, ns, qn, hd, sn, sb, ab, col, del⟩ := cd
  dsimp only at hh
  subst hh
  unfold storeInOwnDict ownDictForStores
  repeat (first
    | with_reducible refine store_in_new ?_ ?_
    | with_reducible refine wpAny_loadPart_at hx ?_
    | with_reducible refine lc.at ?_
    | wp_step)
  · refine ⟨_, #[], _, (Heap.get?_update_ne _ _ _ _ xs.symm).trans (Heap.get?_push_at rfl rfl), rfl, ?_, fun _ => rfl⟩
    intro e he
    exact absurd he (by simp)
  · intro h' tk' n1 sb1
    have there : (hp.push { cls := .type "dict", data := .dict #[] }).get? x = some { cls := .ref C, data := .fields fv } := Heap.get?_push_of_some _ hx
    apply hq h' tk' hp.objs.size _ (Nat.le_refl _) xs.symm _ n1
    · intro b o nb ho
      refine (sb1.2 b (Nat.ne_of_lt (Heap.lt_size ho))).trans ?_
      exact (Heap.get?_update_ne _ _ _ _ nb).trans (Heap.get?_push_of_some _ ho)
    · exact (sb1.2 x xs).trans (Heap.get?_update_self _ there rfl)
end
section
variable {prog : Program} {w : World} {A : Around} {R : Result → Shared → Prop} {s : Shared} {K : Frag} {mg : Str → Option Value} {C fI : Addr} {cn fld : Str} {B newId initId : String} {bmB : List Value}
theorem OwnX.over (T : OwnX K mg cn fld bmB newId C fI) : ∃ cd, clsIn K C = some cd ∧ excOver K C bmB = true ∧ cd.hasDict = true := by
  obtain ⟨nm, q, N, bs, bm, sn, sub, ab, col, dd, k0, k1, k2, k3, k5, hC, hbm⟩ := T.cls
  have hcl : clsIn K C = some { name := nm, bases := bs, mro := .ref C :: bm, ns := N, qualname := q, hasDict := true, slotNames := sn, subclasses := sub, abstract := ab, collection := col, hasDel := false } := by
    unfold clsIn
    rw [hC] <;> rfl
  refine ⟨_, hcl, ?_, rfl⟩
  unfold excOver
  rw [hcl]
  show (C == C && excTail bmB bm) = true
  rw [hbm, Bool.and_true]
  exact beq_self_eq_true C
/-- C(v) -/
theorem madeX (F : ExcBaseFacts B newId initId bmB) (T : OwnX K mg cn fld bmB newId C fI) (init : InitOk K fld C fI) {v : Value} (X : K.In s.heap)
    (lim : s.heap.NoLimit) (deep : A.depth + 1 < recursionLimit)
    (hq : ∀ h' tk e d, MadeX fld s.heap h' e C d v → R (.ok (.ret (.ref e))) { s with heap := h', toks := tk }) :
    codeAny (model prog w) A (.call (.ref C) ⟨[v], []⟩) R s := by
  obtain ⟨nm, q, N, bs, bm, sn, sub, ab, col, dd, k0, k1, k2, k3, k5, hC, hbm⟩ := T.cls
  obtain ⟨hp, g, dr, tk, os⟩ := s
  have grown : ∀ b o, hp.get? b = some o → ((hp.push (kdv_tup [v])).push (excO C hp.objs.size)).get? b = some o :=
    fun b o e => Heap.get?_push_of_some _ (Heap.get?_push_of_some _ e)
  have fresh : ((hp.push (kdv_tup [v])).push (excO C hp.objs.size)).get? (hp.objs.size + 1) = some (excO C hp.objs.size) := by heap_get
  have notK : K.lookup (hp.objs.size + 1) = none := by
    rcases e : K.lookup (hp.objs.size + 1) with _ | o
    · rfl
    · exact absurd (Nat.lt_of_succ_lt (Heap.lt_size (show hp.get? (hp.objs.size + 1) = some o from X _ _ e))) (Nat.lt_irrefl _)
  refine HandSPX.call_own F (fun T => excTail_contains T bm hbm) (X _ _ hC) (looks_findIn X T.iC) (fun self => bind_fn X self T.tC) (single_size v) ?_
  refine init prog w _ _ ⟨(hp.push (kdv_tup [v])).push (excO C hp.objs.size), g, dr, tk, os⟩ _ _ v (X.keeps grown) (lim.keeps grown) fresh notK deep ?_
  intro h' tk' dx ⟨k', hx, dn, dne, hns⟩
  have old : ∀ b o, hp.get? b = some o → h'.get? b = some o :=
    fun b o e => k' b o (Nat.ne_of_lt (Nat.lt_succ_of_lt (Heap.lt_size e))) (grown b o e)
  have z : hp.objs.size + 1 + 1 ≤ dx := by
    first
      | (simpa only [Heap.size_push] using dn)
      | exact dn
      | (have q := dn; rw [Heap.size_push, Heap.size_push] at q; exact q)
  exact ⟨rfl, hq h' tk' (hp.objs.size + 1) dx ⟨old, Nat.le_succ _, ⟨_, hx⟩, Nat.le_trans (Nat.le_trans (Nat.le_succ _) (Nat.le_succ _)) z, dne, hns⟩⟩
end
end GX
end PySem
namespace GG
open PySem PySem.Spec PyProof.Rows L2
theorem relX {fld : Str} {v : V} {v' : Value} (r : RelV v v') (f : Str) : RelO (List.lookup f [(fld, v)]) (if f = fld then some v' else none) := by
  by_cases hw : f = fld
  · subst hw
    rw [if_pos rfl]
    have q : List.lookup f [(f, v)] = some v := by simp [List.lookup]
    rw [q]
    exact r
  · rw [if_neg hw]
    have qw : (f == fld) = false := by simpa using hw
    have q2 : List.lookup f [(fld, v)] = none := by simp [List.lookup, qw]
    rw [q2]
    trivial
section
variable {X : Cx} {C fI : Addr} {cn fld : Str} {B newId initId : String} {bmB : List Value}
/-- X(e), to be raised -/
def tMkX (C : Addr) (fld : Str) (ta : TA) : L2.St → Hp → XK → Prop := fun σ H Q => ta σ H fun vs H1 => ∃ v, vs = [v] ∧ ∀ d, H1 d = none → Q (.ref C) (some d) (upd H1 d (.xd [(fld, v)]))
theorem pmkX {a : Expr} {ta : TA} {p pos : Pos} {k : Nat} (F : ExcBaseFacts B newId initId bmB) (T : PySem.GX.OwnX X.K X.mg cn fld bmB newId C fI) (init : PySem.GX.InitOk X.K fld C fI) (hr : Room k X.A) (ha : PA X [a] ta)
    (hg : Gl X cn := by rfl) (hdb : (cn == ("__debug__" : Str)) = false := by decide)
    (he : starEach (a :: []) X.env = (false, eval a X.env) :: starEach [] X.env := by rfl) (hpl : (backTo pos (starEach [] X.env)).any (·.1) = false := by rfl) :
    PMk X (.Call (.Name cn p) [a] [] pos) (tMkX C fld ta) := by
  intro pins s σ H Q I h
  refine wpAny_Call_Name_kw (ld_glob I hg T.gC ?_ hdb)
  refine PySem.W.callWith_K (h₀ := X.base) I.ok.mod.kin T.kC (thn (ha.run pos pins s σ H _ I h) ?_) he hpl
  intro us s1 hh
  obtain ⟨vs, H1, I1, r1, v, ev, q1⟩ := hh
  subst ev
  refine ⟨I1.kIn, ?_⟩
  obtain ⟨v', rfl, rv⟩ := vals1 r1
  show wpAny _ _ (call (.ref C) [v']) _ _ _
  have hlim := I1.nolimit
  obtain ⟨hp, g, dr, tk, os⟩ := s1
  have room2 := hr.dp
  refine wpAny_call (PySem.GX.madeX F T init I1.kIn hlim (by omega) fun h' tk' e d M => ?_)
  show MkP X pins σ Q (.ref e) ⟨h', g, dr, tk', os⟩
  obtain ⟨t1, hoe⟩ := M.obj
  have hns := M.ns
  obtain ⟨G', g1, g2⟩ := restrict h' fun b => decide (b ≠ e)
  have gk : ∀ b, b ≠ e → G'.get? b = h'.get? b := fun b hb => g1 b (decide_eq_true hb)
  have ge : G'.get? e = none := g2 e (by simp)
  have old : ∀ b o, hp.get? b = some o → G'.get? b = some o := by
    intro b o q
    exact (gk b (Nat.ne_of_lt (Nat.lt_of_lt_of_le (Heap.lt_size q) M.new))).trans (M.keep b o q)
  have ob : ObjOk X.prog X.w (upd H1 d (.xd [(fld, v)])) G' d (.xd [(fld, v)]) :=
    ⟨_, hns.at (fun o q => (gk d M.dne).trans q), fun f => relX rv f⟩
  have J : Inv X pins σ (upd H1 d (.xd [(fld, v)])) ⟨G', g, dr, tk', os⟩ := I1.laid (t' := tk') old M.dbig ob
  refine ⟨e, _, _, ⟨G', g, dr, tk', os⟩, _, .ref C, some d, rfl, J, fun b o q => ?_, ge, hoe, ⟨rfl, rfl⟩, rfl, rfl, ?_, rfl, I1.bare, raises_own T.exC T.tyC, q1 d (I1.hok.fresh M.dbig)⟩
  · by_cases hb : b = e
    · have q' : G'.get? b = some o := q
      rw [hb, ge] at q'
      cases q'
    · exact (gk b hb).symm.trans q
  · rw [upd_ne (Ne.symm M.dne)]
    exact I1.hok.fresh M.new
/-- raise X(e) -/
def tRaiseX (C : Addr) (fld : Str) (W : WX) (ta : TA) : TS := fun _ σ H => tMkX C fld ta σ H fun cls d H' => W cls d σ H'
theorem ps_raiseX {a : Expr} {ta : TA} {W : WX} {p pos pos2 : Pos} {k : Nat} (F : ExcBaseFacts B newId initId bmB) (hc : X.calm = true) (T : PySem.GX.OwnX X.K X.mg cn fld bmB newId C fI) (init : PySem.GX.InitOk X.K fld C fI)
    (hr : Room k X.A) (tk : Takes X W) (ha : PA X [a] ta) (hg : Gl X cn := by rfl) (hdb : (cn == ("__debug__" : Str)) = false := by decide)
    (he : starEach (a :: []) X.env = (false, eval a X.env) :: starEach [] X.env := by rfl) (hpl : (backTo pos (starEach [] X.env)).any (·.1) = false := by rfl) :
    PS X (.Raise (some (.Call (.Name cn p) [a] [] pos)) none pos2) (tRaiseX C fld W ta) := ps_raise hc tk (pmkX F T init hr ha hg hdb he hpl)
/-- e.fld, e the exception that the suite holds (at a; its class cls, its dict d) -/
def tByX (C : Addr) (fld : Str) (a : Addr) (cls : Value) (d : Option Addr) (te : TE) : TE := fun σ H Q => te σ H fun x H1 => x = .ref a ∧ cls = .ref C ∧ ∃ (dd : Addr) (v : V), d = some dd ∧ H1 dd = some (.xd [(fld, v)]) ∧ Q v H1
theorem pe_byX {a : Addr} {oe : Obj} {cls : Value} {d : Option Addr} {pn : List (Addr × Obj)} {e : Expr} {te : TE} {pos : Pos} (T : PySem.GX.OwnX X.K X.mg cn fld bmB newId C fI) (hz : Zc cls d oe) (hf : ∃ vs, oe.data = .fields vs)
    (he : PE (X.suite a ((a, oe) :: pn)) e te) (hb : attributeBase e fld X.env (eval e X.env) = eval e X.env := by rfl) :
    PE (X.suite a ((a, oe) :: pn)) (.Attribute e fld pos) (tByX C fld a cls d te) := by
  refine ⟨fun pins s σ H Q I h => ?_⟩
  refine attr_of hb (thn (he.run pins s σ H _ I h) ?_)
  intro u s1 hh
  obtain ⟨x, H1, I1, rx, ex, ec, dd, v, ed, ea, q⟩ := hh
  subst ex ec ed
  obtain rfl : u = Value.ref a := rx
  obtain ⟨ha, _⟩ := I1.pin (a, oe) (List.mem_append_left _ List.mem_cons_self)
  obtain ⟨vs, hd⟩ := hf
  have hx : ObjOk X.prog X.w H1 s1.heap dd (.xd [(fld, v)]) := I1.hok dd _ ea
  obtain ⟨mA, hns, hr⟩ := hx
  obtain ⟨od, ho, hl⟩ := lookIn_ns hns
  have l : List.lookup fld [(fld, v)] = some v := by simp [List.lookup]
  obtain ⟨u, hu, ru⟩ := RelO.some_of (v := v) (o := mA fld) (by rw [← l]; exact hr fld)
  have J : PySem.W.InstAt s1.heap a oe C (some od) := ⟨ha, hz.1, by unfold PySem.W.notCls; rw [hd] <;> rfl, by rw [hz.2]; exact ho⟩
  exact HandSPX.exc_get I1.kIn J T.ga T.gg T.exC (PySem.W.findObj_own T.hdC T.noN rfl (by rw [hl, hu])) (handed_of ru) ⟨v, H1, I1.tok _, ru, q⟩
end
end GG

set_option maxHeartbeats 4000000
namespace GG
open PySem PySem.Spec PyProof.Rows L2
/-! ### several except clauses, with a name or without -/
/-- behind a suite whose exception is named in slot i -/
def offI (i : Nat) (D : Ends) : Ends :=
  { nx := fun σ H => D.nx (σ.set i none) H, rt := D.rt, bk := fun σ H => D.bk (σ.set i none) H, ct := fun σ H => D.ct (σ.set i none) H }
abbrev Clause := Value × Option Nat × (Addr → Value → Option Addr → TS)
def wClauses (K : PySem.W.Frag) (Wout : WX) (D : Ends) : List Clause → WX
  | [] => Wout
  | (c, none, ts) :: r => fun cls d σ H => ∃ b, PySem.W.exmOne K cls c = some b ∧ (b = true → ∀ a, H a = none → ts a cls d D σ H) ∧ (b = false → wClauses K Wout D r cls d σ H)
  | (c, some i, ts) :: r => fun cls d σ H => ∃ b, PySem.W.exmOne K cls c = some b ∧
      (b = true → ∀ a, H a = none → ts a cls d (offI i D) (σ.set i (some (.ref a))) H) ∧ (b = false → wClauses K Wout D r cls d σ H)
inductive Clauses (X : Cx) : List ExceptHandler → List Clause → Prop
  | nil : Clauses X [] []
  | plain {x : Str} {c : Value} {ts : Addr → Value → Option Addr → TS} {b₀ : Stmt} {suite : List Stmt} {np pos' : Pos} {hds : List ExceptHandler} {l : List Clause} (hc : Names X x c)
      (hsu : ∀ (a : Addr) (oe : Obj) (cls : Value) (d : Option Addr) (pn : List (Addr × Obj)), Zc cls d oe → (∃ vs, oe.data = .fields vs) →
        PSs (X.suite a ((a, oe) :: pn)) (b₀ :: suite) (ts a cls d))
      (r : Clauses X hds l) : Clauses X (.ExceptHandler (some (.Name x np)) none (b₀ :: suite) pos' :: hds) ((c, none, ts) :: l)
  | named {x n : Str} {i : Nat} {c : Value} {ts : Addr → Value → Option Addr → TS} {b₀ : Stmt} {suite : List Stmt} {np pos' : Pos} {hds : List ExceptHandler} {l : List Clause}
      (hN : X.N.Nodup) (hi : X.N[i]? = some n) (hln : X.env.kindOf n = some .local) (hc : Names X x c)
      (hsu : ∀ (a : Addr) (oe : Obj) (cls : Value) (d : Option Addr) (pn : List (Addr × Obj)), Zc cls d oe → (∃ vs, oe.data = .fields vs) →
        PSs (X.suite a ((a, oe) :: pn)) (b₀ :: suite) (ts a cls d))
      (r : Clauses X hds l) : Clauses X (.ExceptHandler (some (.Name x np)) (some n) (b₀ :: suite) pos' :: hds) ((c, some i, ts) :: l)
section
variable {X : Cx} {body : List Stmt} {h₀ : ExceptHandler} {hds : List ExceptHandler} {l : List Clause} {pos : Pos} {tb : WX → TS} {Wout : WX}
/-- the handlers, met by the exception at a in flight -/
theorem clauses_go {pins : List (Addr × Obj)} {σ' : L2.St} {H' : Hp} {sI s' : Shared} {a : Addr} {B : Heap} {cls : Value} {d : Option Addr} {D : Ends}
    (hs : X.stack = X.env :: X.outer) (hf : X.env.frame = some X.env.locals) (tk : Takes X Wout) (J : Inv X pins σ' H' sI)
    (nb : ∀ b o, sI.heap.get? b = some o → b ∉ frs X.stack → B.get? b = some o) (up : sI.heap.UpToSlots s'.heap) (na : H' a = none)
    (os : s'.os = sI.os) (ag : AllBare s'.gens) {h3 : Heap} (fl3 : HandSPX.FlyingZ B (X.env :: X.outer) a (Zc cls d) h3) (up3 : s'.heap.UpToSlots h3)
    {k : List ExceptHandler} {m : List Clause} (C : Clauses X k m) :
    wClauses X.K Wout D m cls d σ' H' → wpAny (model X.prog X.w) X.A (handleBy (.ref a) X.env k) (SP X pins D) X.xe { s' with heap := h3 } := by
  have ok := J.ok
  have upA := up.trans up3
  have J3 : Inv X pins σ' H' { s' with heap := h3 } := J.landed nb fl3.1 upA os ag
  obtain ⟨oe3, vs3, he3, hz3, hd3⟩ := fl3.there
  have outside : a ∉ frs (X.env :: X.outer) := by
    intro hm
    obtain ⟨_, o', e', hnf⟩ := fl3.2.2.1.mem hm
    rw [he3] at e'
    cases e'
    exact hnf _ hd3
  have nL : a ≠ X.env.locals := fun z => outside (List.mem_filterMap.mpr ⟨X.env, List.mem_cons_self, by rw [hf, z]⟩)
  have nF : a ∉ X.fs := by
    intro hm
    obtain ⟨e, he, q⟩ := List.mem_filterMap.mp hm
    exact outside (List.mem_filterMap.mpr ⟨e, List.mem_cons_of_mem _ he, q⟩)
  have S3 := J3.suite he3 hd3 na nL nF
  have look : ∀ {x : Str} {c : Value} {np : Pos} {Q : Value → Shared → Prop} {E : Value → Shared → Prop}, Names X x c → Q c { s' with heap := h3 } →
      wpAny (model X.prog X.w) (X.A.mark (some (.ref a))) (eval (.Name x np) X.env) Q E { s' with heap := h3 } := by
    intro x c np Q E hc q
    obtain ⟨hg, hdbg, hm | ⟨hm, hv, hnn⟩⟩ := hc
    · exact ld_glob (X := X.suite a ((a, oe3) :: (X.pn ++ pins))) S3 hg hm q hdbg
    · exact ld_blt (X := X.suite a ((a, oe3) :: (X.pn ++ pins))) S3 hg hm hv q hnn hdbg
  have kindA : PySem.W.Looks (model X.prog X.w) h3 (typeOf (.ref a)) cls := by
    intro A Q E s kp q
    exact wpAny_typeOf_ref (kp _ _ he3) (by rw [hz3.1]; exact q)
  induction C with
  | nil =>
    intro wish
    refine wpAny_handleBy_nil ?_
    obtain ⟨k1, k2, k3, oe, vs, T, oT, ts', he, hz, hd, h1, hr⟩ := id fl3
    unfold PySem.passOn
    refine wpAny_bind (wpAny_field he hd h1 ?_)
    rw [if_neg (show ¬ ((Value.ref T == Value.none) = true) from by simp)]
    have out : wpAny (model X.prog X.w) X.A (setFlight (.ref a) X.env.frame)
        (fun _ s4 => wpAny (model X.prog X.w) X.A (throw (.ref a) : Sem Flow) (SP X pins D) X.xe s4) X.xe { s' with heap := h3 } := by
      rw [hf]
      refine HandSPX.setFlight_upZ fl3 fun h4 hh4 up4 => wpAny_throw (tk _ _ ?_)
      exact ⟨a, B, sI, pins, σ', H', cls, d, rfl, J, nb, upA.trans up4, .inr (.inr (by rw [hs]; exact hh4)), na, os, ag, wish⟩
    first
      | exact wpAny_bind (wpAny_pure (wpAny_bind out))
      | exact wpAny_bind out
  | @plain x c ts b₀ suite np pos' hds2 l2 hc hsu r ih =>
    intro wish
    obtain ⟨b, hb1, yes, no⟩ := wish
    refine wpAny_handleBy_cons (codeAny_handlers_test ?_) (by intro q; cases q)
    have LM := PySem.W.exm_one (M := model X.prog X.w) (J3.kIn) kindA hb1
    refine look hc (LM.here ?_)
    cases b with
    | false => exact ih (no rfl)
    | true =>
      refine codeAny_handlers_suite (HandSPX.lands_againZ fl3 fun h4 fl4 up4 => ?_)
      have J4 : Inv X pins σ' H' { s' with heap := h4 } := J.landed nb fl4.1 (upA.trans up4) os ag
      obtain ⟨oe4, vs4, he4, hz4, hd4⟩ := fl4.there
      have S4 := J4.suite he4 hd4 na nL nF
      refine wpAny_mono ((hsu a oe4 cls d (X.pn ++ pins) hz4 ⟨_, hd4⟩).run [] _ _ H' _ S4 (yes rfl a na)) (fun f s6 hsp => ?_) (fun _ _ z => False.elim z)
      cases f with
      | next => exact hsp.imp fun _ z => z.imp fun _ z => ⟨z.1.unsuite ok, z.2⟩
      | brk => exact hsp.imp fun _ z => z.imp fun _ z => ⟨z.1.unsuite ok, z.2⟩
      | cont => exact hsp.imp fun _ z => z.imp fun _ z => ⟨z.1.unsuite ok, z.2⟩
      | ret u => exact hsp.imp fun _ z => z.imp fun _ z => z.imp fun _ z => ⟨z.1.unsuite ok, z.2⟩
  | @named x n i c ts b₀ suite np pos' hds2 l2 hN hi hln hc hsu r ih =>
    intro wish
    obtain ⟨b, hb1, yes, no⟩ := wish
    refine wpAny_handleBy_cons (codeAny_handlers_test ?_) (by intro q; cases q)
    have LM := PySem.W.exm_one (M := model X.prog X.w) (J3.kIn) kindA hb1
    refine look hc (LM.here ?_)
    cases b with
    | false => exact ih (no rfl)
    | true =>
      refine codeAny_handlers_suite_as (HandSPX.lands_againZ fl3 fun h4 fl4 up4 => ?_)
      have J4 : Inv X pins σ' H' { s' with heap := h4 } := J.landed nb fl4.1 (upA.trans up4) os ag
      obtain ⟨oe4, vs4, he4, hz4, hd4⟩ := fl4.there
      have S4 := J4.suite he4 hd4 na nL nF
      refine store_ok (X := X.suite a ((a, oe4) :: (X.pn ++ pins))) (v := .ref a) S4 hN hi (.inl hln) rfl (fun s5 S5 => ?_) (.inr hln)
      refine wpAny_mono ((hsu a oe4 cls d (X.pn ++ pins) hz4 ⟨_, hd4⟩).run [] s5 _ H' _ S5 (yes rfl a na)) (fun f s6 hsp => ?_) (fun _ _ z => False.elim z)
      have gone : ∀ {σ6 : L2.St} {H6 : Hp} {Q : Shared → Prop}, Inv (X.suite a ((a, oe4) :: (X.pn ++ pins))) [] σ6 H6 s6 → (∀ s7, Inv X pins (σ6.set i none) H6 s7 → Q s7) →
          wpAny (model X.prog X.w) X.A (do bindName X.env n .none; unbindBehindTheSuite X.env n pos') (fun _ s7 => Q s7) X.xe s6 :=
        fun {σ6 H6 Q} S6 hq => gone_ok (S6.unsuite ok) hN hi hln hq
      cases f with
      | next =>
        obtain ⟨σ6, H6, S6, q6⟩ := hsp
        exact gone S6 fun s7 J7 => ⟨_, _, J7, q6⟩
      | brk =>
        obtain ⟨σ6, H6, S6, q6⟩ := hsp
        exact gone S6 fun s7 J7 => ⟨_, _, J7, q6⟩
      | cont =>
        obtain ⟨σ6, H6, S6, q6⟩ := hsp
        exact gone S6 fun s7 J7 => ⟨_, _, J7, q6⟩
      | ret u =>
        obtain ⟨v6, σ6, H6, S6, r6, q6⟩ := hsp
        exact gone S6 fun s7 J7 => ⟨_, _, _, J7, r6, q6⟩
/-- try: .. except X as e: .. except Y: .. -/
theorem ps_tryC (hs : X.stack = X.env :: X.outer) (hf : X.env.frame = some X.env.locals) (tk : Takes X Wout)
    (hb : ∀ (W : WX) (pn : List (Addr × Obj)) (xe : Value → Shared → Prop), Takes (X.tr pn xe) W → PassesOwn (model X.prog X.w) X.A X.env xe → PSs (X.tr pn xe) body (tb W))
    (hh : Clauses X (h₀ :: hds) l) : PS X (.Try body (h₀ :: hds) [] [] pos) (fun D σ H => tb (wClauses X.K Wout D l) D σ H) := by
  constructor
  intro pins s σ H D I h
  have ok := I.ok
  have fr : X.A.frames = some (X.env :: X.outer) := by rw [ok.frames, hs]
  refine wpAny_Try_except ?_
  have meet : Takes (X.tr (X.pn ++ pins) (fun e s₁ => wpAny (model X.prog X.w) X.A (noteFrame e X.env) (fun _ s₂ => wpAny (model X.prog X.w) X.A (setFlight e none)
      (fun _ s₃ => wpAny (model X.prog X.w) X.A (handleBy e X.env (h₀ :: hds)) (SP X pins D) X.xe s₃) X.xe s₂) X.xe s₁)) (wClauses X.K Wout D l) := by
    intro u s' xx
    obtain ⟨a, B, sI, pins', σ', H', cls, d, rfl, J', nb, up, sky, na, os, ag, wish⟩ := xx
    have sky' : Sky B (X.env :: X.outer) a (Zc cls d) X.env.locals s'.heap := by rw [← hs]; exact sky
    show wpAny (model X.prog X.w) X.A (noteFrame (.ref a) X.env) _ _ _
    exact Sky.land Zc.steady fr hf sky' fun h3 fl3 up3 => clauses_go hs hf tk (J'.ofTry ok) nb up na os ag fl3 up3 hh wish
  have run := (hb _ _ _ meet PassesOwn.looking).run [] s σ H D (I.toTry _) h
  refine wpAny_mono run (fun f s1 hsp => ?_) (fun e s1 he => he)
  cases f with
  | next =>
    obtain ⟨σ', H', J', q⟩ := hsp
    exact wpAny_execs_nil ⟨σ', H', J'.ofTry ok, q⟩
  | brk => exact hsp.imp fun _ z => z.imp fun _ z => ⟨z.1.ofTry ok, z.2⟩
  | cont => exact hsp.imp fun _ z => z.imp fun _ z => ⟨z.1.ofTry ok, z.2⟩
  | ret u => exact hsp.imp fun _ z => z.imp fun _ z => z.imp fun _ z => ⟨z.1.ofTry ok, z.2⟩
end
end GG

set_option maxHeartbeats 4000000
namespace GG
open PySem PySem.Spec PyProof.Rows L2 LamX
/-! ### the end of a law's row whose text makes lambdas -/
section
variable {P : Program} {w : World} {K : PySem.W.Frag} {mg mb : Str → Option Value} {CX : CXT} {k : Nat} {fa a : Addr} {cs : List (Addr × Addr)} {fd : FuncData}
  {x : Str} {sp : Sp} {s₁ : Shared} {vs : List Value} {ns : List Int}
theorem law_coreT {H : Hp} (KX : K.In s₁.heap) (ng : s₁.heap.Ns mainGlobals mg) (nb : s₁.heap.Ns builtinsNs mb)
    (bb : ∀ x : Str, x ≠ "__name__" → mb x = bootBuiltins x) (lim : s₁.heap.NoLimit) (g0 : s₁.gens = #[])
    (empties : ∀ p ∈ cs, s₁.heap.get? p.2 = some { cls := .none, data := .fields #[] }) (notT : ∀ p ∈ cs, K.lookup p.2 = none)
    (code : ∀ p ∈ cs, PySem.W.CodeHd s₁.heap p.1 p.2)
    (hbm : ∃ (bm : Addr) (ob : Obj), mg "__builtins__" = some (.ref bm) ∧ bm ≠ builtinsNs ∧ s₁.heap.get? bm = some ob ∧ ob.cls = .type "module" ∧ ob.dict = some builtinsNs ∧ ob.data = .plain)
    (ha : s₁.heap.get? a = some { cls := .type "list", data := .seq vs.toArray }) (room : Room k callerA)
    (F : ∀ base : Heap, K.In base → base.Ns mainGlobals mg → (∀ p ∈ cs, TabB base mg p.1 p.2) → FnG P w K mg base CX k fa fd [x] sp)
    (bind : ∀ (s : Shared) (u : Value), BindsTo s fd ⟨[u], []⟩ [(x, u)])
    (want : sp [.ref a] H (fun v _ => v = .bl true) fun _ _ _ => False)
    (noX : ∀ H e s', CX [] H s₁ (fun _ _ _ => False) e s' → False)
    (tabs : ∀ p ∈ cs, H p.2 = some (.tbl #[]))
    (only : ∀ b, H b = none ∨ b ∈ cs.map (·.2) ∨ ∃ o xs, H b = some (.frz o (.lst xs))) (ok : HOk P w H s₁.heap)
    (where_ : ∀ b, H b ≠ none → b = a ∨ b ∈ cs.map (·.2)) (notK : H a ≠ none → K.lookup a = none) :
    codeAny (model P w) callerA (.call (.ref fa) ⟨[.ref a], []⟩)
      (fun r s' => r = .ok (.ret (.bool true)) ∧ OldK s₁.heap s'.heap ∧ s'.os = s₁.os ∧ AllBare s'.gens) s₁ := by
  have tabAt : ∀ b : Addr, b ∈ cs.map (·.2) → s₁.heap.get? b = some { cls := .none, data := .fields #[] } := by
    intro b hb
    obtain ⟨p, hp, e⟩ := List.mem_map.mp hb
    rw [← e]
    exact empties p hp
  have untracked : ∀ {b : Addr} {o : Obj}, s₁.heap.get? b = some o → (∀ vs n, o.data ≠ .seq vs n) → o.data ≠ .fields #[] → H b = none := by
    intro b o e h1 h2
    rcases hq : H b with _ | u
    · rfl
    · rcases where_ b (fun z => by rw [z] at hq; cases hq) with e' | e'
      · rw [e', ha] at e
        cases e
        exact (h1 _ _ rfl).elim
      · rw [tabAt b e'] at e
        cases e
        exact (h2 rfl).elim
  have dictFree : ∀ {b : Addr} {o : Obj} {es : Array DictEntry} {ep : Nat}, s₁.heap.get? b = some o → o.data = .dict es ep → H b = none := by
    intro b o es ep e d
    exact untracked e (fun vs n z => by rw [d] at z; cases z) (fun z => by rw [d] at z; cases z)
  have nsB : ∀ {b : Addr} {m : Str → Option Value}, s₁.heap.Ns b m → (hidT s₁.heap H).Ns b m := by
    rintro b m ⟨o, es, ep, e, d, r⟩
    exact ⟨o, es, ep, hidT_get e (dictFree e d), d, r⟩
  have KB : K.In (hidT s₁.heap H) := by
    intro b o e
    refine hidT_get (KX b o e) ?_
    rcases hq : H b with _ | u
    · rfl
    · rcases where_ b (fun z => by rw [z] at hq; cases hq) with e' | e'
      · rw [e'] at e hq
        rw [notK (fun z => by rw [z] at hq; cases hq)] at e
        cases e
      · obtain ⟨p, hp, ep⟩ := List.mem_map.mp e'
        rw [← ep, notT p hp] at e
        cases e
  have TB : ∀ p ∈ cs, TabB (hidT s₁.heap H) mg p.1 p.2 := by
    intro p hp
    have atP := empties p hp
    refine ⟨?_, ?_, fun z => ?_⟩
    · obtain ⟨o, us, file, tf, flags, tg, inF, text, tt, e1, r1, r2, r3, r4, r5, r6, r7, r8, hne⟩ := code p hp
      refine ⟨o, us, file, tf, flags, tg, inF, text, tt, hidT_get e1 (untracked e1 (fun vs n z => ?_) fun z => ?_), r1, r2, r3, r4, r5, r6, r7, r8, hne⟩
      · rw [r2] at z
        cases z
      · rw [r2] at z
        cases z
        simp at r3
    · obtain ⟨bm, ob, b1, b2, b3, b4, b5, b6⟩ := hbm
      have notG : bm ≠ mainGlobals := by
        intro q
        obtain ⟨o, es, ep, e, hd, _⟩ := ng
        rw [q, e] at b3
        cases b3
        rw [hd] at b6
        cases b6
      have notP : bm ≠ p.2 := by
        intro q
        rw [q, atP] at b3
        cases b3
        cases b6
      refine ⟨bm, ob, b1, b2, notG, notP, hidT_get b3 (untracked b3 (fun vs n z => ?_) fun z => ?_), b4, b5, b6⟩
      · rw [b6] at z
        cases z
      · rw [b6] at z
        cases z
    · obtain ⟨o, es, ep, e, hd, _⟩ := ng
      rw [z, atP] at e
      cases e
      cases hd
  have en : Env0 P w K mg (hidT s₁.heap H) callerA [] s₁ H := by
    refine ⟨rfl, ⟨KB, nsB ng, ⟨mb, nsB nb, bb⟩, ?_⟩, fun b o e => of_hidT e, Nat.le_of_eq (hidT_size _ _), trivial, ?_, ok, .of_eq g0⟩
    · obtain ⟨mc, h1, h2⟩ := lim
      exact ⟨mc, nsB h1, h2⟩
    · intro b z
      cases (show b ∈ ([] : List Addr) from z)
  refine codeAny_mono ((F _ KB (nsB ng) TB).go callerA [] s₁ H ⟨[.ref a], []⟩ [.ref a] [.ref a] _ _ rfl room en
    (bind s₁ (.ref a)) (.cons rfl .nil) want) ?_
  intro r s' z
  cases r with
  | error e => exact (noX H e s' z).elim
  | ok fl =>
    cases fl with
    | next => exact z.elim
    | brk => exact z.elim
    | cont => exact z.elim
    | ret u =>
      obtain ⟨v, H', os, bare, un, ok', rv, q⟩ := z
      cases (show v = .bl true from q)
      cases (show u = Value.bool true from rv)
      have stays : ∀ b o, b ∉ cs.map (·.2) → s₁.heap.get? b = some o → s'.heap.get? b = some o := by
        intro b o nb e
        rcases only b with hq | hq | ⟨ob, xs, hq⟩
        · exact un.keep b o e hq (fun z => by cases (show b ∈ ([] : List Addr) from z)) (fun z => by cases z)
        · exact absurd hq nb
        · have f1 := (ok b _ hq).left
          have f2 := (ok' b _ (un.frzs b ob _ hq)).left
          rw [e] at f1
          cases f1
          exact f2
      have grows : ∀ p ∈ cs, ∃ more : Array Value, s'.heap.get? p.2 = some { cls := .none, data := .fields more } := by
        intro p hp
        obtain ⟨more, z⟩ := un.tbls p.2 #[] (tabs p hp)
        exact ⟨_, ok' p.2 _ z⟩
      refine ⟨rfl, ⟨fun b o e => ?_, fun b o e => ?_⟩, os, bare⟩
      · by_cases hb : b ∈ cs.map (·.2)
        · obtain ⟨p, hp, ep⟩ := List.mem_map.mp hb
          obtain ⟨more, hm⟩ := grows p hp
          rw [← ep] at e ⊢
          rw [empties p hp] at e
          cases e
          exact .inr (.inl ⟨((code p hp).tab (empties p hp)).isCodeTable, rfl, #[], more, rfl, by rw [Array.empty_append]; exact hm⟩)
        · exact .inl (stays b o hb e)
      · by_cases hb : b ∈ cs.map (·.2)
        · obtain ⟨p, hp, ep⟩ := List.mem_map.mp hb
          obtain ⟨more, hm⟩ := grows p hp
          rw [← ep]
          exact ⟨_, hm⟩
        · exact ⟨o, stays b o hb e⟩
/-- the heap at the law's entry: the script, the tables -/
def entryH (known : Bool) (a : Addr) (vs : List Value) (ns : List Int) (ts : List Addr) : Hp := fun b =>
  if b = a ∧ known = false then some (.frz { cls := .type "list", data := .seq vs.toArray } (.lst (ns.map V.int)))
  else if b ∈ ts then some (.tbl #[]) else none
theorem law_callT (KX : K.In s₁.heap) (ng : s₁.heap.Ns mainGlobals mg) (nb : s₁.heap.Ns builtinsNs mb)
    (bb : ∀ x : Str, x ≠ "__name__" → mb x = bootBuiltins x) (lim : s₁.heap.NoLimit) (g0 : s₁.gens = #[])
    (empties : ∀ p ∈ cs, s₁.heap.get? p.2 = some { cls := .none, data := .fields #[] }) (notT : ∀ p ∈ cs, K.lookup p.2 = none)
    (code : ∀ p ∈ cs, PySem.W.CodeHd s₁.heap p.1 p.2)
    (hbm : ∃ (bm : Addr) (ob : Obj), mg "__builtins__" = some (.ref bm) ∧ bm ≠ builtinsNs ∧ s₁.heap.get? bm = some ob ∧ ob.cls = .type "module" ∧ ob.dict = some builtinsNs ∧ ob.data = .plain)
    (ha : s₁.heap.get? a = some { cls := .type "list", data := .seq vs.toArray }) (hi : IntsAre vs ns) (hl : ns.length ≤ sizeLine) (room : Room k callerA)
    (F : ∀ base : Heap, K.In base → base.Ns mainGlobals mg → (∀ p ∈ cs, TabB base mg p.1 p.2) → FnG P w K mg base CX k fa fd [x] sp)
    (bind : ∀ (s : Shared) (u : Value), BindsTo s fd ⟨[u], []⟩ [(x, u)])
    (want : ∀ H : Hp, (∀ p ∈ cs, H p.2 = some (.tbl #[])) → SqL K H a (ns.map V.int) → sp [.ref a] H (fun v _ => v = .bl true) fun _ _ _ => False)
    (noX : ∀ H e s', CX [] H s₁ (fun _ _ _ => False) e s' → False) :
    codeAny (model P w) callerA (.call (.ref fa) ⟨[.ref a], []⟩)
      (fun r s' => r = .ok (.ret (.bool true)) ∧ OldK s₁.heap s'.heap ∧ s'.os = s₁.os ∧ AllBare s'.gens) s₁ := by
  have vi := vals_ints hi
  have tabAt : ∀ b : Addr, b ∈ cs.map (·.2) → s₁.heap.get? b = some { cls := .none, data := .fields #[] } := by
    intro b hb
    obtain ⟨p, hp, e⟩ := List.mem_map.mp hb
    rw [← e]
    exact empties p hp
  have aT : a ∉ cs.map (·.2) := by
    intro z
    have q := tabAt a z
    rw [ha] at q
    cases (show Data.seq vs.toArray _ = Data.fields #[] from congrArg Obj.data (Option.some.inj q))
  have atTab : ∀ (kn : Bool) b, b ∈ cs.map (·.2) → entryH kn a vs ns (cs.map (·.2)) b = some (.tbl #[]) := by
    intro kn b hb
    unfold entryH
    rw [if_neg (fun (z : b = a ∧ kn = false) => aT (z.1 ▸ hb)), if_pos hb]
  have inTabs : ∀ p ∈ cs, p.2 ∈ cs.map (·.2) := fun p hp => List.mem_map.mpr ⟨p, hp, rfl⟩
  have cases3 : ∀ (kn : Bool) b, (b = a ∧ kn = false ∧ entryH kn a vs ns (cs.map (·.2)) b = some (.frz { cls := .type "list", data := .seq vs.toArray } (.lst (ns.map V.int)))) ∨
      (b ∈ cs.map (·.2) ∧ entryH kn a vs ns (cs.map (·.2)) b = some (.tbl #[])) ∨ entryH kn a vs ns (cs.map (·.2)) b = none := by
    intro kn b
    by_cases h1 : b = a ∧ kn = false
    · exact .inl ⟨h1.1, h1.2, if_pos h1⟩
    · by_cases h2 : b ∈ cs.map (·.2)
      · exact .inr (.inl ⟨h2, atTab kn b h2⟩)
      · refine .inr (.inr ?_)
        unfold entryH
        rw [if_neg h1, if_neg h2]
  have main : ∀ kn : Bool, SqL K (entryH kn a vs ns (cs.map (·.2))) a (ns.map V.int) → (kn = false → K.lookup a = none) →
      codeAny (model P w) callerA (.call (.ref fa) ⟨[.ref a], []⟩)
        (fun r s' => r = .ok (.ret (.bool true)) ∧ OldK s₁.heap s'.heap ∧ s'.os = s₁.os ∧ AllBare s'.gens) s₁ := by
    intro kn sq hk
    refine law_coreT KX ng nb bb lim g0 empties notT code hbm ha room F bind (want _ (fun p hp => atTab kn _ (inTabs p hp)) sq) noX
      (fun p hp => atTab kn _ (inTabs p hp)) (fun b => ?_) (fun b u z => ?_) (fun b z => ?_) (fun z => ?_)
    · rcases cases3 kn b with ⟨_, _, e⟩ | ⟨e, _⟩ | e
      · exact .inr (.inr ⟨_, _, e⟩)
      · exact .inr (.inl e)
      · exact .inl e
    · rcases cases3 kn b with ⟨rfl, _, e⟩ | ⟨m, e⟩ | e
      · rw [e] at z
        cases z
        exact ⟨ha, by rw [List.length_map]; exact hl, vs, _, vi, ha⟩
      · rw [e] at z
        cases z
        exact tabAt b m
      · rw [e] at z
        cases z
    · rcases cases3 kn b with ⟨e, _⟩ | ⟨m, _⟩ | e
      · exact .inl e
      · exact .inr m
      · exact absurd e z
    · rcases cases3 kn a with ⟨_, e, _⟩ | ⟨m, _⟩ | e
      · exact hk e
      · exact absurd m aT
      · exact absurd e z
  rcases hk : K.lookup a with _ | o
  · refine main false (.inl (.inr ⟨{ cls := .type "list", data := .seq vs.toArray }, if_pos ⟨rfl, rfl⟩⟩)) (fun _ => hk)
  · have e := KX a o hk
    rw [ha] at e
    cases e
    refine main true (.inr ⟨_, vs.toArray, _, hk, rfl, rfl, rfl, by rw [List.size_toArray, hi.length]; exact hl, by simpa using vi⟩) (fun z => by cases z)
end
/-- what is known of the law's promise at the head's heap h -/
def LawT (l : PySem.W.OpenLaw) (w : World) (K : PySem.W.Frag) (CX : CXT) (k n : Nat) (x : Str) (mg : Str → Option Value) (fa : Addr) (h : Heap) : Prop :=
  ∃ (fd : FuncData) (cs : List (Addr × Addr)) (sp : Sp), (∀ p ∈ cs, h.get? p.2 = some { cls := .none, data := .fields #[] }) ∧ (∀ p ∈ cs, K.lookup p.2 = none) ∧
    (∀ p ∈ cs, PySem.W.CodeHd h p.1 p.2) ∧ (∀ (s : Shared) (u : Value), BindsTo s fd ⟨[u], []⟩ [(x, u)]) ∧
    (∀ (H : Hp) (a : Addr) (ns : List Int), ns.length ≤ n → (∀ p ∈ cs, H p.2 = some (.tbl #[])) → SqL K H a (ns.map V.int) →
      sp [.ref a] H (fun v _ => v = .bl true) fun _ _ _ => False) ∧
    ∀ base : Heap, K.In base → base.Ns mainGlobals mg → (∀ p ∈ cs, TabB base mg p.1 p.2) → FnG l.prog w K mg base CX k fa fd [x] sp
theorem walkT {l : PySem.W.OpenLaw} {n k : Nat} {q : Program} {loose : List Str} {XP : (Str → Option Value) → Heap → Prop} {YP : World → Heap → Prop} {d : DefRec}
    {K : Params → PySem.W.Frag} {CX : World → CXT} {x : Str}
    (hn : l.most = some n) (hn2 : n ≤ sizeLine) (hdf : d.params.defaults = []) (room : Room k callerA) (hY : ∀ (w : World) (h : Heap), YP w h → (K w.params).In h)
    (F : ∀ (w : World) (mg : Str → Option Value) (fa : Addr) (h : Heap), YP w h → (K w.params).In h → h.Ns mainGlobals mg → mg d.name = some (.ref fa) →
      LawT l w (K w.params) (CX w) k n x mg fa h)
    (noX : ∀ (w : World) (H : Hp) (s : Shared) (e : Value) (s' : Shared), CX w [] H s (fun _ _ _ => False) e s' → False) :
    PySem.W.WalkO q loose XP YP l.row.toRowW d [] (fun f vs => PySem.call f vs) := by
  apply Att.attach_call hn hdf
  intro w s₀ s₁ mg mb fa o pm cd doc a vs ns G Y ho hd hcd hmg hobj hints hlen hg
  obtain ⟨fd, cs, sp, h1, h2, h3, hb, hsp, hF⟩ := F w mg fa _ Y (hY w _ Y) G.T.g hmg
  exact law_callT (hY w _ Y) G.T.g G.T.b G.T.builtins G.T.nolimit hg h1 h2 h3 G.T.bmain hobj hints (Nat.le_trans hlen hn2) room hF hb
    (fun H hH hS => hsp H a ns hlen hH hS) (fun H e s' => noX w H s₁ e s')
end GG

set_option maxHeartbeats 4000000
namespace K02
open PySem PySem.Spec PyProof.Rows L2 GG
def topS (i : Nat) : Stmt := PySem.Challenge.pw_onebetween_k02_whole_powers_and_figures.main.body.getD i (.Pass ⟨0, 0, 0, 0⟩)
abbrev sDice : Stmt := topS 19
abbrev sRoll : Stmt := topS 20
abbrev sPick : Stmt := topS 21
theorem scDice : FnScope ["script", "spot", "cell", "left"] ["script", "spot"] (defScope sDice) := ⟨rfl, rfl, rfl, by decide +kernel, rfl, by decide +kernel, by decide +kernel⟩
theorem scRoll : FnScope ["dice", "total", "found", "one", "two"] ["dice", "total"] (defScope sRoll) := ⟨rfl, rfl, rfl, by decide +kernel, rfl, by decide +kernel, by decide +kernel⟩
theorem scPick : FnScope ["dice", "items"] ["dice", "items"] (defScope sPick) := ⟨rfl, rfl, rfl, by decide +kernel, rfl, by decide +kernel, by decide +kernel⟩
section
variable {P : Program} {w : World} {K : PySem.W.Frag} {mg : Str → Option Value} {base : Heap}
theorem ok_dice {f : Addr} {fd : FuncData} {k : Nat} (F : Fun K "_law_dice" "_law_dice" sDice f fd)
    (ml : mg "len" = none) (mi : mg "int" = none) (mx : mg "max" = none) (ma : mg "abs" = none) :
    FnOk P w K mg base CX0 (k + 1) f fd ["script", "spot"] (spDice K) := by
  refine F.ok scDice (fun vs H Q E h => ?_) (fun cdv A outer s H vs Q E hr h => ?_)
  · obtain ⟨a, ns, spot, rfl, _⟩ := h
    rfl
  · obtain ⟨a, ns, spot, rfl, hS, hsp, q⟩ := h
    refine ⟨_, pss_cons (ps_set (i := 2) scDice.nd rfl (.inl rfl)
        (pe_ifExp (pt_cmpR op_lt (pv 1) (pe_callB call_len_seq (by rfl) ml PySem.boot_len (pa_cons (pv 0) pa_nil)) (nomark _))
          (pe_callTy call_int1 (by rfl) mi (by decide +kernel) (pa_cons (pe_ix ix_list (pv 0) (pv 1) (fun _ _ => rfl)) pa_nil))
          (pe_op op_add (pe_op op_mul pe_int (pv 1)) pe_int)))
      (pss_cons (ps_set (i := 3) scDice.nd rfl (.inl rfl)
        (pe_op op_mod (pe_callB (call_max2 rfl) (by rfl) mx (by decide +kernel) (pa_cons pe_int (pa_cons (pe_op op_sub (pe_callB call_abs (by rfl) ma (by decide +kernel) (pa_cons (pv 2) pa_nil)) (pe_op op_pow pe_int pe_int)) pa_nil)))
          (pe_op op_mulW (pe_op op_pow pe_int pe_int) (pe_op op_pow pe_int pe_int))))
      (pss_one (ps_ret (pe_lst (pa_cons (pv 3) (pa_cons
        (pe_op op_add (pe_op op_add (pe_op op_add (pe_op op_mul (pe_op op_mod (pe_callB call_abs (by rfl) ma (by decide +kernel) (pa_cons (pv 2) pa_nil)) pe_int) pe_int) (pe_op op_mul pe_int (pv 1)))
          (pe_op op_mul pe_int (pe_callTy call_int1 (by rfl) mi (by decide +kernel) (pa_cons (pe_cmpR op_lt (pv 2) pe_int (nomark _)) pa_nil)))) pe_int)
        (pa_cons pe_int pa_nil))))))), ?_⟩
    refine ⟨.int spot, rfl, .ref a, rfl, a, _, rfl, .inl hS, _, _, rfl, rfl, _, rfl, ite2 (fun e => ?_) (fun e => ?_)⟩
    · have e1 := of_decide_eq_true e
      rw [List.length_map] at e1
      have e2 : spot < ns.length := by omega
      have g : (ns.map V.int)[spot]? = some (.int ns[spot]) := by
        rw [List.getElem?_map, List.getElem?_eq_getElem e2]
        rfl
      refine ⟨.ref a, rfl, .int spot, rfl, a, _, spot, .int ns[spot], rfl, rfl, hS, atI_nat g, .inl ⟨_, rfl, ?_⟩⟩
      refine ⟨_, rfl, _, rfl, _, _, rfl, rfl, ⟨by decide, by decide, by decide⟩, _, _, rfl, rfl, _, _, rfl, _, _, rfl, rfl, ⟨by decide, by decide, by decide⟩, _, _, rfl, rfl, ⟨by decide, by decide, by decide⟩, _, _, rfl, rfl, mul60, _, _, rfl, rfl, pos60, ?_⟩
      refine ⟨_, rfl, _, rfl, _, rfl, _, _, rfl, rfl, (show (0 : Int) < 1152921504606846809 by decide), _, _, rfl, rfl, .inr (by decide), _, rfl, _, _, rfl, rfl, .inl (by decide), _, _, rfl, rfl, _, rfl, _, _, rfl, rfl, .inr ⟨_, rfl, _, _, rfl, rfl, .inl (by decide), _, _, rfl, rfl, _, _, rfl, rfl, (by show 3 ≤ sizeLine; decide), fun p np => ?_⟩⟩
      exact q _ p (sameUpd np) np ⟨_, _, _, upd_same, Int.emod_nonneg _ (by have := pos60; omega)⟩
    · refine ⟨_, rfl, _, _, rfl, rfl, .inl (by decide), _, _, rfl, rfl, ?_⟩
      refine ⟨_, rfl, _, rfl, _, _, rfl, rfl, ⟨by decide, by decide, by decide⟩, _, _, rfl, rfl, _, _, rfl, _, _, rfl, rfl, ⟨by decide, by decide, by decide⟩, _, _, rfl, rfl, ⟨by decide, by decide, by decide⟩, _, _, rfl, rfl, mul60, _, _, rfl, rfl, pos60, ?_⟩
      refine ⟨_, rfl, _, rfl, _, rfl, _, _, rfl, rfl, (show (0 : Int) < 1152921504606846809 by decide), _, _, rfl, rfl, .inr (by decide), _, rfl, _, _, rfl, rfl, .inl (by decide), _, _, rfl, rfl, _, rfl, _, _, rfl, rfl, .inr ⟨_, rfl, _, _, rfl, rfl, .inl (by decide), _, _, rfl, rfl, _, _, rfl, rfl, (by show 3 ≤ sizeLine; decide), fun p np => ?_⟩⟩
      exact q _ p (sameUpd np) np ⟨_, _, _, upd_same, Int.emod_nonneg _ (by have := pos60; omega)⟩
theorem ok_roll {f : Addr} {fd : FuncData} {k : Nat} (F : Fun K "_law_roll" "_law_roll" sRoll f fd) (mi : mg "int" = none) :
    FnOk P w K mg base CX0 (k + 1) f fd ["dice", "total"] spRoll := by
  refine F.ok scRoll (fun vs H Q E h => ?_) (fun cdv A outer s H vs Q E hr h => ?_)
  · obtain ⟨a, n, rfl, _⟩ := h
    rfl
  · obtain ⟨l, n, rfl, ⟨a, b, c, hd, ha⟩, h0, h1, q⟩ := h
    have at0 : atI [V.int a, .int b, .int c] 0 = some (.int a) := rfl
    have at1 : atI [V.int a, .int b, .int c] 1 = some (.int b) := rfl
    have at2 : atI [V.int a, .int b, .int c] 2 = some (.int c) := rfl
    refine ⟨_, pss_cons (ps_if (pt_cmpR op_gt (pe_ix ix_list (pv 0) pe_int (fun _ _ => rfl)) pe_int (nomark _))
        (pss_cons (ps_set (i := 2) scRoll.nd rfl (.inl rfl) (pe_op op_mod (pe_callTy call_int1 (by rfl) mi (by decide +kernel) (pa_cons (pe_ix ix_list (pv 0) pe_int (fun _ _ => rfl)) pa_nil)) (pv 1)))
        (pss_cons (ps_asg (pe_op op_fdiv (pe_ix ix_list (pv 0) pe_int (fun _ _ => rfl)) (pv 1)) (pg_sub (pv 0) pe_int set_list))
        (pss_one (ps_ret (pv 2))))) pss_nil)
      (pss_cons (ps_asg (pe_op op_add (pe_ix ix_list (pv 0) pe_int (fun _ _ => rfl)) pe_int) (pg_sub (pv 0) pe_int set_list))
      (pss_cons (ps_set (i := 3) scRoll.nd rfl (.inl rfl) (pe_op op_mod (pe_callTy call_int1 (by rfl) mi (by decide +kernel)
          (pa_cons (pe_op op_add (pe_ix ix_list (pv 0) pe_int (fun _ _ => rfl)) (pe_op op_mul pe_int (pe_ix ix_list (pv 0) pe_int (fun _ _ => rfl)))) pa_nil)) pe_int))
      (pss_cons (ps_set (i := 4) scRoll.nd rfl (.inl rfl) (pe_op op_add (pe_op op_mul (pe_op op_mod (pe_callTy call_int1 (by rfl) mi (by decide +kernel)
          (pa_cons (pe_op op_add (pe_op op_mul (pv 3) (pv 3)) (pe_op op_mul pe_int (pe_ix ix_list (pv 0) pe_int (fun _ _ => rfl)))) pa_nil)) pe_int) pe_int) (pv 3)))
      (pss_one (ps_ret (pe_op op_mod (pe_callTy call_int1 (by rfl) mi (by decide +kernel) (pa_cons (pe_op op_fdiv (pv 4) pe_int) pa_nil)) (pv 1))))))), ?_⟩
    refine ⟨.ref l, rfl, l, _, 0, _, rfl, rfl, .of hd, at0, a, 0, rfl, rfl, _, rfl, ite2 (fun e => ?_) (fun e => ?_)⟩
    · refine ⟨.ref l, rfl, l, _, 0, _, rfl, rfl, .of hd, at0, .inl ⟨a, rfl, .int n, rfl, a, n, rfl, rfl, h0, ?_⟩⟩
      refine ⟨.ref l, rfl, l, _, 0, _, rfl, rfl, .of hd, at0, .int n, rfl, a, n, rfl, rfl, ⟨h0, h1⟩, .ref l, rfl, l, _, 0, 0, rfl, rfl, hd, rfl, ?_⟩
      refine ⟨_, rfl, q _ _ .at ⟨a / n, b, c, upd_same, Int.ediv_nonneg ha (by omega)⟩ (Int.emod_nonneg _ (by omega)) (Int.emod_lt_of_pos _ h0)⟩
    · refine ⟨.ref l, rfl, l, _, 2, _, rfl, rfl, .of hd, at2, c, 1, rfl, rfl, .ref l, rfl, l, _, 2, 2, rfl, rfl, hd, rfl, ?_⟩
      have hd' : (upd H l (.lst [.int a, .int b, .int (c + 1)])) l = some (.lst [.int a, .int b, .int (c + 1)]) := upd_same
      have at1 : atI [V.int a, .int b, .int (c + 1)] 1 = some (.int b) := rfl
      have at2 : atI [V.int a, .int b, .int (c + 1)] 2 = some (.int (c + 1)) := rfl
      have p1 : (0 : Int) < 2305843009213693669 := by decide
      have p2 : (0 : Int) < 1152921504606846779 := by decide
      refine ⟨.ref l, rfl, l, _, 1, _, rfl, rfl, .of hd', at1, .ref l, rfl, l, _, 2, _, rfl, rfl, .of hd', at2, _, _, rfl, rfl, .inl (by decide), _, _, rfl, rfl, .inl ⟨_, rfl, _, _, rfl, rfl, p1, ?_⟩⟩
      have b0 := Int.emod_nonneg (b + 86028121 * (c + 1)) (show (2305843009213693669 : Int) ≠ 0 by decide)
      have b1 := Int.emod_lt_of_pos (b + 86028121 * (c + 1)) p1
      refine ⟨_, rfl, _, rfl, _, _, rfl, rfl, .inl ⟨Int.lt_of_lt_of_le (by decide) b0, Int.lt_trans b1 (by decide)⟩, .ref l, rfl, l, _, 2, _, rfl, rfl, .of hd', at2, _, _, rfl, rfl, .inl (by decide), _, _, rfl, rfl, .inl ⟨_, rfl, _, _, rfl, rfl, p2, ?_⟩⟩
      refine ⟨_, _, rfl, rfl, .inr (by decide), _, rfl, _, _, rfl, rfl, ?_⟩
      refine ⟨_, rfl, _, _, rfl, rfl, ⟨by decide, by decide⟩, .inl ⟨_, rfl, .int n, rfl, _, n, rfl, rfl, h0, ?_⟩⟩
      exact q _ _ .at ⟨a, b, c + 1, upd_same, ha⟩ (Int.emod_nonneg _ (by omega)) (Int.emod_lt_of_pos _ h0)
theorem ok_pick {f fR : Addr} {fd fdR : FuncData} (F : Fun K "_law_pick" "_law_pick" sPick f fd) (FR : Fun K "_law_roll" "_law_roll" sRoll fR fdR)
    (bR : Binds K fdR ["dice", "total"] []) (gR : mg "_law_roll" = some (.ref fR)) (ml : mg "len" = none) (mi : mg "int" = none) :
    FnOk P w K mg base CX0 2 f fd ["dice", "items"] (spPick K) := by
  have GR : FnOk P w K mg base CX0 1 fR fdR ["dice", "total"] spRoll := ok_roll FR mi
  refine F.ok scPick (fun vs H Q E h => ?_) (fun cdv A outer s H vs Q E hr h => ?_)
  · obtain ⟨l, a, xs, rfl, _⟩ := h
    rfl
  · obtain ⟨l, a, xs, rfl, hd, ne, hx, h0, h1, q⟩ := h
    refine ⟨_, pss_one (ps_ret (pe_ix ix_seq (pv 1) (pe_call GR hr (by rfl) gR FR.kp bR .nil pass0
      (pa_cons (pv 0) (pa_cons (pe_callB call_len_seq (by rfl) ml PySem.boot_len (pa_cons (pv 1) pa_nil)) pa_nil))) (fun _ _ => rfl))), ?_⟩
    refine ⟨.ref a, rfl, .ref l, rfl, .ref a, rfl, a, xs, rfl, hx, l, xs.length, rfl, hd, by omega, by omega, fun H' r bt hd' r0 r1 => ?_⟩
    have e : xs[r.toNat]? = some xs[r.toNat] := List.getElem?_eq_getElem (by omega)
    have e2 : atI xs r = some xs[r.toNat] := by
      have := atI_nat e
      rwa [show ((r.toNat : Nat) : Int) = r by omega] at this
    rcases hx with hx | hx
    · exact .inl ⟨a, xs, r, _, rfl, rfl, bt.seqL ne hx, e2, q H' r.toNat _ bt hd' e⟩
    · exact .inr (.inl ⟨a, xs, r, _, rfl, rfl, bt.seqT ne hx, e2, q H' r.toNat _ bt hd' e⟩)
end
end K02

set_option maxHeartbeats 4000000
namespace PySem
open Sem (wp)
/-! ### enumerate(v) over whatever iter(v) begins -/
theorem meets_enum1 {v : Value} {o : Obj} {H : Heap → Prop} (B : Begins v o H) :
    Meets (Builtin.«enumerate.__new__» ⟨[.type "enumerate", v], []⟩) (fun _ R s => H s.heap ∧
      R (.ok (.ret (.ref (s.heap.push o).objs.size)))
        { s with heap := (s.heap.push o).push { cls := .type "enumerate", data := .fields #[.none, .bool false, .ref s.heap.objs.size, rawInt 0, .none, .none] } }) :=
  .of_wp fun prog w A R s h => by
    obtain ⟨hp, g, d, tk, os⟩ := s
    obtain ⟨h1, h⟩ := h
    have hsub := sub_enumerate
    have q1 : ∀ {A' : Around} {E : Value → Shared → Prop} {Q : Value → Shared → Prop}, Q (.ref hp.objs.size) ⟨hp.push o, g, d, tk, os⟩ → wpAny (model prog w) A' (pyIter v) Q E ⟨hp, g, d, tk, os⟩ :=
      fun q => B.iter prog w _ _ ⟨hp, g, d, tk, os⟩ _ h1 q
    wp_walk using q1
    refine wpAny_stack_any fun st => wpAny_pure ?_
    split
    · rename_i c _ _ _ _ _
      cases (c == Value.type "enumerate")
      · wp_walk using q1
        exact ⟨_, rfl, h⟩
      · wp_walk using q1
        exact ⟨_, rfl, h⟩
    · wp_walk using q1
      exact ⟨_, rfl, h⟩
section
variable {prog : Program} {w : World} {A : Around} {E : Value → Shared → Prop} {s : Shared}
theorem enum_begins1 {v : Value} {o : Obj} {H : Heap → Prop} {Q : Value → Shared → Prop} (B : Begins v o H) (h1 : H s.heap)
    (h : ∀ h', IsEnum h' (s.heap.objs.size + 1) s.heap.objs.size 0 .none → h'.get? s.heap.objs.size = some o → h'.objs.size = s.heap.objs.size + 2 →
      (∀ b o, s.heap.get? b = some o → h'.get? b = some o) → Q (.ref (s.heap.objs.size + 1)) { s with heap := h' }) :
    wpAny (model prog w) A (call (.type "enumerate") [v]) Q E s := by
  refine callType_new F.called_enumerate (by decide) (F.typeCall_enumerate_1 _) (F.newCall_enumerate_1 _)
    (fun obj => F.args_object_init_2 obj _) F.entry_enumerate_new (meets_enum1 B) ⟨h1, ?_⟩
  have hz : (s.heap.push o).objs.size = s.heap.objs.size + 1 := Heap.size_push ..
  show _ ∧ _
  rw [hz]
  have he : IsEnum ((s.heap.push o).push { cls := .type "enumerate", data := .fields #[.none, .bool false, .ref s.heap.objs.size, rawInt 0, .none, .none] })
      (s.heap.objs.size + 1) s.heap.objs.size 0 .none := by
    have := Heap.get?_push_size (s.heap.push o) (o := { cls := .type "enumerate", data := .fields #[.none, .bool false, .ref s.heap.objs.size, rawInt 0, .none, .none] }) rfl
    rw [hz] at this
    exact this
  exact ⟨⟨_, he, rfl⟩, h _ he (Heap.get?_push_of_some _ (Heap.get?_push_size _ B.free)) (by rw [Heap.size_push, hz])
    fun b o x => Heap.get?_push_of_some _ (Heap.get?_push_of_some _ x)⟩
end
end PySem
namespace GG
open PySem PySem.Spec PyProof.Rows L2
/-- the tuple at a, its items with their places in new pairs -/
def Itet (K : PySem.W.Frag) (a : Addr) : It :=
  ⟨fun i H => ∃ (xs : List V) (x : V), SqT K H a xs ∧ xs[i]? = some x,
   fun i H v H' => ∃ T x, v = .ref T ∧ H T = none ∧ H' = upd H T (.tup [.int (i : Nat), x]) ∧ ∀ xs, SqT K H a xs → xs[i]? = some x,
   fun i H => ∃ xs : List V, SqT K H a xs ∧ xs.length ≤ i⟩
theorem turn_enumT {P : Program} {w : World} {K : PySem.W.Frag} {elts : List Expr} {kk : Nat} {tpos : Pos} (a e it : Addr) (ai : a ≠ it) (ae : a ≠ e) :
    Turn P w K (.Tuple elts kk tpos) (Itet K a) [e, it] e (fun i h => (∃ old, IsEnum h e it ((i : Nat) : Int) old) ∧ h.IsTupleIter it a i ∧ e ≠ it) where
  mem := by simp
  obj := by
    intro i h st b hb
    obtain ⟨⟨old, he⟩, ⟨o, ho, hc, hd⟩, _⟩ := st
    have two : b = e ∨ b = it := by simpa using hb
    rcases two with z | z
    · rw [z]
      exact ⟨_, he, fun v q => nomatch q⟩
    · rw [z]
      exact ⟨o, ho, fun v q => by rw [hd] at q; cases q⟩
  keep := by
    intro i h h' st k
    obtain ⟨⟨old, he⟩, hi, hne⟩ := st
    exact ⟨⟨old, k e (by simp) _ he⟩, hi.at fun o q => k it (by simp) o q, hne⟩
  item := by
    intro X hP hw hK hc i pins s σ H E I hf st hg
    subst hP hw hK
    obtain ⟨⟨old, he⟩, hit, hne⟩ := st
    obtain ⟨xs, x, hq, hx⟩ := hg
    obtain ⟨its, rv, p, hz⟩ := I.tuple hq
    obtain ⟨u, hu, ru⟩ := rv.get hx
    have el : e < s.heap.objs.size := Heap.lt_size he
    have il : it < s.heap.objs.size := by
      obtain ⟨_, q, _⟩ := hit
      exact Heap.lt_size q
    have lt : i < its.toArray.size := by
      have := (List.getElem?_eq_some_iff.mp hu).1
      simpa using this
    have hh : X.A.in1.handled = none := I.ok.hd hc
    have D := Draws.tuple (prog := X.prog) (w := X.w) hh it a ai its.toArray
    have ei : e ∉ [it, a] := by
      intro z
      rcases List.mem_cons.mp z with z | z
      · exact hne z
      · exact ae (List.mem_singleton.mp z).symm
    refine wpAny_pyNext_enum_itemD D he ⟨hit, (show s.heap.IsTuple a its.toArray from p)⟩ lt hne ei ?_
    intro y h' tk hy ho st' hT hsz hk
    have ey : y = u := by
      have : its.toArray[i]? = some u := by simpa using hu
      rw [this] at hy
      exact (Option.some.inj hy).symm
    subst ey
    refine ⟨_, rfl, wpAny_letOwnedTupleGo_enum (s := { s with heap := h', toks := tk + 1 }) ho ?_⟩
    intro h'' he' sb
    have hT2 : h''.get? s.heap.objs.size = some { cls := .type "tuple", data := .seq #[.int i tk, y] } := (sb.2 _ (Nat.ne_of_gt el)).trans hT
    have new : ObjOk X.prog X.w (upd H s.heap.objs.size (.tup [.int (i : Nat), x])) h'' s.heap.objs.size (.tup [.int (i : Nat), x]) :=
      ⟨by show 2 ≤ sizeLine; decide, [.int i tk, y], .cons ⟨_, rfl⟩ (.cons ru .nil), ⟨_, hT2, rfl, _, rfl⟩⟩
    have I1 : Inv X pins σ (upd H s.heap.objs.size (.tup [.int (i : Nat), x])) { s with heap := h'', toks := tk + 1 } := by
      refine I.turnedNew (ch := [e, it]) (fun b ob hb q => ?_) hf (Nat.le_refl _) new
      exact (sb.2 b (fun z => hb (by simp [z]))).trans (hk b ob (fun z => hb (by simp [z])) (fun z => hb (by simp [z])) q)
    refine ⟨.ref s.heap.objs.size, _, I1, rfl, ⟨_, x, rfl, I.hok.fresh (Nat.le_refl _), rfl, fun ys hy => by rw [I.tuple_inj hy hq]; exact hx⟩, ⟨⟨y, ?_⟩, ?_, hne⟩, fun b hb => ?_⟩
    · have e1 : ((i + 1 : Nat) : Int) = (i : Int) + 1 := by omega
      rw [e1]
      exact he'
    · exact st'.1.at fun o q => (sb.2 it (Ne.symm hne)).trans q
    · have lb : b < s.heap.objs.size := by
        have two : b = e ∨ b = it := by simpa using hb
        rcases two with z | z
        · rw [z]
          exact el
        · rw [z]
          exact il
      rw [upd_ne (Nat.ne_of_lt lb)]
      exact (hf b hb).1
  done := by
    intro X hP hw hK hc i pins s σ H E I hf st hg
    subst hP hw hK
    obtain ⟨⟨old, he⟩, hit, hne⟩ := st
    obtain ⟨xs, hq, hx⟩ := hg
    obtain ⟨its, rv, p, hz⟩ := I.tuple hq
    obtain ⟨f0, f1, f2, f3, f4, f5⟩ := hf it (by simp)
    have hl := rv.length
    have hT : s.TypeIs (.ref e) "enumerate" := ⟨_, he, rfl⟩
    unfold pyNext
    refine wpAny_bind (wpAny_attempt (wpAny_callSpecial?_slot (name := Str.ofString "__next__") hT F.slot_enumerate_next
      (wpAny_call_entry F.slot_enumerate_next hT F.entry_enumerate_next ?_ (F.args_enumerate_next_1 _))))
    show wpAny _ _ (field (.ref e) 2 >>= _) _ _ _
    refine wpAny_bind (wpAny_field he rfl (x := .ref it) rfl ?_)
    refine wpAny_bind (wpAny_nextOf_tuple_end (A := X.A.in1) (I.ok.hd hc) hit (show s.heap.IsTuple a its.toArray from p) (by simp; omega) ?_)
    intro h' x he' hx'
    obtain ⟨o, ho, hcl⟩ := hx'
    refine wpAny_bind (wpAny_isInstance (T := "StopIteration") (b := true) ⟨o, ho, hcl⟩ isSubtype_stop ?_)
    exact wpAny_pure ⟨rfl, I.turned (t' := s.toks) (fun b o hb q => he' b o hb q) f0 f1 f3 f4 f5⟩
  self := by
    intro A i s Q E st h
    obtain ⟨⟨_, he⟩, _⟩ := st
    exact wpAny_pyIter_enum he h
def iEnumT (K : PySem.W.Frag) (ta : TA) : TI := fun σ H R => ta σ H fun vs H1 => ∃ a xs, vs = [.ref a] ∧ SqT K H1 a xs ∧ R (Itet K a) H1
theorem pi_enumT {X : Cx} {e : Expr} {ta : TA} {p pos tpos : Pos} {elts : List Expr} {kk : Nat} (hg : Gl X "enumerate") (hm : X.mg "enumerate" = none) (ha : PA X [e] ta)
    (hs : starEach [e] X.env = [(false, eval e X.env)] := by rfl) :
    PI X (.Tuple elts kk tpos) (.Call (.Name "enumerate" p) [e] [] pos) (iEnumT X.K ta) := by
  constructor
  intro pins s σ H R I h
  refine Call_ (ld_blt I hg hm boot_enumerate (PyProof.Rows.callWith_type1 (thn (ha.run pos pins s σ H _ I h) ?_) hs rfl))
  intro us s1 ⟨vs, H1, I1, r1, q1⟩
  obtain ⟨a, xs, ex, hq, q⟩ := q1
  subst ex
  obtain ⟨u, rfl, ru⟩ := vals1 r1
  cases (show u = Value.ref a from ru)
  obtain ⟨its, rv, p', hz⟩ := I1.tuple hq
  have al : a < s1.heap.objs.size := p'.lt
  refine enum_begins1 (begins_tuple a its.toArray) (show s1.heap.IsTuple a its.toArray from p') ?_
  intro h' he hit hsz hk
  refine wpAny_pyIter_enum he ?_
  have I2 : Inv X pins σ H1 { s1 with heap := h' } := I1.kept (t' := s1.toks) hk
  refine ⟨s1.heap.objs.size + 1, [s1.heap.objs.size + 1, s1.heap.objs.size], _, _, H1, rfl, I2,
    turn_enumT a (s1.heap.objs.size + 1) s1.heap.objs.size (Nat.ne_of_lt al) (Nat.ne_of_lt (Nat.lt_succ_of_lt al)), ⟨⟨.none, he⟩, ⟨_, hit, rfl, rfl⟩, Nat.succ_ne_self _⟩, fun b hb => ?_, q⟩
  have two : b = s1.heap.objs.size + 1 ∨ b = s1.heap.objs.size := by simpa using hb
  have le : s1.heap.objs.size ≤ b := by
    rcases two with z | z
    · rw [z]
      exact Nat.le_add_right _ _
    · rw [z]
      exact Nat.le_refl _
  exact I1.fpOk le (I1.hok.fresh le)
theorem walk_enumT {K : PySem.W.Frag} {a : Addr} {xs : List V} : Walk (Itet K a) xs.length (fun H => SqT K H a xs) (YPair (fun i => some (.int (i : Nat))) (fun i => xs[i]?)) := by
  refine ⟨fun i H hi g => ⟨xs, xs[i], g, by simp [hi]⟩, fun H g => ⟨xs, g, Nat.le_refl _⟩, ?_⟩
  intro i H v H' _ g y
  obtain ⟨T, x, h1, h2, h3, h4⟩ := y
  exact ⟨T, _, x, h1, h2, h3, rfl, h4 xs g⟩
end GG

set_option maxHeartbeats 4000000
namespace GG
open PySem PySem.Spec PyProof.Rows L2
/-! ### what the program's smallest functions answer -/
/-- the least integer of more than 200 figures -/
def BND : Int := ((10 ^ 200 : Nat) : Int)
def intOk (i : Int) : Bool := decide (-BND < i) && decide (i < BND)
def cntOk (i : Int) : Bool := intOk i && decide (0 ≤ i)
def inOk (lo hi i : Int) : Bool := intOk i && (decide (lo ≤ i) && decide (i ≤ hi))
/-- a value that is no integer by its kind -/
def NoInt (K : PySem.W.Frag) (H : Hp) (v : V) : Prop := (∃ b, v = .bl b) ∨ ∃ t, TyX K H v (.type t) ∧ kitB t "int" = some false
def spInteger (K : PySem.W.Frag) : Sp := fun vs H Q _ => ∃ v, vs = [v] ∧ ((∃ i, v = .int i ∧ Q (.bl (intOk i)) H) ∨ (NoInt K H v ∧ Q (.bl false) H))
def spCount (K : PySem.W.Frag) : Sp := fun vs H Q _ => ∃ v, vs = [v] ∧ ((∃ i, v = .int i ∧ Q (.bl (cntOk i)) H) ∨ (NoInt K H v ∧ Q (.bl false) H))
def spWithin (K : PySem.W.Frag) : Sp := fun vs H Q _ => ∃ v lo hi, vs = [v, .int lo, .int hi] ∧ ((∃ i, v = .int i ∧ Q (.bl (inOk lo hi i)) H) ∨ (NoInt K H v ∧ Q (.bl false) H))
def spLimit : Sp := fun vs H Q _ => vs = [] ∧ Q (.int BND) H
theorem limE : ((10 : Int) ^ (50 : Int).toNat) ^ (4 : Int).toNat = BND := by decide +kernel
theorem BND_bits : BND.natAbs < 2 ^ 700 := by decide +kernel
theorem intOk_iff {i : Int} : intOk i = true ↔ -BND < i ∧ i < BND := by
  unfold intOk
  rw [Bool.and_eq_true, decide_eq_true_eq, decide_eq_true_eq]
theorem intOk_bits {i : Int} (h : intOk i = true) : i.natAbs < 2 ^ 700 := by
  have h2 := intOk_iff.mp h
  have h3 := BND_bits
  generalize (2 : Nat) ^ 700 = M at h3 ⊢
  omega
theorem intOk_small {i : Int} (h0 : -(10 ^ 60) ≤ i) (h1 : i ≤ 10 ^ 60) : intOk i = true := by
  have e : (10 : Int) ^ 60 < BND := by decide +kernel
  exact intOk_iff.mpr ⟨by omega, by omega⟩
/-! ### small words -/
theorem and2 {tb : TE} {σ : L2.St} {H : Hp} {Q : VK} {c d : Bool} (hb : c = true → ∀ Q' : VK, Q' (.bl d) H → tb σ H Q') (q : Q (.bl (c && d)) H) :
    if c = true then tb σ H Q else Q (.bl false) H := by
  cases c with
  | true => exact iteT (hb rfl Q q)
  | false => exact iteF q
theorem iteN {b : Bool} {A B : Prop} (h : b = true) (x : B) : if (!b) = true then A else B := by
  subst h
  exact iteF x
theorem iteTo {b : Bool} {A B : Prop} (h : b = true) (x : A) : if b = true then A else B := by
  subst h
  exact iteT x
theorem iteFo {b : Bool} {A B : Prop} (h : b = false) (x : B) : if b = true then A else B := by
  subst h
  exact iteF x
theorem sameUpd2 {H : Hp} {p : Addr} {o o' : HO} (h : H p = none) : Same H (upd (upd H p o) p o') := by
  rw [upd_upd]
  exact sameUpd h
/-! ### repr, of dicts too -/
/-- data whose repr is told: without dicts, or an empty dict -/
def Rp (K : PySem.W.Frag) (H : Hp) (x : V) (d : PyData) : Prop :=
  (Dp K H x d ∧ d.showable = true ∧ d.hasDict = false ∧ d.depth ≤ 40 ∧ d.shown.length ≤ sizeLine) ∨ ∃ a, x = .ref a ∧ H a = some (.dK []) ∧ d = .dict []
def rReprD (K : PySem.W.Frag) : List V → Hp → VK → Prop := fun xs H Q => ∃ x d, xs = [x] ∧ Rp K H x d ∧ Q (.str d.shown) H
theorem call_reprR {X : Cx} (gd : X.A.guards = some []) (un : X.A.units + 64 < cLine) : CallR X (.builtin "repr") (rReprD X.K) := by
  intro pins s σ H xs us Q I r h
  obtain ⟨x, d, rfl, ⟨hd, ok⟩ | ⟨a, rfl, ha, rfl⟩, q⟩ := h
  · exact call_reprU gd un pins s σ H _ us Q I r ⟨x, d, rfl, hd, ok, q⟩
  · obtain ⟨u, rfl, ru⟩ := vals1 r
    cases (show u = Value.ref a from ru)
    obtain ⟨hz, hS, vs, rk, o, es, ep, h1, h2, h3, h4, h5, h6⟩ : ([] : List (Key × V)).length ≤ sizeLine ∧ (a == sysModules) = false ∧ ∃ vs, KV [] vs ∧ s.heap.DictOf (mixKind X.prog X.w) a vs := I.hok a _ ha
    cases rk
    have e0 : es.toList = [] := by
      cases hl : es.toList with
      | nil => rfl
      | cons b r =>
        rw [hl] at h5
        cases h5
    have rd : Reads s.heap (.ref a) (.dict []) (a :: [] ++ []) := .dict h1 h2.1 h3 (by rw [e0]; exact .nil) (by rw [e0]; exact .nil)
    refine repr_of_reads' rd (by decide) (fun _ z => ?_) gd (by show X.A.units + (PyData.depth (.dict []) + 1) < cLine; have : PyData.depth (.dict []) = 1 := by decide
                                                                omega) (fun _ _ e => e) (fun h' u tk kept => ?_) (by decide)
    · have z' : sysModules = a := by simpa using z
      rw [← z'] at hS
      cases hS
    · exact ⟨.str _, H, I.kept kept, ⟨_, rfl⟩, q⟩
theorem call_reprA {X : Cx} {A : Around} (hA : X.A = A) (gd : A.guards = some []) (un : A.units + 64 < cLine) : CallR X (.builtin "repr") (rReprD X.K) := by
  subst hA
  exact call_reprR gd un
end GG

set_option maxHeartbeats 4000000
namespace K02
open PySem PySem.Spec PyProof.Rows L2 GG
abbrev sInteger : Stmt := topS 2
abbrev sCount : Stmt := topS 3
abbrev sWithin : Stmt := topS 4
abbrev sPower : Stmt := topS 11
abbrev sRaised : Stmt := topS 12
abbrev sExp : Stmt := topS 13
abbrev sFig : Stmt := topS 14
abbrev sNum : Stmt := topS 15
abbrev sBase : Stmt := topS 16
abbrev sAre : Stmt := topS 17
theorem scInteger : FnScope ["value"] ["value"] (defScope sInteger) := ⟨rfl, rfl, rfl, by decide +kernel, rfl, by decide +kernel, by decide +kernel⟩
theorem scCount : FnScope ["value"] ["value"] (defScope sCount) := ⟨rfl, rfl, rfl, by decide +kernel, rfl, by decide +kernel, by decide +kernel⟩
theorem scWithin : FnScope ["value", "least", "most"] ["value", "least", "most"] (defScope sWithin) := ⟨rfl, rfl, rfl, by decide +kernel, rfl, by decide +kernel, by decide +kernel⟩
theorem scRaised : FnScope ["base", "exponent", "result", "bit"] ["base", "exponent"] (defScope sRaised) := ⟨rfl, rfl, rfl, by decide +kernel, rfl, by decide +kernel, by decide +kernel⟩
theorem scPower : FnScope ["base", "exponent"] ["base", "exponent"] (defScope sPower) := ⟨rfl, rfl, rfl, by decide +kernel, rfl, by decide +kernel, by decide +kernel⟩
theorem scExp : FnScope ["base", "number", "result", "exponent"] ["base", "number"] (defScope sExp) := ⟨rfl, rfl, rfl, by decide +kernel, rfl, by decide +kernel, by decide +kernel⟩
theorem scFig : FnScope ["base", "length", "number", "figures", "rest", "_"] ["base", "length", "number"] (defScope sFig) := ⟨rfl, rfl, rfl, by decide +kernel, rfl, by decide +kernel, by decide +kernel⟩
theorem scNum : FnScope ["base", "figures", "number", "figure"] ["base", "figures"] (defScope sNum) := ⟨rfl, rfl, rfl, by decide +kernel, rfl, by decide +kernel, by decide +kernel⟩
theorem scBase : FnScope ["base"] ["base"] (defScope sBase) := ⟨rfl, rfl, rfl, by decide +kernel, rfl, by decide +kernel, by decide +kernel⟩
theorem scAre : FnScope ["base", "figures", "figure"] ["base", "figures"] (defScope sAre) := ⟨rfl, rfl, rfl, by decide +kernel, rfl, by decide +kernel, by decide +kernel⟩
/-! ### what they promise -/
abbrev XN (K : PySem.W.Frag) (mg : Str → Option Value) (C fI : Addr) : Prop :=
  PySem.GX.OwnX K mg "InvalidNumber" "value" [.type "IndexError", .type "LookupError", .type "Exception", .type "BaseException", .type "object"] "IndexError.__new__" C fI
abbrev xdv (v : V) : HO := .xd [("value", v)]
/-- good bases -/
def Good (v : V) (i : Int) : Prop := v = .int i ∧ intOk i = true ∧ 1 ≤ i
def Bad (K : PySem.W.Frag) (H : Hp) (v : V) : Prop := (∃ i, v = .int i ∧ ¬(intOk i = true ∧ 1 ≤ i)) ∨ NoInt K H v
def Raised (E : XK) (C : Addr) (v : V) (H : Hp) : Prop := ∀ H' d, Same H H' → H' d = none → E (.ref C) (some d) (upd H' d (xdv v))
def spBase (K : PySem.W.Frag) (C : Addr) : Sp := fun vs H Q E => ∃ v, vs = [v] ∧ ((∃ i, Good v i ∧ Q .non H) ∨ (Bad K H v ∧ Raised E C v H))
def Out (K : PySem.W.Frag) (H : Hp) (v : V) (lo hi : Int) : Prop := (∃ n, v = .int n ∧ inOk lo hi n = false) ∨ NoInt K H v
def spRaised : Sp := fun vs H Q _ => ∃ i n, vs = [.int i, .int n] ∧ 1 ≤ i ∧ i < 2 ^ 64 ∧ 0 ≤ n ∧ n ≤ 1000 ∧ Q (.int (i ^ n.toNat)) H
def spPower (K : PySem.W.Frag) (C : Addr) : Sp := fun vs H Q E => ∃ b e, vs = [b, e] ∧
  ((∃ i n, Good b i ∧ i < 2 ^ 64 ∧ e = .int n ∧ 0 ≤ n ∧ n ≤ 1000 ∧ Q (.int (i ^ n.toNat)) H) ∨
   (Bad K H b ∧ Raised E C b H) ∨ (∃ i, Good b i ∧ Out K H e 0 1000 ∧ Raised E C e H))
/-- the least exponent -/
def ExpOf (i n : Int) (v : V) : Prop := (∃ e : Nat, e ≤ 1000 ∧ v = .int e ∧ i ^ e = n ∧ ∀ j, j < e → i ^ j ≠ n) ∨ (v = .non ∧ ∀ j : Nat, j ≤ 1000 → i ^ j ≠ n)
def spExp (K : PySem.W.Frag) (C : Addr) : Sp := fun vs H Q E => ∃ b x, vs = [b, x] ∧
  ((∃ i n, Good b i ∧ Good x n ∧ ∀ v, ExpOf i n v → Q v H) ∨ (Bad K H b ∧ Raised E C b H) ∨ (∃ i, Good b i ∧ Bad K H x ∧ Raised E C x H))
/-- the figures of a number, the highest one first -/
def figs (i : Int) (L : Nat) (n : Int) : List Int := ((List.range L).map fun j => n / i ^ j % i).reverse
def spFig (K : PySem.W.Frag) (C : Addr) : Sp := fun vs H Q E => ∃ b l x, vs = [b, l, x] ∧
  ((∃ i L n, Good b i ∧ l = .int L ∧ 0 ≤ L ∧ L ≤ 1000 ∧ x = .int n ∧ intOk n = true ∧ 0 ≤ n ∧
      ((n / i ^ L.toNat = 0 ∧ ∀ H' p, Same H H' → H p = none → H' p = some (.tup ((figs i L.toNat n).map V.int)) → Q (.ref p) H') ∨ (n / i ^ L.toNat ≠ 0 ∧ Raised E C x H))) ∨
   (∃ i, Good b i ∧ Out K H l 0 1000 ∧ Raised E C l H) ∨
   (∃ i L, Good b i ∧ l = .int L ∧ 0 ≤ L ∧ L ≤ 1000 ∧ ((∃ n, x = .int n ∧ cntOk n = false) ∨ NoInt K H x) ∧ Raised E C x H))
def val (i : Int) (fs : List Int) : Int := fs.foldl (fun a f => a * i + f) 0
/-- figures in the base -/
def FigsIn (H : Hp) (i : Int) (x : V) (fs : List Int) : Prop := ∃ a, x = .ref a ∧ H a = some (.tup (fs.map V.int)) ∧ fs.length ≤ 100 ∧ ∀ f ∈ fs, 0 ≤ f ∧ f < i
/-- values that are none -/
def NoFigs (K : PySem.W.Frag) (H : Hp) (i : Int) (x : V) : Prop := (∃ t, TyX K H x (.type t) ∧ kitB t "tuple" = some false) ∨
  ∃ a xs, x = .ref a ∧ H a = some (.tup xs) ∧ xs.length ≤ 10000 ∧ (1000 < xs.length ∨ ((∀ v ∈ xs, ((∃ n, v = .int n) ∨ NoInt K H v)) ∧ ∃ v ∈ xs, Out K H v 0 (i - 1)))
def spAre (K : PySem.W.Frag) : Sp := fun vs H Q _ => ∃ i x, vs = [.int i, x] ∧ intOk i = true ∧ i < 2 ^ 64 ∧
  (((∃ fs, FigsIn H i x fs) ∧ ∀ H', Same H H' → Q (.bl true) H') ∨ (NoFigs K H i x ∧ ∀ H', Same H H' → Q (.bl false) H'))
def spNum (K : PySem.W.Frag) (CO : Addr) : Sp := fun vs H Q E => ∃ i x, vs = [.int i, x] ∧ intOk i = true ∧ 1 ≤ i ∧ i < 2 ^ 64 ∧
  ((∃ fs, FigsIn H i x fs ∧ ∀ H', Same H H' → Q (.int (val i fs)) H') ∨ (NoFigs K H i x ∧ ∀ H', Same H H' → E (.ref CO) none H'))
section
variable {P : Program} {w : World} {K : PySem.W.Frag} {mg : Str → Option Value} {base : Heap}
theorem ok_integer {f : Addr} {fd : FuncData} {k : Nat} {tB : Tok} (F : Fun K "is_integer" "is_integer" sInteger f fd)
    (mi : mg "int" = none) (mb : mg "bool" = none) (ms : mg "isinstance" = none) (mB : mg "_BOUND" = some (.int BND tB)) :
    FnOk P w K mg base CX0 (k + 1) f fd ["value"] (spInteger K) := by
  refine F.ok scInteger (fun vs H Q E h => ?_) (fun cdv A outer s H vs Q E hr h => ?_)
  · obtain ⟨v, rfl, _⟩ := h
    rfl
  · obtain ⟨v, rfl, h⟩ := h
    refine ⟨_, pss_one (ps_ret (pe_and (pe_callB call_isi (by rfl) ms (by decide +kernel) (pa_cons (pv 0) (pa_cons (pe_bltn (v := .ty "int") (by rfl) mi (by decide +kernel) rfl) pa_nil)))
      (pe_and (pe_not (pe_callB call_isi (by rfl) ms (by decide +kernel) (pa_cons (pv 0) (pa_cons (pe_bltn (v := .ty "bool") (by rfl) mb (by decide +kernel) rfl) pa_nil))))
      (pe_one (pe_chain op_lt op_lt (pe_un un_neg (pe_glob (v := .int BND) (by rfl) mB ⟨_, rfl⟩)) (pv 0) (pe_glob (v := .int BND) (by rfl) mB ⟨_, rfl⟩)))))), ?_⟩
    rcases h with ⟨i, rfl, q⟩ | ⟨⟨b, rfl⟩ | ⟨t, ty, kb⟩, q⟩
    · refine ⟨_, rfl, _, _, _, _, true, rfl, .ty _, .base (.int i), kit_ty (by decide +kernel), true, rfl, iteT ?_⟩
      refine ⟨_, rfl, _, _, _, _, false, rfl, .ty _, .base (.int i), kit_ty (by decide +kernel), false, rfl, true, rfl, iteT ?_⟩
      refine ⟨_, rfl, _, rfl, _, _, rfl, rfl, _, rfl, ite2 (fun e => ?_) (fun e => ?_)⟩
      · refine ⟨_, _, rfl, rfl, ?_⟩
        have e' : intOk i = decide (i < BND) := by
          unfold intOk
          rw [e, Bool.true_and]
        rw [e'] at q
        exact q
      · have e' : intOk i = false := by
          unfold intOk
          rw [Bool.not_eq_true _ |>.mp e, Bool.false_and]
        rw [e'] at q
        exact q
    · refine ⟨_, rfl, _, _, _, _, true, rfl, .ty _, .base (.bl b), kit_ty (by decide +kernel), true, rfl, iteT ?_⟩
      exact ⟨_, rfl, _, _, _, _, true, rfl, .ty _, .base (.bl b), kit_ty (by decide +kernel), true, rfl, false, rfl, iteF q⟩
    · exact ⟨_, rfl, _, _, _, _, false, rfl, .ty _, ty, kit_ty kb, false, rfl, iteF q⟩
theorem ok_count {f fI : Addr} {fd fdI : FuncData} (F : Fun K "is_count" "is_count" sCount f fd) (bI : Binds K fdI ["value"] [])
    (GI : FnOk P w K mg base CX0 1 fI fdI ["value"] (spInteger K)) (gI : mg "is_integer" = some (.ref fI)) (kI : PySem.W.keepIn K (.ref fI) = true) :
    FnOk P w K mg base CX0 2 f fd ["value"] (spCount K) := by
  refine F.ok scCount (fun vs H Q E h => ?_) (fun cdv A outer s H vs Q E hr h => ?_)
  · obtain ⟨v, rfl, _⟩ := h
    rfl
  · obtain ⟨v, rfl, h⟩ := h
    refine ⟨_, pss_one (ps_ret (pe_and (pe_call GI hr (by rfl) gI kI bI .nil pass0 (pa_cons (pv 0) pa_nil))
      (pe_one (pe_cmpR op_ge (pv 0) pe_int (nomark _))))), ?_⟩
    rcases h with ⟨i, rfl, q⟩ | ⟨no, q⟩
    · exact ⟨_, rfl, _, rfl, .inl ⟨i, rfl, _, rfl, and2 (d := decide (0 ≤ i)) (fun _ Q' z => ⟨_, rfl, _, _, rfl, rfl, z⟩) q⟩⟩
    · exact ⟨_, rfl, _, rfl, .inr ⟨no, _, rfl, iteF q⟩⟩
theorem ok_within {f fI : Addr} {fd fdI : FuncData} (F : Fun K "is_within" "is_within" sWithin f fd) (bI : Binds K fdI ["value"] [])
    (GI : FnOk P w K mg base CX0 1 fI fdI ["value"] (spInteger K)) (gI : mg "is_integer" = some (.ref fI)) (kI : PySem.W.keepIn K (.ref fI) = true) :
    FnOk P w K mg base CX0 2 f fd ["value", "least", "most"] (spWithin K) := by
  refine F.ok scWithin (fun vs H Q E h => ?_) (fun cdv A outer s H vs Q E hr h => ?_)
  · obtain ⟨v, lo, hi, rfl, _⟩ := h
    rfl
  · obtain ⟨v, lo, hi, rfl, h⟩ := h
    refine ⟨_, pss_one (ps_ret (pe_and (pe_call GI hr (by rfl) gI kI bI .nil pass0 (pa_cons (pv 0) pa_nil))
      (pe_one (pe_chain op_le op_le (pv 1) (pv 0) (pv 2))))), ?_⟩
    rcases h with ⟨i, rfl, q⟩ | ⟨no, q⟩
    · refine ⟨_, rfl, _, rfl, .inl ⟨i, rfl, _, rfl, and2 (d := decide (lo ≤ i) && decide (i ≤ hi)) (fun _ Q' z => ?_) q⟩⟩
      refine ⟨_, rfl, _, rfl, _, _, rfl, rfl, _, rfl, ite2 (fun e => ⟨_, rfl, _, _, rfl, rfl, ?_⟩) (fun e => ?_)⟩
      · rw [e, Bool.true_and] at z
        exact z
      · rw [Bool.not_eq_true _ |>.mp e, Bool.false_and] at z
        exact z
    · exact ⟨_, rfl, _, rfl, .inr ⟨no, _, rfl, iteF q⟩⟩
theorem ok_base {f fI C fE : Addr} {fd fdI : FuncData} (F : Fun K "_check_base" "_check_base" sBase f fd) (bI : Binds K fdI ["value"] [])
    (GI : FnOk P w K mg base CX0 1 fI fdI ["value"] (spInteger K)) (gI : mg "is_integer" = some (.ref fI)) (kI : PySem.W.keepIn K (.ref fI) = true)
    (T : XN K mg C fE) (init : PySem.GX.InitOk K "value" C fE) :
    FnOk P w K mg base (L2.CX P w) 2 f fd ["base"] (spBase K C) := by
  refine F.okX scBase (fun vs H Q E h => ?_) (fun cdv A outer s H vs Q E hr h => ?_)
  · obtain ⟨v, rfl, _⟩ := h
    rfl
  · obtain ⟨v, rfl, h⟩ := h
    refine ⟨_, pss_one (ps_if (PW.pt (pw_or (pt_not (pt_val (pe_call GI hr (by rfl) gI kI bI .nil pass0 (pa_cons (pv 0) pa_nil))))
        (pw_or1 (pt_cmpR op_lt (pv 0) pe_int (nomark _)))))
      (pss_one (ps_raiseX PySem.F.excBase_IndexError rfl T init hr (takes_of rfl rfl rfl rfl) (pa_cons (pv 0) pa_nil))) pss_nil), ?_⟩
    rcases h with ⟨i, ⟨rfl, h1, h2⟩, q⟩ | ⟨⟨i, rfl, no⟩ | no, q⟩
    · refine ⟨_, rfl, _, rfl, .inl ⟨i, rfl, true, ?_, iteF ?_⟩⟩
      · rw [h1]
      · exact ⟨_, rfl, _, _, rfl, rfl, _, rfl, iteFo (decide_eq_false (by omega)) q⟩
    · cases h1 : intOk i with
      | false =>
        refine ⟨_, rfl, _, rfl, .inl ⟨i, rfl, false, ?_, iteT (iteT ?_)⟩⟩
        · rw [h1]
        · exact ⟨_, rfl, _, rfl, fun d hd => q H d (.refl H) hd⟩
      | true =>
        refine ⟨_, rfl, _, rfl, .inl ⟨i, rfl, true, ?_, iteF ?_⟩⟩
        · rw [h1]
        · refine ⟨_, rfl, _, _, rfl, rfl, _, rfl, iteTo (decide_eq_true ?_) ?_⟩
          · have : ¬ (1 ≤ i) := fun z => no ⟨h1, z⟩
            omega
          · exact ⟨_, rfl, _, rfl, fun d hd => q H d (.refl H) hd⟩
    · refine ⟨_, rfl, _, rfl, .inr ⟨no, false, rfl, iteT (iteT ?_)⟩⟩
      exact ⟨_, rfl, _, rfl, fun d hd => q H d (.refl H) hd⟩
end
end K02

set_option maxHeartbeats 4000000
namespace K02
open PySem PySem.Spec PyProof.Rows L2 GG
/-! ### powers -/
theorem pow_size {i : Int} {m n : Nat} (h0 : 1 ≤ i) (h1 : i < 2 ^ 64) (h : m ≤ n) : (i ^ m).natAbs < 2 ^ (64 * n + 1) := by
  rw [Int.natAbs_pow]
  have hi : i.natAbs ≤ 2 ^ 64 := by omega
  have a1 : i.natAbs ^ m ≤ (2 ^ 64) ^ m := Nat.pow_le_pow_left hi m
  have a2 : ((2 : Nat) ^ 64) ^ m ≤ 2 ^ (64 * n) := by
    rw [← Nat.pow_mul]
    exact Nat.pow_le_pow_right (by decide) (Nat.mul_le_mul_left 64 h)
  have a3 : (2 : Nat) ^ (64 * n) < 2 ^ (64 * n + 1) := Nat.pow_lt_pow_right (by decide) (by omega)
  omega
theorem pow_pos' {i : Int} (h : 1 ≤ i) (m : Nat) : 1 ≤ i ^ m := by
  induction m with
  | zero =>
    rw [Int.pow_zero]
    decide
  | succ m ih =>
    rw [Int.pow_succ]
    have := Int.mul_le_mul ih h (by decide) (by omega)
    omega
theorem pow_mono {i : Int} (h : 1 ≤ i) {a b : Nat} (hab : a ≤ b) : i ^ a ≤ i ^ b := by
  obtain ⟨c, rfl⟩ : ∃ c, b = a + c := ⟨b - a, by omega⟩
  rw [Int.pow_add]
  have h1 := pow_pos' h a
  have h2 := pow_pos' h c
  have := Int.mul_le_mul_of_nonneg_left h2 (show 0 ≤ i ^ a by omega)
  omega
/-- one more bit of an exponent -/
theorem shr_step (n : Int) (h : 0 ≤ n) (b : Nat) : (n / 2 ^ b).toNat = 2 * (n / 2 ^ (b + 1)).toNat + (n / 2 ^ b % 2).toNat := by
  have e : n / 2 ^ (b + 1) = n / 2 ^ b / 2 := by
    rw [Int.pow_succ, Int.ediv_ediv_of_nonneg (two_pow_nn b)]
  rw [e]
  have h1 : 0 ≤ n / 2 ^ b := Int.ediv_nonneg h (two_pow_nn b)
  generalize n / 2 ^ b = m at h1 ⊢
  omega
theorem shr_top {n : Int} (h : 0 ≤ n) : n / 2 ^ (Builtin.Int.intBits n) = 0 := by
  have hb : n.natAbs < 2 ^ (Builtin.Int.intBits n) := by
    unfold Builtin.Int.intBits
    split
    · rename_i z
      have : n.natAbs = 0 := by
        first
          | (simp at z; omega)
          | omega
      rw [this]
      decide
    · exact Nat.lt_log2_self
  apply Int.ediv_eq_zero_of_lt h
  have : (((2 ^ Builtin.Int.intBits n : Nat)) : Int) = 2 ^ Builtin.Int.intBits n := by
    rw [Int.natCast_pow]
    rfl
  omega
section
variable {P : Program} {w : World} {K : PySem.W.Frag} {mg : Str → Option Value} {base : Heap}
theorem ok_raised {f : Addr} {fd : FuncData} (F : Fun K "raised" "raised" sRaised f fd) (mrev : mg "reversed" = none) (mr : mg "range" = none) :
    FnOk P w K mg base CX0 1 f fd ["base", "exponent"] spRaised := by
  refine F.ok scRaised (fun vs H Q E h => ?_) (fun cdv A outer s H vs Q E hr h => ?_)
  · obtain ⟨i, n, rfl, _⟩ := h
    rfl
  · obtain ⟨i, n, rfl, g1, g2, n0, n1, q⟩ := h
    have hi := g2
    have g2 := g1
    refine ⟨_, (pss_cons (ps_set (i := 2) scRaised.nd rfl (.inl rfl) pe_int)
      (pss_cons (ps_for PassesOwn.never rfl (pi_revR (by rfl) mrev (prg_1 (by rfl) mr (pe_bits (pv 1)))) (pg_name (i := 3) scRaised.nd rfl (.inl rfl))
        (pss_cons (ps_set (i := 2) scRaised.nd rfl (.inl rfl) (pe_op op_mulW (pv 2) (pv 2)))
        (pss_one (ps_if (pt_cmpR op_eq (pe_op op_and (pe_op op_shr (pv 1) (pv 3)) pe_int) pe_int (nomark _))
          (pss_one (ps_set (i := 2) scRaised.nd rfl (.inl rfl) (pe_op op_mulW (pv 2) (pv 0)))) pss_nil))))
      (pss_one (ps_ret (pv 2))))), ?_⟩
    refine ⟨_, rfl, _, rfl, _, rfl, by decide, by decide, ?_, ?_, ?_⟩
    · have : Builtin.Int.intBits n ≤ 1000000 := by
        unfold Builtin.Int.intBits
        split
        · omega
        · have := PySem.Flt.log2_lt_of (n := n.natAbs) (k := 11) (by decide) (by omega)
          omega
      omega
    · have : Builtin.Int.intBits n ≤ 1000000 := by
        unfold Builtin.Int.intBits
        split
        · omega
        · have := PySem.Flt.log2_lt_of (n := n.natAbs) (k := 11) (by decide) (by omega)
          omega
      omega
    · generalize hL : Builtin.Int.intBits n = L
      have top := shr_top n0
      rw [hL] at top
      refine for_rangeC (fun k σ H1 => ∃ y3, σ = [some (.int i), some (.int n), some (.int (i ^ (n / 2 ^ (L - k)).toNat)), y3] ∧ H1 = H) ⟨none, ?_, rfl⟩ (fun k σ H1 hk hP => ?_) (fun σ H1 hP => ?_)
      · rw [Nat.sub_zero, top, show (0 : Int).toNat = 0 from rfl, Int.pow_zero]
        rfl
      · obtain ⟨y3, rfl, rfl⟩ := hP
        have kL : k < L := by omega
        have e1 : L - k = L - (k + 1) + 1 := by omega
        have st := shr_step n n0 (L - (k + 1))
        rw [← e1] at st
        have mle : (n / 2 ^ (L - k)).toNat ≤ 1000 := by
          have := Int.ediv_le_self (2 ^ (L - k)) n0
          omega
        have sz := pow_size g2 hi mle
        have mle2 : (n / 2 ^ (L - k)).toNat + (n / 2 ^ (L - k)).toNat ≤ 2000 := by omega
        have sz2 := pow_size g2 hi mle2
        rw [Int.pow_add] at sz2
        have bitv : (0 + (((L : Int) - 0).toNat : Int) - 1 + ((k : Nat) : Int) * -1) = ((L - (k + 1) : Nat) : Int) := by omega
        refine ⟨_, rfl, _, rfl, _, _, rfl, rfl, wide_mul sz sz (by decide) (by decide) (by decide), ?_⟩
        refine ⟨_, rfl, _, rfl, _, _, rfl, rfl, (by rw [bitv]; exact Int.natCast_nonneg _), _, _, rfl, rfl, rfl, _, rfl, ite2 (fun e => ?_) (fun e => ?_)⟩
        · have b1 := V.int.inj (of_decide_eq_true e)
          rw [bitv, Int.toNat_natCast, bitAnd_m1] at b1
          refine ⟨_, rfl, _, rfl, _, _, rfl, rfl, wide_mul sz2 (show i.natAbs < 2 ^ 64 by omega) (by decide) (by decide) (by decide), some (.int (0 + (((L : Int) - 0).toNat : Int) - 1 + ((k : Nat) : Int) * -1)), ?_, rfl⟩
          rw [b1] at st
          rw [st, show (1 : Int).toNat = 1 from rfl, Int.pow_succ, Nat.two_mul, Int.pow_add]
          rfl
        · have b1 : ¬ (n / 2 ^ (L - (k + 1)) % 2 = 1) := fun z => e (by rw [bitv, Int.toNat_natCast]; exact decide_eq_true (congrArg V.int ((bitAnd_m1 _).trans z)))
          have b0 : n / 2 ^ (L - (k + 1)) % 2 = 0 := by omega
          refine ⟨some (.int (0 + (((L : Int) - 0).toNat : Int) - 1 + ((k : Nat) : Int) * -1)), ?_, rfl⟩
          rw [b0] at st
          rw [st, show (0 : Int).toNat = 0 from rfl, Nat.add_zero, Nat.two_mul, Int.pow_add]
          rfl
      · obtain ⟨y3, rfl, rfl⟩ := hP
        have e0 : (((L : Nat) : Int) - 0).toNat = L := by omega
        refine ⟨_, rfl, ?_⟩
        rw [e0, Nat.sub_self, Int.pow_zero, Int.ediv_one]
        exact q
theorem ok_power {f fB fW fR C fE : Addr} {fd fdB fdW fdR : FuncData} {tL : Tok} (F : Fun K "power" "power" sPower f fd) (bB : Binds K fdB ["base"] []) (bW : Binds K fdW ["value", "least", "most"] []) (bR : Binds K fdR ["base", "exponent"] [])
    (GB : FnOk P w K mg base (L2.CX P w) 2 fB fdB ["base"] (spBase K C)) (GW : FnOk P w K mg base CX0 2 fW fdW ["value", "least", "most"] (spWithin K)) (GR : FnOk P w K mg base CX0 1 fR fdR ["base", "exponent"] spRaised)
    (gB : mg "_check_base" = some (.ref fB)) (gW : mg "is_within" = some (.ref fW)) (gR : mg "raised" = some (.ref fR)) (kB : PySem.W.keepIn K (.ref fB) = true) (kW : PySem.W.keepIn K (.ref fW) = true) (kR : PySem.W.keepIn K (.ref fR) = true)
    (mL : mg "_LIMIT" = some (.int 1000 tL))
    (T : XN K mg C fE) (init : PySem.GX.InitOk K "value" C fE) :
    FnOk P w K mg base (L2.CX P w) 3 f fd ["base", "exponent"] (spPower K C) := by
  refine F.okX scPower (fun vs H Q E h => ?_) (fun cdv A outer s H vs Q E hr h => ?_)
  · obtain ⟨b, e, rfl, h⟩ := h
    rfl
  · obtain ⟨b, e, rfl, h⟩ := h
    have hr1 := hr.mono (show 1 ≤ 2 by decide)
    refine ⟨_, pss_cons (ps_expr (pe_call GB hr (by rfl) gB kB bB .nil (passes_call (takes_of rfl rfl rfl rfl) fun _ _ _ _ h => h) (pa_cons (pv 0) pa_nil)))
      (pss_cons (ps_if (pt_not (pt_val (pe_call GW hr (by rfl) gW kW bW .nil pass0 (pa_cons (pv 1) (pa_cons pe_int (pa_cons (pe_glob (v := .int 1000) (by rfl) mL ⟨_, rfl⟩) pa_nil))))))
        (pss_one (ps_raiseX PySem.F.excBase_IndexError rfl T init hr1 (takes_of rfl rfl rfl rfl) (pa_cons (pv 1) pa_nil))) pss_nil)
      (pss_one (ps_ret (pe_call GR hr1 (by rfl) gR kR bR .nil pass0 (pa_cons (pv 0) (pa_cons (pv 1) pa_nil)))))), ?_⟩
    rcases h with ⟨i, n, gb, hi, rfl, n0, n1, q⟩ | ⟨bad, q⟩ | ⟨i, gb, out, q⟩
    · obtain ⟨rfl, g1, g2⟩ := gb
      refine ⟨_, rfl, _, rfl, .inl ⟨i, ⟨rfl, g1, g2⟩, ?_⟩⟩
      have win : inOk 0 1000 n = true := by
        unfold inOk
        rw [intOk_small (by omega) (by omega), decide_eq_true n0, decide_eq_true n1]
        rfl
      refine ⟨_, rfl, _, _, _, rfl, .inl ⟨n, rfl, true, by rw [win], iteF ?_⟩⟩
      exact ⟨_, rfl, _, rfl, i, n, rfl, g2, hi, n0, n1, q⟩
    · refine ⟨_, rfl, _, rfl, .inr ⟨bad, q⟩⟩
    · obtain ⟨rfl, g1, g2⟩ := gb
      refine ⟨_, rfl, _, rfl, .inl ⟨i, ⟨rfl, g1, g2⟩, ?_⟩⟩
      rcases out with ⟨n, rfl, hn⟩ | no
      · refine ⟨_, rfl, _, _, _, rfl, .inl ⟨n, rfl, false, by rw [hn], iteT ?_⟩⟩
        exact ⟨_, rfl, _, rfl, fun d hd => q H d (.refl H) hd⟩
      · refine ⟨_, rfl, _, _, _, rfl, .inr ⟨no, false, rfl, iteT ?_⟩⟩
        exact ⟨_, rfl, _, rfl, fun d hd => q H d (.refl H) hd⟩
end
end K02

set_option maxHeartbeats 4000000
namespace K02
open PySem PySem.Spec PyProof.Rows L2 GG
theorem mul_size {a b : Int} (ha : a.natAbs < 2 ^ 2000) (hb : b.natAbs < 2 ^ 7000) : CMulW a b := wide_mul ha hb (by decide) (by decide) (by decide)
theorem bits_up {a : Int} {m n : Nat} (h : a.natAbs < 2 ^ m) (hm : m ≤ n) : a.natAbs < 2 ^ n := Nat.lt_of_lt_of_le h (Nat.pow_le_pow_right (by decide) hm)
theorem le_bits {a b : Int} (h0 : 0 ≤ a) (h : a ≤ b) {m : Nat} (hb : b.natAbs < 2 ^ m) : a.natAbs < 2 ^ m := by
  generalize (2 : Nat) ^ m = M at hb ⊢
  omega
section
variable {P : Program} {w : World} {K : PySem.W.Frag} {mg : Str → Option Value} {base : Heap}
theorem ok_exp {f fB fI C fE : Addr} {fd fdB fdI : FuncData} {tL : Tok} (F : Fun K "exponent_of" "exponent_of" sExp f fd) (bB : Binds K fdB ["base"] []) (bI : Binds K fdI ["value"] [])
    (GB : FnOk P w K mg base (L2.CX P w) 2 fB fdB ["base"] (spBase K C)) (GI : FnOk P w K mg base CX0 1 fI fdI ["value"] (spInteger K))
    (gB : mg "_check_base" = some (.ref fB)) (gI : mg "is_integer" = some (.ref fI)) (kB : PySem.W.keepIn K (.ref fB) = true) (kI : PySem.W.keepIn K (.ref fI) = true)
    (mL : mg "_LIMIT" = some (.int 1000 tL)) (mr : mg "range" = none)
    (T : XN K mg C fE) (init : PySem.GX.InitOk K "value" C fE) :
    FnOk P w K mg base (L2.CX P w) 3 f fd ["base", "number"] (spExp K C) := by
  refine F.okX scExp (fun vs H Q E h => ?_) (fun cdv A outer s H vs Q E hr h => ?_)
  · obtain ⟨b, e, rfl, _⟩ := h
    rfl
  · obtain ⟨b, x, rfl, h⟩ := h
    have hr1 := hr.mono (show 1 ≤ 2 by decide)
    refine ⟨_, pss_cons (ps_expr (pe_call GB hr (by rfl) gB kB bB .nil (passes_call (takes_of rfl rfl rfl rfl) fun _ _ _ _ h => h) (pa_cons (pv 0) pa_nil)))
      (pss_cons (ps_if (PW.pt (pw_or (pt_not (pt_val (pe_call GI hr1 (by rfl) gI kI bI .nil pass0 (pa_cons (pv 1) pa_nil)))) (pw_or1 (pt_cmpR op_lt (pv 1) pe_int (nomark _)))))
        (pss_one (ps_raiseX PySem.F.excBase_IndexError rfl T init hr1 (takes_of rfl rfl rfl rfl) (pa_cons (pv 1) pa_nil))) pss_nil)
      (pss_cons (ps_set (i := 2) scExp.nd rfl (.inl rfl) pe_int)
      (pss_cons (ps_for (passes_of rfl) rfl (pi_range1 rfl mr (pa_cons (pe_op op_add (pe_glob (v := .int 1000) (by rfl) mL ⟨_, rfl⟩) pe_int) pa_nil)) (pg_name (i := 3) scExp.nd rfl (.inl rfl))
        (pss_cons (ps_if (pt_cmpR op_eq (pv 2) (pv 1) (nomark _)) (pss_one (ps_ret (pv 3))) pss_nil)
        (pss_cons (ps_if (pt_cmpR op_gt (pv 2) (pv 1) (nomark _)) (pss_one (ps_ret pe_non)) pss_nil)
        (pss_one (ps_set (i := 2) scExp.nd rfl (.inl rfl) (pe_op op_mulW (pv 2) (pv 0)))))))
      (pss_one (ps_ret pe_non))))), ?_⟩
    rcases h with ⟨i, n, gb, gx, q⟩ | ⟨bad, q⟩ | ⟨i, gb, bad, q⟩
    · obtain ⟨rfl, g1, g2⟩ := gb
      obtain ⟨rfl, x1, x2⟩ := gx
      refine ⟨_, rfl, _, rfl, .inl ⟨i, ⟨rfl, g1, g2⟩, ?_⟩⟩
      refine ⟨_, rfl, _, rfl, .inl ⟨n, rfl, true, by rw [x1], iteF ?_⟩⟩
      refine ⟨_, rfl, _, _, rfl, rfl, _, rfl, iteFo (decide_eq_false (by omega)) ?_⟩
      refine ⟨_, _, rfl, rfl, 1001, rfl, by decide, by decide, ?_⟩
      refine for_range (lo := 0) (n := 1001) (fun k σ H1 => ∃ y3, σ = [some (.int i), some (.int n), some (.int (i ^ k)), y3] ∧ H1 = H ∧ ∀ j : Nat, j < k → i ^ j < n)
        ⟨none, by rw [Int.pow_zero]; rfl, rfl, fun j hj => absurd hj (Nat.not_lt_zero _)⟩ (fun k σ H1 hk hP => ?_) (fun σ H1 hP => ?_)
      · obtain ⟨y3, rfl, rfl, less⟩ := hP
        refine ⟨_, rfl, _, rfl, rfl, _, rfl, ite2 (fun e => ?_) (fun e => ?_)⟩
        · have e1 := V.int.inj (of_decide_eq_true e)
          refine ⟨_, rfl, q _ (.inl ⟨k, by omega, by rw [Int.zero_add], e1, fun j hj z => ?_⟩)⟩
          have := less j hj
          omega
        · have ne : ¬ i ^ k = n := fun z => e (decide_eq_true (congrArg V.int z))
          refine ⟨_, rfl, _, rfl, _, _, rfl, rfl, _, rfl, ite2 (fun e2 => ?_) (fun e2 => ?_)⟩
          · have gt := of_decide_eq_true e2
            refine q _ (.inr ⟨rfl, fun j _ z => ?_⟩)
            by_cases hjk : j < k
            · have := less j hjk
              omega
            · have := pow_mono g2 (show k ≤ j by omega)
              omega
          · have ngt : ¬ n < i ^ k := fun z => e2 (decide_eq_true z)
            have pk := pow_pos' g2 k
            refine ⟨_, rfl, _, rfl, _, _, rfl, rfl, mul_size (bits_up (le_bits (by omega) (by omega) (intOk_bits x1)) (by decide)) (bits_up (intOk_bits g1) (by decide)), some (.int (0 + k)), ?_, rfl, fun j hj => ?_⟩
            · rw [Int.pow_succ]
              rfl
            · by_cases hjk : j < k
              · exact less j hjk
              · have : j = k := by omega
                subst this
                omega
      · obtain ⟨y3, rfl, rfl, less⟩ := hP
        refine q _ (.inr ⟨rfl, fun j hj z => ?_⟩)
        have := less j (by omega)
        omega
    · exact ⟨_, rfl, _, rfl, .inr ⟨bad, q⟩⟩
    · obtain ⟨rfl, g1, g2⟩ := gb
      refine ⟨_, rfl, _, rfl, .inl ⟨i, ⟨rfl, g1, g2⟩, ?_⟩⟩
      rcases bad with ⟨n, rfl, no⟩ | no
      · cases h1 : intOk n with
        | false =>
          refine ⟨_, rfl, _, rfl, .inl ⟨n, rfl, false, ?_, iteT (iteT ?_)⟩⟩
          · rw [h1]
          · exact ⟨_, rfl, _, rfl, fun d hd => q H d (.refl H) hd⟩
        | true =>
          refine ⟨_, rfl, _, rfl, .inl ⟨n, rfl, true, ?_, iteF ?_⟩⟩
          · rw [h1]
          · refine ⟨_, rfl, _, _, rfl, rfl, _, rfl, iteTo (decide_eq_true ?_) ?_⟩
            · have : ¬ (1 ≤ n) := fun z => no ⟨h1, z⟩
              omega
            · exact ⟨_, rfl, _, rfl, fun d hd => q H d (.refl H) hd⟩
      · refine ⟨_, rfl, _, rfl, .inr ⟨no, false, rfl, iteT (iteT ?_)⟩⟩
        exact ⟨_, rfl, _, rfl, fun d hd => q H d (.refl H) hd⟩
theorem ok_fig {f fB fW fN C fE : Addr} {fd fdB fdW fdN : FuncData} {tL : Tok} (F : Fun K "figures_of" "figures_of" sFig f fd) (bB : Binds K fdB ["base"] []) (bW : Binds K fdW ["value", "least", "most"] []) (bN : Binds K fdN ["value"] [])
    (GB : FnOk P w K mg base (L2.CX P w) 2 fB fdB ["base"] (spBase K C)) (GW : FnOk P w K mg base CX0 2 fW fdW ["value", "least", "most"] (spWithin K)) (GN : FnOk P w K mg base CX0 2 fN fdN ["value"] (spCount K))
    (gB : mg "_check_base" = some (.ref fB)) (gW : mg "is_within" = some (.ref fW)) (gN : mg "is_count" = some (.ref fN)) (kB : PySem.W.keepIn K (.ref fB) = true) (kW : PySem.W.keepIn K (.ref fW) = true) (kN : PySem.W.keepIn K (.ref fN) = true)
    (mL : mg "_LIMIT" = some (.int 1000 tL)) (mr : mg "range" = none) (mt : mg "tuple" = none)
    (T : XN K mg C fE) (init : PySem.GX.InitOk K "value" C fE) :
    FnOk P w K mg base (L2.CX P w) 3 f fd ["base", "length", "number"] (spFig K C) := by
  refine F.okX scFig (fun vs H Q E h => ?_) (fun cdv A outer s H vs Q E hr h => ?_)
  · obtain ⟨b, l, x, rfl, _⟩ := h
    rfl
  · obtain ⟨b, l, x, rfl, h⟩ := h
    have hr1 := hr.mono (show 1 ≤ 2 by decide)
    refine ⟨_, pss_cons (ps_expr (pe_call GB hr (by rfl) gB kB bB .nil (passes_call (takes_of rfl rfl rfl rfl) fun _ _ _ _ h => h) (pa_cons (pv 0) pa_nil)))
      (pss_cons (ps_if (pt_not (pt_val (pe_call GW hr (by rfl) gW kW bW .nil pass0 (pa_cons (pv 1) (pa_cons pe_int (pa_cons (pe_glob (v := .int 1000) (by rfl) mL ⟨_, rfl⟩) pa_nil))))))
        (pss_one (ps_raiseX PySem.F.excBase_IndexError rfl T init hr1 (takes_of rfl rfl rfl rfl) (pa_cons (pv 1) pa_nil))) pss_nil)
      (pss_cons (ps_if (pt_not (pt_val (pe_call GN hr (by rfl) gN kN bN .nil pass0 (pa_cons (pv 2) pa_nil))))
        (pss_one (ps_raiseX PySem.F.excBase_IndexError rfl T init hr1 (takes_of rfl rfl rfl rfl) (pa_cons (pv 2) pa_nil))) pss_nil)
      (pss_cons (ps_set (i := 3) scFig.nd rfl (.inl rfl) (pe_lst pa_nil))
      (pss_cons (ps_set (i := 4) scFig.nd rfl (.inl rfl) (pv 2))
      (pss_cons (ps_for (passes_of rfl) rfl (pi_range1 rfl mr (pa_cons (pv 1) pa_nil)) (pg_name (i := 5) scFig.nd rfl (.inl rfl))
        (pss_cons (ps_expr (pe_bm PySem.F.plainAttrs_list PySem.F.slot_list_append PySem.F.type_list_append mt_append (pv 3) (pa_cons (pe_op op_mod (pv 4) (pv 0)) pa_nil)))
        (pss_one (ps_set (i := 4) scFig.nd rfl (.inl rfl) (pe_op op_fdivW (pv 4) (pv 0))))))
      (pss_cons (ps_if (pt_cmpR op_ne (pv 4) pe_int (nomark _))
        (pss_one (ps_raiseX PySem.F.excBase_IndexError rfl T init hr1 (takes_of rfl rfl rfl rfl) (pa_cons (pv 2) pa_nil))) pss_nil)
      (pss_one (ps_ret (pe_callTy call_tuple_of (by rfl) mt (by decide +kernel) (pa_cons (pe_revL (pv 3)) pa_nil)))))))))), ?_⟩
    rcases h with ⟨i, L, n, gb, rfl, L0, L1, rfl, x1, x0, q⟩ | ⟨i, gb, out, q⟩ | ⟨i, L, gb, rfl, L0, L1, bad, q⟩
    · obtain ⟨rfl, g1, g2⟩ := gb
      refine ⟨_, rfl, _, rfl, .inl ⟨i, ⟨rfl, g1, g2⟩, ?_⟩⟩
      have win : inOk 0 1000 L = true := by
        unfold inOk
        rw [intOk_small (by omega) (by omega), decide_eq_true L0, decide_eq_true L1]
        rfl
      have cnt : cntOk n = true := by
        unfold cntOk
        rw [x1, decide_eq_true x0]
        rfl
      refine ⟨_, rfl, _, _, _, rfl, .inl ⟨L, rfl, true, by rw [win], iteF ?_⟩⟩
      refine ⟨_, rfl, _, rfl, .inl ⟨n, rfl, true, by rw [cnt], iteF ?_⟩⟩
      refine ⟨by decide, fun p np => ⟨_, rfl, _, rfl, L, rfl, by omega, by omega, ?_⟩⟩
      refine for_range (lo := 0) (n := L.toNat) (fun k σ H1 => ∃ y5, σ = [some (.int i), some (.int L), some (.int n), some (.ref p), some (.int (n / i ^ k)), y5] ∧ Same H H1 ∧
          H1 p = some (.lst (((List.range k).map fun j => n / i ^ j % i).map V.int)))
        ⟨none, by rw [Int.pow_zero, Int.ediv_one]; rfl, sameUpd np, upd_same⟩ (fun k σ H1 hk hP => ?_) (fun σ H1 hP => ?_)
      · obtain ⟨y5, rfl, sm, hp⟩ := hP
        refine ⟨.ref p, rfl, .inl ⟨rfl, _, .inl (.inl hp)⟩, _, rfl, _, rfl, _, _, rfl, rfl, (by show (0 : Int) < i; omega), p, _, _, rfl, rfl, hp, ?_, ?_⟩
        · rw [List.length_map, List.length_map, List.length_range]
          exact small1000 (by omega)
        · refine ⟨_, rfl, _, rfl, _, _, rfl, rfl, wide_div (by omega) (bits_up (intOk_bits g1) (by decide : 700 ≤ 7000)) (by decide) (by decide), some (.int (0 + k)), ?_, ?_, ?_⟩
          · rw [Int.pow_succ, ← Int.ediv_ediv_of_nonneg (by have := pow_pos' g2 k; omega)]
            rfl
          · exact fun b o e => by
              rw [upd_ne (ne_of_none e np)]
              exact sm b o e
          · rw [upd_same, List.range_succ, List.map_append, List.map_append]
            rfl
      · obtain ⟨y5, rfl, sm, hp⟩ := hP
        rcases q with ⟨fits, q⟩ | ⟨nofit, q⟩
        · refine ⟨_, rfl, rfl, _, rfl, iteFo (by rw [fits]; rfl) ?_⟩
          refine ⟨.ref p, rfl, p, _, rfl, .of hp, fun r nr => ?_⟩
          refine ⟨r, _, rfl, .inl ⟨.of upd_same, fun t nt => ?_⟩⟩
          refine q _ t (sm.trans ((sameUpd nr).trans (sameUpd nt))) ?_ ?_
          · exact (sm.trans (sameUpd nr)).free nt
          · rw [upd_same]
            unfold figs
            rw [List.map_reverse]
        · refine ⟨_, rfl, rfl, _, rfl, iteTo ?_ ?_⟩
          · rw [decide_eq_false (fun z => nofit (V.int.inj z))]
            rfl
          · exact ⟨_, rfl, _, rfl, fun d hd => q H1 d sm hd⟩
    · obtain ⟨rfl, g1, g2⟩ := gb
      refine ⟨_, rfl, _, rfl, .inl ⟨i, ⟨rfl, g1, g2⟩, ?_⟩⟩
      rcases out with ⟨n, rfl, hn⟩ | no
      · refine ⟨_, rfl, _, _, _, rfl, .inl ⟨n, rfl, false, by rw [hn], iteT ?_⟩⟩
        exact ⟨_, rfl, _, rfl, fun d hd => q H d (.refl H) hd⟩
      · refine ⟨_, rfl, _, _, _, rfl, .inr ⟨no, false, rfl, iteT ?_⟩⟩
        exact ⟨_, rfl, _, rfl, fun d hd => q H d (.refl H) hd⟩
    · obtain ⟨rfl, g1, g2⟩ := gb
      refine ⟨_, rfl, _, rfl, .inl ⟨i, ⟨rfl, g1, g2⟩, ?_⟩⟩
      have win : inOk 0 1000 L = true := by
        unfold inOk
        rw [intOk_small (by omega) (by omega), decide_eq_true L0, decide_eq_true L1]
        rfl
      refine ⟨_, rfl, _, _, _, rfl, .inl ⟨L, rfl, true, by rw [win], iteF ?_⟩⟩
      rcases bad with ⟨n, rfl, hn⟩ | no
      · refine ⟨_, rfl, _, rfl, .inl ⟨n, rfl, false, by rw [hn], iteT ?_⟩⟩
        exact ⟨_, rfl, _, rfl, fun d hd => q H d (.refl H) hd⟩
      · refine ⟨_, rfl, _, rfl, .inr ⟨no, false, rfl, iteT ?_⟩⟩
        exact ⟨_, rfl, _, rfl, fun d hd => q H d (.refl H) hd⟩
end
end K02

set_option maxHeartbeats 4000000
namespace GG
open PySem PySem.Spec PyProof.Rows L2
theorem tyOf_same {K : PySem.W.Frag} {H H' : Hp} {v : V} {t : Value} (s : Same H H') (h : TyOf K H v t) : TyOf K H' v t := by
  cases h with
  | non => exact .non
  | bl x => exact .bl x
  | int i => exact .int i
  | str x => exact .str x
  | flt x => exact .flt x
  | lst e => exact .lst (s _ _ e)
  | frz e => exact .frz (s _ _ e)
  | tup e => exact .tup (s _ _ e)
  | dK e => exact .dK (s _ _ e)
  | dT e => exact .dT (s _ _ e)
  | ins e cl ha hn htk hm => exact .ins (s _ _ e) cl ha hn htk hm
theorem tyX_same {K : PySem.W.Frag} {H H' : Hp} {v : V} {t : Value} (s : Same H H') (h : TyX K H v t) : TyX K H' v t := by
  cases h with
  | base h => exact .base (tyOf_same s h)
  | byt b => exact .byt b
  | set e => exact .set (s _ _ e)
  | kList e c => exact .kList e c
  | kTuple e c => exact .kTuple e c
  | kDict e c => exact .kDict e c
  | fTuple e => exact .fTuple (s _ _ e)
  | fDict e => exact .fDict (s _ _ e)
theorem noInt_same {K : PySem.W.Frag} {H H' : Hp} {v : V} (s : Same H H') (h : NoInt K H v) : NoInt K H' v := by
  rcases h with ⟨b, rfl⟩ | ⟨t, ty, kb⟩
  · exact .inl ⟨b, rfl⟩
  · exact .inr ⟨t, tyX_same s ty, kb⟩
end GG
namespace K02
open PySem PySem.Spec PyProof.Rows L2 GG
/-- what is_within answers of an item -/
def itemOk (i : Int) : V → Bool
  | .int n => inOk 0 (i - 1) n
  | _ => false
theorem noInt_item {K : PySem.W.Frag} {H : Hp} {v : V} {i : Int} (h : NoInt K H v) : itemOk i v = false := by
  rcases h with ⟨b, rfl⟩ | ⟨t, ty, kb⟩
  · rfl
  · cases v with
    | int n =>
      cases ty with
      | base ty =>
        cases ty
        exact absurd kb (by decide +kernel)
    | _ => rfl
theorem val_snoc (i : Int) (fs : List Int) (f : Int) : val i (fs ++ [f]) = val i fs * i + f := by
  unfold val
  rw [List.foldl_append]
  rfl
theorem fold_bound {i : Int} (hi : 1 ≤ i) : ∀ (fs : List Int) (a : Int) (n : Nat), 0 ≤ a → a < i ^ n → (∀ f ∈ fs, 0 ≤ f ∧ f < i) →
    0 ≤ fs.foldl (fun a f => a * i + f) a ∧ fs.foldl (fun a f => a * i + f) a < i ^ (n + fs.length)
  | [], a, n, h0, h1, _ => ⟨h0, h1⟩
  | f :: fs, a, n, h0, h1, h => by
    obtain ⟨f1, f2⟩ := h f List.mem_cons_self
    have b1 := Int.mul_nonneg h0 (show 0 ≤ i by omega)
    have b2 := Int.mul_le_mul_of_nonneg_right (show a + 1 ≤ i ^ n by omega) (show 0 ≤ i by omega)
    rw [Int.add_mul, Int.one_mul] at b2
    have b3 : a * i + f < i ^ (n + 1) := by
      rw [Int.pow_succ]
      omega
    have ih := fold_bound hi fs (a * i + f) (n + 1) (by omega) b3 fun g hg => h g (List.mem_cons_of_mem _ hg)
    rw [List.foldl_cons, List.length_cons, show n + (fs.length + 1) = n + 1 + fs.length by omega]
    exact ih
theorem val_bound {i : Int} (hi : 1 ≤ i) (fs : List Int) (h : ∀ f ∈ fs, 0 ≤ f ∧ f < i) : 0 ≤ val i fs ∧ val i fs < i ^ fs.length := by
  have := fold_bound hi fs 0 0 (by decide) (by rw [Int.pow_zero]; decide) h
  rw [Nat.zero_add] at this
  exact this
section
variable {P : Program} {w : World} {K : PySem.W.Frag} {mg : Str → Option Value} {base : Heap}
theorem ok_are {f fW : Addr} {fd fdW : FuncData} {tL : Tok} (F : Fun K "_are_figures" "_are_figures" sAre f fd) (bW : Binds K fdW ["value", "least", "most"] [])
    (GW : FnOk P w K mg base CX0 2 fW fdW ["value", "least", "most"] (spWithin K))
    (gW : mg "is_within" = some (.ref fW)) (kW : PySem.W.keepIn K (.ref fW) = true)
    (mL : mg "_LIMIT" = some (.int 1000 tL)) (ms : mg "isinstance" = none) (mt : mg "tuple" = none) (ml : mg "len" = none) (ma : mg "all" = none) :
    FnOk P w K mg base CX0 3 f fd ["base", "figures"] (spAre K) := by
  refine F.ok scAre (fun vs H Q E h => ?_) (fun cdv A outer s H vs Q E hr h => ?_)
  · obtain ⟨i, x, rfl, _⟩ := h
    rfl
  · obtain ⟨i, x, rfl, i1, i2, h⟩ := h
    refine ⟨_, pss_cons (ps_if (PW.pt (pw_or (pt_not (pt_val (pe_callB call_isi (by rfl) ms (by decide +kernel) (pa_cons (pv 1) (pa_cons (pe_bltn (v := .ty "tuple") (by rfl) mt (by decide +kernel) rfl) pa_nil)))))
        (pw_or1 (pt_cmpR op_gt (pe_callB call_len_seq (by rfl) ml PySem.boot_len (pa_cons (pv 1) pa_nil)) (pe_glob (v := .int 1000) (by rfl) mL ⟨_, rfl⟩) (nomark _)))))
        (pss_one (ps_ret pe_bl)) pss_nil)
      (pss_one (ps_ret (pe_callB (cr_all rfl) (by rfl) ma (by decide +kernel) (pa_cons
        (pe_lc (own := [("figure", 2)]) (g := gName 2) (tt := tYes) rfl scAre.nd (pi_tup (pv 1)) (blkOk_by (own := [("figure", 2)]) (N := ["base", "figures", "figure"]) (sc := defScope sAre) (by decide +kernel))
          (fun _ _ _ _ _ => pg_name (i := 2) scAre.nd rfl (Or.inl rfl)) (fun _ _ _ _ _ => pts_nil)
          (fun _ _ _ _ _ => pe_call GW hr (by rfl) gW kW bW .nil pass0 (pa_cons (pv 2) (pa_cons pe_int (pa_cons (pe_op op_sub (pv 0) pe_int) pa_nil))))) pa_nil)))), ?_⟩
    have h' : (∃ a xs, x = .ref a ∧ H a = some (.tup xs) ∧ xs.length ≤ 1000 ∧ (∀ v ∈ xs, (∃ n, v = .int n) ∨ NoInt K H v) ∧ ∀ H', Same H H' → Q (.bl ((xs.map (itemOk i)).all id)) H') ∨
        (∃ t, TyX K H x (.type t) ∧ kitB t "tuple" = some false ∧ Q (.bl false) H) ∨ (∃ a xs, x = .ref a ∧ H a = some (.tup xs) ∧ 1000 < xs.length ∧ Q (.bl false) H) := by
      rcases h with ⟨⟨fs, a, rfl, ha, hl, all⟩, q⟩ | ⟨⟨t, ty, kb⟩ | ⟨a, xs, rfl, ha, big, long | ⟨items, v, hv, out⟩⟩, q⟩
      · refine .inl ⟨a, _, rfl, ha, by rw [List.length_map]; omega, fun v hv => ?_, fun H' sm => ?_⟩
        · obtain ⟨n, _, rfl⟩ := List.mem_map.mp hv
          exact .inl ⟨n, rfl⟩
        · have e : ((fs.map V.int).map (itemOk i)).all id = true := by
            rw [List.all_eq_true]
            intro b hb
            obtain ⟨v, hv, rfl⟩ := List.mem_map.mp hb
            obtain ⟨n, hn, rfl⟩ := List.mem_map.mp hv
            obtain ⟨n0, n1⟩ := all n hn
            show inOk 0 (i - 1) n = true
            unfold inOk
            rw [intOk_small (by omega) (by omega), decide_eq_true n0, decide_eq_true (by omega)]
            rfl
          rw [e]
          exact q H' sm
      · exact .inr (.inl ⟨t, ty, kb, q H (.refl H)⟩)
      · exact .inr (.inr ⟨a, xs, rfl, ha, long, q H (.refl H)⟩)
      · by_cases hl : xs.length ≤ 1000
        · refine .inl ⟨a, xs, rfl, ha, hl, items, fun H' sm => ?_⟩
          have e : (xs.map (itemOk i)).all id = false := by
            rw [List.all_eq_false]
            refine ⟨itemOk i v, List.mem_map.mpr ⟨v, hv, rfl⟩, ?_⟩
            rcases out with ⟨n, rfl, hn⟩ | no
            · show ¬ (inOk 0 (i - 1) n = true)
              rw [hn]
              decide
            · rw [noInt_item no]
              decide
          rw [e]
          exact q H' sm
        · exact .inr (.inr ⟨a, xs, rfl, ha, by omega, q H (.refl H)⟩)
    rcases h' with ⟨a, xs, rfl, ha, hl, items, q⟩ | ⟨t, ty, kb, q⟩ | ⟨a, xs, rfl, ha, long, q⟩
    · refine ⟨_, rfl, _, _, _, _, true, rfl, .ty _, .base (.tup ha), kit_ty (by decide +kernel), true, rfl, iteF ?_⟩
      refine ⟨_, rfl, a, xs, rfl, .inr (.of ha), _, _, rfl, rfl, _, rfl, iteFo (decide_eq_false (by omega)) ?_⟩
      refine ⟨.ref a, rfl, a, rfl, ⟨_, .of ha⟩, fun D nD => ?_⟩
      refine lc_tup (K := K) (a := a) (xs := xs) (fun k H1 => Same H H1 ∧ H1 D = some (.lst ((xs.take k).map fun v => .bl (itemOk i v)))) ⟨sameUpd nD, upd_same⟩ (fun k H1 _ hP => .of (hP.1 _ _ ha)) (fun k v H1 hv hP => ?_) (fun H1 hP => ?_)
      · obtain ⟨sm, hD⟩ := hP
        have step : Same H (upd H1 D (.lst ((xs.take k).map (fun v => V.bl (itemOk i v)) ++ [V.bl (itemOk i v)]))) ∧
            upd H1 D (.lst ((xs.take k).map (fun v => V.bl (itemOk i v)) ++ [V.bl (itemOk i v)])) D = some (.lst ((xs.take (k + 1)).map fun v => V.bl (itemOk i v))) := by
          refine ⟨fun b o e => ?_, ?_⟩
          · rw [upd_ne (ne_of_none e nD)]
            exact sm b o e
          · rw [upd_same, List.take_add_one, hv, List.map_append]
            rfl
        have lt : ((xs.take k).map fun v => V.bl (itemOk i v)).length < sizeLine := by
          rw [List.length_map, List.length_take]
          exact Nat.lt_of_le_of_lt (Nat.min_le_right _ _) (small1000 hl)
        rcases items v (List.mem_of_getElem? hv) with ⟨n, rfl⟩ | no
        · exact ⟨rfl, _, rfl, _, rfl, _, _, rfl, rfl, _, _, _, rfl, .inl ⟨n, rfl, _, hD, lt, step⟩⟩
        · refine ⟨rfl, _, rfl, _, rfl, _, _, rfl, rfl, _, _, _, rfl, .inr ⟨noInt_same sm no, _, hD, lt, ?_⟩⟩
          rw [noInt_item (i := i) no] at step
          exact step
      · obtain ⟨sm, hD⟩ := hP
        rw [List.take_length] at hD
        refine ⟨D, xs.map (itemOk i), rfl, .of ?_, q H1 sm⟩
        rw [hD, List.map_map]
        rfl
    · exact ⟨_, rfl, _, _, _, _, false, rfl, .ty _, ty, kit_ty kb, false, rfl, iteT (iteT q)⟩
    · refine ⟨_, rfl, _, _, _, _, true, rfl, .ty _, .base (.tup ha), kit_ty (by decide +kernel), true, rfl, iteF ?_⟩
      exact ⟨_, rfl, a, xs, rfl, .inr (.of ha), _, _, rfl, rfl, _, rfl, iteTo (decide_eq_true (by omega)) q⟩
theorem ok_num {f fB fA C CO fE : Addr} {fd fdB fdA : FuncData} (F : Fun K "number_of" "number_of" sNum f fd) (bB : Binds K fdB ["base"] []) (bA : Binds K fdA ["base", "figures"] [])
    (GB : FnOk P w K mg base (L2.CX P w) 2 fB fdB ["base"] (spBase K C)) (GA : FnOk P w K mg base CX0 3 fA fdA ["base", "figures"] (spAre K))
    (gB : mg "_check_base" = some (.ref fB)) (gA : mg "_are_figures" = some (.ref fA)) (kB : PySem.W.keepIn K (.ref fB) = true) (kA : PySem.W.keepIn K (.ref fA) = true)
    (xO : PySem.W.excIn K CO [.type "ValueError", .type "Exception", .type "BaseException", .type "object"] "ValueError.__new__" = true) (gO : mg "InvalidOperation" = some (.ref CO)) (kO : PySem.W.keepIn K (.ref CO) = true)
    (bO : PySem.W.subIn K (.ref CO) (.type "BaseException") = some true) (tO : PySem.W.typeIn K (.ref CO) = some (.type "type")) :
    FnOk P w K mg base (L2.CX P w) 4 f fd ["base", "figures"] (spNum K CO) := by
  refine F.okX scNum (fun vs H Q E h => ?_) (fun cdv A outer s H vs Q E hr h => ?_)
  · obtain ⟨i, x, rfl, _⟩ := h
    rfl
  · obtain ⟨i, x, rfl, i1, i0, i2, h⟩ := h
    have hr2 := hr.mono (show 2 ≤ 3 by decide)
    refine ⟨_, pss_cons (ps_expr (pe_call GB hr2 (by rfl) gB kB bB .nil (passes_call (E := E) (takes_of rfl rfl rfl rfl) fun _ _ _ _ h => h) (pa_cons (pv 0) pa_nil)))
      (pss_cons (ps_if (pt_not (pt_val (pe_call GA hr (by rfl) gA kA bA .nil pass0 (pa_cons (pv 0) (pa_cons (pv 1) pa_nil)))))
        (pss_one (ps_raise rfl (takes_of rfl rfl rfl rfl) (pmk_own PySem.F.excBase_ValueError xO gO kO (raises_own bO tO) rfl))) pss_nil)
      (pss_cons (ps_set (i := 2) scNum.nd rfl (.inl rfl) pe_int)
      (pss_cons (ps_for (passes_of rfl) rfl (pi_tup (pv 1)) (pg_name (i := 3) scNum.nd rfl (.inl rfl))
        (pss_one (ps_set (i := 2) scNum.nd rfl (.inl rfl) (pe_op op_add (pe_op op_mulW (pv 2) (pv 0)) (pv 3)))))
      (pss_one (ps_ret (pv 2)))))), ?_⟩
    refine ⟨_, rfl, _, rfl, .inl ⟨i, ⟨rfl, i1, i0⟩, ?_⟩⟩
    rcases h with ⟨fs, ⟨a, rfl, ha, hl, all⟩, q⟩ | ⟨bad, q⟩
    · refine ⟨_, rfl, _, rfl, i, _, rfl, i1, i2, .inl ⟨⟨fs, a, rfl, ha, hl, all⟩, fun H1 sm => ⟨true, rfl, iteF ?_⟩⟩⟩
      refine ⟨_, rfl, a, rfl, ⟨_, .of (sm _ _ ha)⟩, ?_⟩
      refine for_tup (K := K) (a := a) (xs := fs.map V.int) (fun k σ H2 => ∃ y3, σ = [some (.int i), some (.ref a), some (.int (val i (fs.take k))), y3] ∧ H2 = H1) ⟨none, rfl, rfl⟩
        (fun k σ H2 _ hP => by obtain ⟨_, _, rfl⟩ := hP; exact .of (sm _ _ ha)) (fun k v σ H2 hv hP => ?_) (fun σ H2 hP => ?_)
      · obtain ⟨y3, rfl, rfl⟩ := hP
        rw [List.getElem?_map] at hv
        obtain ⟨n, hn, rfl⟩ := Option.map_eq_some_iff.mp hv
        obtain ⟨v0, v1⟩ := val_bound i0 (fs.take k) fun f hf => all f (List.mem_of_mem_take hf)
        have lk : (fs.take k).length ≤ 100 := by
          rw [List.length_take]
          omega
        have sz := le_bits v0 (Int.le_of_lt v1) (pow_size i0 i2 lk)
        refine ⟨_, rfl, _, rfl, _, _, rfl, rfl, wide_mul sz (show i.natAbs < 2 ^ 64 by omega) (by decide) (by decide) (by decide), _, rfl, _, _, rfl, rfl, some (.int n), ?_, rfl⟩
        rw [List.take_add_one, hn]
        show _ = [some (V.int i), some (V.ref a), some (V.int (val i (fs.take k ++ [n]))), some (V.int n)]
        rw [val_snoc]
        rfl
      · obtain ⟨y3, rfl, rfl⟩ := hP
        refine ⟨_, rfl, ?_⟩
        rw [List.length_map, List.take_length]
        exact q H2 sm
    · exact ⟨_, rfl, _, rfl, i, _, rfl, i1, i2, .inr ⟨bad, fun H1 sm => ⟨false, rfl, iteT (q H1 sm)⟩⟩⟩
end
end K02

set_option maxHeartbeats 4000000
namespace K02
open PySem PySem.Spec PyProof.Rows L2 GG LamX
abbrev sPow : Stmt := topS 22
abbrev sLimit : Stmt := topS 23
abbrev sMet : Stmt := topS 24
theorem scPow : FnScope ["base", "number", "found", "turn"] ["base", "number"] (defScope sPow) := ⟨rfl, rfl, rfl, by decide +kernel, rfl, by decide +kernel, by decide +kernel⟩
theorem scLimit : FnScope [] [] (defScope sLimit) := ⟨rfl, rfl, rfl, by decide +kernel, rfl, by decide +kernel, by decide +kernel⟩
theorem scMet : FnScope ["call", "e"] ["call"] (defScope sMet) := ⟨rfl, rfl, rfl, by decide +kernel, rfl, by decide +kernel, by decide +kernel⟩
def spPow : Sp := fun vs H Q _ => ∃ (i : Int) (n : Nat), vs = [.int i, .int n] ∧ 1 ≤ i ∧ i < 2 ^ 64 ∧ n ≤ 100 ∧ Q (.int (i ^ n)) H
/-- what _law_met makes of its call -/
def TTmet (K : PySem.W.Frag) (CN CO : Addr) : (XK → Hp → VK → Prop) → Hp → VK → Prop := fun tl H Q =>
  tl (fun cls d H' => ∃ b, PySem.W.exmOne K cls (.ref CN) = some b ∧
      (b = true → cls = .ref CN ∧ ∃ dd v dat, d = some dd ∧ H' dd = some (xdv v) ∧ Rp K H' v dat ∧ 7 + dat.shown.length ≤ sizeLine ∧ Q (.str ("number " ++ dat.shown)) H') ∧
      (b = false → ∃ b2, PySem.W.exmOne K cls (.ref CO) = some b2 ∧ (b2 = true → Q (.str "operation") H') ∧ (b2 = false → False)))
    H (fun _ H' => Q (.str "") H')
section
variable {P : Program} {w : World} {K : PySem.W.Frag} {mg : Str → Option Value} {base : Heap}
theorem ok_limit {f : Addr} {fd : FuncData} {k : Nat} (F : Fun K "_law_limit" "_law_limit" sLimit f fd) :
    FnOk P w K mg base CX0 (k + 1) f fd [] spLimit := by
  refine F.ok scLimit (fun vs H Q E h => ?_) (fun cdv A outer s H vs Q E hr h => ?_)
  · rw [h.1]
    rfl
  · obtain ⟨rfl, q⟩ := h
    refine ⟨_, pss_one (ps_ret (pe_op op_powW (pe_op op_pow pe_int pe_int) pe_int)), ?_⟩
    refine ⟨_, _, rfl, rfl, ⟨by decide, by decide, by decide⟩, _, _, rfl, rfl, ⟨by decide, by decide +kernel⟩, ?_⟩
    rw [← limE] at q
    exact q
theorem ok_pow {f : Addr} {fd : FuncData} {k : Nat} (F : Fun K "_law_power" "_law_power" sPow f fd) (mr : mg "range" = none) :
    FnOk P w K mg base CX0 (k + 1) f fd ["base", "number"] spPow := by
  refine F.ok scPow (fun vs H Q E h => ?_) (fun cdv A outer s H vs Q E hr h => ?_)
  · obtain ⟨i, n, rfl, _⟩ := h
    rfl
  · obtain ⟨i, n, rfl, h0, h1, hn, q⟩ := h
    refine ⟨_, pss_cons (ps_set (i := 2) scPow.nd rfl (.inl rfl) pe_int)
      (pss_cons (ps_for PassesOwn.never rfl (pi_range1 rfl mr (pa_cons (pv 1) pa_nil)) (pg_name (i := 3) scPow.nd rfl (.inl rfl))
        (pss_one (ps_set (i := 2) scPow.nd rfl (.inl rfl) (pe_op op_mulW (pv 2) (pv 0)))))
      (pss_one (ps_ret (pv 2)))), ?_⟩
    refine ⟨_, rfl, _, rfl, by omega, by omega, ?_⟩
    refine for_range (lo := 0) (n := ((n : Nat) : Int).toNat) (fun k σ H1 => ∃ y3, σ = [some (.int i), some (.int n), some (.int (i ^ k)), y3] ∧ H1 = H) ⟨none, by rw [Int.pow_zero]; rfl, rfl⟩
      (fun k σ H1 hk hP => ?_) (fun σ H1 hP => ?_)
    · obtain ⟨y3, rfl, rfl⟩ := hP
      have sz := pow_size h0 h1 (show k ≤ 100 by omega)
      exact ⟨_, rfl, _, rfl, _, _, rfl, rfl, wide_mul sz (show i.natAbs < 2 ^ 64 by omega) (by decide) (by decide) (by decide), some (.int (0 + k)), by rw [Int.pow_succ]; rfl, rfl⟩
    · obtain ⟨y3, rfl, rfl⟩ := hP
      rw [Int.toNat_natCast]
      exact ⟨_, rfl, q⟩
end
section
variable {X : Cx}
theorem takes_len {X : Cx} {W : WX} {n : Nat} (tk : Takes X W) (hn : X.N.length = n) : Takes X (fun cls d σ H => σ.length = n → W cls d σ H) := by
  intro u s' x
  obtain ⟨a, B, sI, pins, σ, H, cls, d, e, I, nb, up, sky, na, os, ag, wish⟩ := x
  exact tk u s' ⟨a, B, sI, pins, σ, H, cls, d, e, I, nb, up, sky, na, os, ag, wish (I.len.trans hn)⟩
theorem met_gives {g CN CO fE : Addr} {cdg : Value} {q : Str} {k : Nat} (gd : X.A.guards = some []) (hr : Room (k + 1) X.A) (mp : X.mg "repr" = none)
    (T : XN X.K X.mg CN fE) (gO : X.mg "InvalidOperation" = some (.ref CO)) :
    GivesTo X ["call", "e"] "_law_met" (defScope sMet) g cdg (defBody sMet) "call" q (TTmet X.K CN CO) := by
  intro f c' s H Q tl act hc h
  have un : X.A.units + 16 * (k + 1) + 200 < cLine := hr.un
  let Y : Cx := (cxOf C8.CX0 X.prog X.w X.K X.mg X.base ["call", "e"] "_law_met" (defScope sMet) g cdg X.A X.stack s H C8.E0).nox
  refine ⟨_, pss_cons (ps_tryC (X := Y)
      (tb := fun W D σ H => ∃ Ech : XK, (∀ cls d σ' H', Ech cls d H' → σ'.length = 2 → W cls d σ' H') ∧ σ[0]? = some (some (.ref f)) ∧ H c' = some (CodeO c' q) ∧ tl Ech H (fun _ H1 => D.nx σ H1))
      rfl rfl L2.takes0 (fun W pn xe tk _ => ?_)
      (.named (x := "InvalidNumber") (i := 1) (c := .ref CN) scMet.nd rfl rfl ⟨rfl, by decide, .inl T.gC⟩ (fun a oe cls d pn hz hf => pss_one (ps_ret (pe_op op_add_str pe_str
          (pe_callB (X := Y.suite a ((a, oe) :: pn)) (show CallR (Y.suite a ((a, oe) :: pn)) (.builtin "repr") (rReprD X.K) from call_reprR (X := Y.suite a ((a, oe) :: pn)) gd (show X.A.units + 3 + 64 < cLine by omega)) rfl mp (by decide +kernel) (pa_cons (pe_byX T hz hf (pv 1)) pa_nil)))))
        (.plain (x := "InvalidOperation") (c := .ref CO) ⟨rfl, by decide, .inl gO⟩ (fun a oe cls d pn _ _ => pss_one (ps_ret pe_str)) .nil)))
    (pss_one (ps_ret pe_str)), ?_⟩
  · constructor
    intro pins s' σ H' D I h'
    obtain ⟨Ech, hW, h1, h2, h3⟩ := h'
    refine (pss_one (ps_expr (act (fun cls d σ H => σ.length = 2 → W cls d σ H) pn xe Ech _ _ (takes_len tk rfl) hW))).run pins s' σ H' D I ⟨h1, h2, h3⟩
  · refine ⟨_, ?_, rfl, hc, h⟩
    rintro cls d σ' H' ⟨b, e1, yes, no⟩ len
    refine ⟨b, e1, fun hb a _ => ?_, fun hb => ?_⟩
    · obtain ⟨ec, dd, v, dat, ed, ea, rp, sz, q⟩ := yes hb
      obtain ⟨x, y, rfl⟩ : ∃ x y, σ' = [x, y] := by
        match σ', len with
        | [x, y], _ => exact ⟨x, y, rfl⟩
      refine ⟨_, rfl, rfl, ec, dd, v, ed, ea, v, dat, rfl, rp, _, _, rfl, rfl, ?_, q⟩
      have : ((("number " : String) : Str)).length = 7 := by decide
      omega
    · obtain ⟨b2, e2, y2, n2⟩ := no hb
      exact ⟨b2, e2, fun hb2 a _ => y2 hb2, fun hb2 => n2 hb2⟩
end
end K02

set_option maxHeartbeats 4000000
namespace GG
open PySem PySem.Spec PyProof.Rows L2
/-- a tuple times an int, told by the product of the two sizes -/
def rRepW (K : PySem.W.Frag) : R2 := fun x y H Q => ∃ l k xs, x = .ref l ∧ y = .int k ∧ SqT K H l xs ∧ xs ≠ [] ∧ 2 ≤ k ∧ k < 2 ^ 62 ∧ k.toNat * xs.length ≤ 1000000 ∧ ∀ p, H p = none → Q (.ref p) (upd H p (.tup (List.replicate k.toNat xs).flatten))
theorem op_repW {X : Cx} : OpR X (binaryOp .Mult) (rRepW X.K) := by
  intro pins s σ H x y v u Q I rx ry ⟨l, k, xs, ex, ey, hT, hne, k2, kb, few, q⟩
  subst ex ey
  cases rx
  obtain ⟨t, rfl⟩ := ry
  obtain ⟨vs, rv, ⟨⟨c, od, dt, so⟩, at_, hc, tk, hdt⟩, _⟩ := I.tuple hT
  simp only at hc hdt
  subst hc hdt
  have len : vs.length = xs.length := rv.length.symm
  have some_ : vs.toArray.isEmpty = false := by
    rcases vs with _ | ⟨v0, vs⟩
    · exact absurd (List.eq_nil_of_length_eq_zero len.symm) hne
    · rfl
  have size : vs.toArray.size = xs.length := by rw [List.size_toArray, len]
  have prod : ((vs.toArray.size : Nat) : Int) * k = ((k.toNat * xs.length : Nat) : Int) := by
    rw [size, Int.natCast_mul, Int.toNat_of_nonneg (show 0 ≤ k by omega), Int.mul_comm]
  have all : (List.replicate k.toNat vs).flatten.length ≤ sizeLine := by
    rw [PyProof.Rows.lm_len_rep_flat, len, sizeLine_eq]
    omega
  refine wpAny_binaryOp_repeat_ref (T := "tuple") (U := "int") (by decide) ⟨_, at_, rfl⟩ (fun s' => typeIs_int s' k t) noFill_tuple_mul F.fills_int_mul F.slot_int_rmul repeat_tuple F.slot_int_index.lookup
    (call_meets F.slot_int_rmul (typeIs_int s k t) F.entry_int_rmul (F.args_int_rmul_2 _ _) (int_rmul_tuple k t l vs.toArray tk od so)
      ⟨at_, rfl, ⟨_, at_, rfl⟩, call_meets F.slot_tuple_mul ⟨_, at_, rfl⟩ F.entry_tuple_mul (F.args_tuple_mul_2 _ _)
        (tuple_mulW l vs.toArray tk od so k t ?_ ?_ ?_ ?_ ?_ ?_) ⟨at_, ?_⟩⟩)
  · rw [decide_eq_false (by omega), decide_eq_false (by omega)]
    rfl
  · rw [some_, Bool.false_or]
    exact beq_eq_false_iff_ne.mpr (by omega)
  · rw [some_, Bool.or_false]
    exact decide_eq_false (by omega)
  · rw [prod]
    omega
  · unfold Builtin.Tuple.tupleTooMany
    rw [prod, sizeLine_eq]
    exact decide_eq_false (by omega)
  · rw [size_rep, List.size_toArray]
    exact all
  · rw [size_rep]
    refine ⟨.ref s.heap.objs.size, _, I.laid (t' := s.toks) (o := .tup (List.replicate k.toNat xs).flatten) (fun b ob e => Heap.get?_push_of_some _ e) (Nat.le_refl _) ⟨?_, _, rv.rep k.toNat, IsTup.new _ _⟩, rfl, q _ (I.hok.fresh (Nat.le_refl _))⟩
    rw [PyProof.Rows.lm_len_rep_flat, sizeLine_eq]
    omega
end GG
namespace K02
open PySem PySem.Spec PyProof.Rows L2 GG LamX
abbrev sErr : Stmt := topS 26
theorem scErr : FnScope ["dice", "told", "word", "due", "bad", "odd"] ["dice"] (defScope sErr) := ⟨rfl, rfl, rfl, by decide +kernel, rfl, by decide +kernel, by decide +kernel⟩
section
variable {X : Cx}
/-- _law_met(lambda: ..) -/
theorem pe_met {g CN CO fE c P : Addr} {fd : FuncData} {k : Nat} {params : Arguments} {body : Expr} {scope : Scope} {t : XK → TE} {p lpos pos : Pos}
    (F : Fun X.K "_law_met" "_law_met" sMet g fd) (bM : L2.Binds X.K fd ["call"] []) (gd : X.A.guards = some []) (hr : Room (k + 2) X.A) (mp : X.mg "repr" = none)
    (N : XN X.K X.mg CN fE) (gO : X.mg "InvalidOperation" = some (.ref CO)) (hg : Gl X "_law_met") (hm : X.mg "_law_met" = some (.ref g))
    (TB : TabB X.base X.mg c P) (hcode : X.env.code = .ref c) (L : LamS X.env.scope scope) (hdef : defaultsOf params X.env = ([], []))
    (hbind : ∀ (q : Str) (cl : List (Str × Addr)) (pm cv ctv : Value), bindArgs (PySem.W.kla_fn "<lambda>" q params body scope cl pm cv ctv) ⟨[], []⟩ = pure [])
    (hbody : ∀ (A : Around) (outer : List Env) (s : Shared) (H : Hp) (E : XK) (f c' : Addr), Room k (A.deeper (lamEnv X scope s.heap.objs.size f c')) → PE (lamCx X A outer s H E scope f c') body (t E)) :
    PE X (.Call (.Name "_law_met" p) [.Lambda params body scope lpos] [] pos) (tLam [(P, X.env.qual ++ "<lambda>")] (TTmet X.K CN CO) t) := by
  obtain ⟨oc, od, kV, doc, pm, an, cdv, ct, osl, rfl, lk, hcd⟩ := F.ex
  exact pe_lamcall hg hm F.kp lk hcd bM scMet rfl (.inl rfl) (met_gives (k := k + 1) gd hr mp N gO) TB hcode List.mem_cons_self
    (fun q hq _ => by cases List.mem_singleton.mp hq; rfl) hr L hdef hbind hbody
end
/-! ### the odd values and the bad figures -/
inductive OddA (H : Hp) : V → PyData → Prop
  | non : OddA H .non .none
  | bl : OddA H (.bl true) (.bool true)
  | str : OddA H (.str "1") (.str "1")
  | tup {a : Addr} : H a = some (.tup [.int 1]) → OddA H (.ref a) (.tuple [.int 1])
  | lst {a : Addr} : H a = some (.lst []) → OddA H (.ref a) (.list [])
  | neg : OddA H (.int (-1)) (.int (-1))
  | lim : OddA H (.int BND) (.int BND)
  | dct {a : Addr} : H a = some (.dK []) → OddA H (.ref a) (.dict [])
/-- all but the object at p and the tables stay -/
def ExtP (p : Addr) (H H' : Hp) : Prop := ∀ b o, b ≠ p → (∀ ps, o ≠ .tbl ps) → H b = some o → H' b = some o
theorem ExtP.trans {p : Addr} {H H1 H2 : Hp} (a : ExtP p H H1) (b : ExtP p H1 H2) : ExtP p H H2 := fun c o n t e => b c o n t (a c o n t e)
theorem ExtP.ofN {p : Addr} {H H1 : Hp} (a : ExtN H H1) : ExtP p H H1 := fun c o n t e => a c o e t
theorem ExtP.of {p : Addr} {H H1 : Hp} (a : Same H H1) : ExtP p H H1 := fun c o n t e => a c o e
theorem ExtP.at {p : Addr} {H : Hp} {o : HO} : ExtP p H (upd H p o) := fun c u n t e => by
  rw [upd_ne n]
  exact e
theorem OddA.ext {p : Addr} {H H' : Hp} {v : V} {d : PyData} (h : OddA H v d) (n : v ≠ .ref p) (e : ExtP p H H') : OddA H' v d := by
  cases h with
  | non => exact .non
  | bl => exact .bl
  | str => exact .str
  | tup h => exact .tup (e _ _ (fun z => n (by rw [z])) (fun ps z => by cases z) h)
  | lst h => exact .lst (e _ _ (fun z => n (by rw [z])) (fun ps z => by cases z) h)
  | neg => exact .neg
  | lim => exact .lim
  | dct h => exact .dct (e _ _ (fun z => n (by rw [z])) (fun ps z => by cases z) h)
theorem OddA.extN {H H' : Hp} {v : V} {d : PyData} (h : OddA H v d) (e : ExtN H H') : OddA H' v d := by
  cases h with
  | non => exact .non
  | bl => exact .bl
  | str => exact .str
  | tup h => exact .tup (e _ _ h (fun ps z => by cases z))
  | lst h => exact .lst (e _ _ h (fun ps z => by cases z))
  | neg => exact .neg
  | lim => exact .lim
  | dct h => exact .dct (e _ _ h (fun ps z => by cases z))
theorem OddA.ne {p : Addr} {H : Hp} {v : V} {d : PyData} (h : OddA H v d) (n : H p = none) : v ≠ .ref p := by
  cases h with
  | tup h => exact fun z => by cases z; rw [n] at h; cases h
  | lst h => exact fun z => by cases z; rw [n] at h; cases h
  | dct h => exact fun z => by cases z; rw [n] at h; cases h
  | _ => exact fun z => by cases z
theorem noI_non {K : PySem.W.Frag} {H : Hp} : NoInt K H .non := .inr ⟨_, .base .non, by decide +kernel⟩
theorem noI_str {K : PySem.W.Frag} {H : Hp} {x : Str} : NoInt K H (.str x) := .inr ⟨_, .base (.str x), by decide +kernel⟩
theorem intOk_BND : intOk BND = false := by decide +kernel
theorem OddA.kind {K : PySem.W.Frag} {H : Hp} {v : V} {d : PyData} (h : OddA H v d) : (∃ n, v = .int n ∧ (intOk n = false ∨ n < 0)) ∨ NoInt K H v := by
  cases h with
  | non => exact .inr noI_non
  | bl => exact .inr (.inl ⟨true, rfl⟩)
  | str => exact .inr noI_str
  | tup h => exact .inr (.inr ⟨_, .base (.tup h), by decide +kernel⟩)
  | lst h => exact .inr (.inr ⟨_, .base (.lst h), by decide +kernel⟩)
  | neg => exact .inl ⟨_, rfl, .inr (by decide)⟩
  | lim => exact .inl ⟨_, rfl, .inl intOk_BND⟩
  | dct h => exact .inr (.inr ⟨_, .base (.dK h), by decide +kernel⟩)
theorem OddA.bad {K : PySem.W.Frag} {H : Hp} {v : V} {d : PyData} (h : OddA H v d) : Bad K H v := by
  rcases h.kind (K := K) with ⟨n, rfl, z⟩ | z
  · refine .inl ⟨n, rfl, fun ⟨a, b⟩ => ?_⟩
    rcases z with z | z
    · rw [z] at a
      cases a
    · omega
  · exact .inr z
theorem OddA.out {K : PySem.W.Frag} {H : Hp} {v : V} {d : PyData} {hi : Int} (h : OddA H v d) : Out K H v 0 hi := by
  rcases h.kind (K := K) with ⟨n, rfl, z⟩ | z
  · refine .inl ⟨n, rfl, ?_⟩
    unfold inOk
    rcases z with z | z
    · rw [z]
      rfl
    · rw [decide_eq_false (show ¬ (0 ≤ n) by omega), Bool.false_and, Bool.and_false]
  · exact .inr z
theorem OddA.cnt {K : PySem.W.Frag} {H : Hp} {v : V} {d : PyData} (h : OddA H v d) : (∃ n, v = .int n ∧ cntOk n = false) ∨ NoInt K H v := by
  rcases h.kind (K := K) with ⟨n, rfl, z⟩ | z
  · refine .inl ⟨n, rfl, ?_⟩
    unfold cntOk
    rcases z with z | z
    · rw [z]
      rfl
    · rw [decide_eq_false (show ¬ (0 ≤ n) by omega), Bool.and_false]
  · exact .inr z
theorem OddA.rp {K : PySem.W.Frag} {H : Hp} {v : V} {d : PyData} (h : OddA H v d) : Rp K H v d ∧ 7 + d.shown.length ≤ sizeLine := by
  cases h with
  | non => exact ⟨.inl ⟨.non, by decide +kernel, by decide +kernel, by decide +kernel, by decide +kernel⟩, by decide +kernel⟩
  | bl => exact ⟨.inl ⟨.bl _, by decide +kernel, by decide +kernel, by decide +kernel, by decide +kernel⟩, by decide +kernel⟩
  | str => exact ⟨.inl ⟨.str _, by decide +kernel, by decide +kernel, by decide +kernel, by decide +kernel⟩, by decide +kernel⟩
  | tup h => exact ⟨.inl ⟨.tup (.of h) (.cons (.int _) .nil), by decide +kernel, by decide +kernel, by decide +kernel, by decide +kernel⟩, by decide +kernel⟩
  | lst h => exact ⟨.inl ⟨.lst (.of h) .nil, by decide +kernel, by decide +kernel, by decide +kernel, by decide +kernel⟩, by decide +kernel⟩
  | neg => exact ⟨.inl ⟨.int _, by decide +kernel, by decide +kernel, by decide +kernel, by decide +kernel⟩, by decide +kernel⟩
  | lim => exact ⟨.inl ⟨.int _, by decide +kernel, by decide +kernel, by decide +kernel, by decide +kernel⟩, by decide +kernel⟩
  | dct h => exact ⟨.inr ⟨_, rfl, h, rfl⟩, by decide +kernel⟩
/-- a number that the functions refuse -/
theorem rp_int {K : PySem.W.Frag} {H : Hp} {i : Int} (h : (PyData.int i).showable = true ∧ (PyData.int i).hasDict = false ∧ (PyData.int i).depth ≤ 40 ∧ (PyData.int i).shown.length ≤ sizeLine) : Rp K H (.int i) (.int i) :=
  .inl ⟨.int i, h.1, h.2.1, h.2.2.1, h.2.2.2⟩
def badTups : List (List V) := [[.int 2], [.int 0, .int (-1)], [.bl true], [.str "0"], List.replicate 1001 (.int 0)]
inductive BadA (H : Hp) : V → Prop
  | non : BadA H .non
  | int : BadA H (.int 0)
  | str {x : Str} : BadA H (.str x)
  | lst {a : Addr} {xs : List V} : H a = some (.lst xs) → BadA H (.ref a)
  | dct {a : Addr} : H a = some (.dK []) → BadA H (.ref a)
  | tup {a : Addr} {xs : List V} : H a = some (.tup xs) → xs ∈ badTups → BadA H (.ref a)
theorem BadA.ext {p : Addr} {H H' : Hp} {v : V} (h : BadA H v) (n : v ≠ .ref p) (e : ExtP p H H') : BadA H' v := by
  cases h with
  | non => exact .non
  | int => exact .int
  | str => exact .str
  | lst h => exact .lst (e _ _ (fun z => n (by rw [z])) (fun ps z => by cases z) h)
  | dct h => exact .dct (e _ _ (fun z => n (by rw [z])) (fun ps z => by cases z) h)
  | tup h m => exact .tup (e _ _ (fun z => n (by rw [z])) (fun ps z => by cases z) h) m
theorem BadA.extN {H H' : Hp} {v : V} (h : BadA H v) (e : ExtN H H') : BadA H' v := by
  cases h with
  | non => exact .non
  | int => exact .int
  | str => exact .str
  | lst h => exact .lst (e _ _ h (fun ps z => by cases z))
  | dct h => exact .dct (e _ _ h (fun ps z => by cases z))
  | tup h m => exact .tup (e _ _ h (fun ps z => by cases z)) m
theorem outOf {K : PySem.W.Frag} {H : Hp} {v : V} {lo hi : Int} (h : ∃ n, v = .int n ∧ inOk lo hi n = false) : Out K H v lo hi := .inl h
theorem BadA.no {K : PySem.W.Frag} {H : Hp} {v : V} (h : BadA H v) : NoFigs K H 2 v := by
  cases h with
  | non => exact .inl ⟨_, .base .non, by decide +kernel⟩
  | int => exact .inl ⟨_, .base (.int 0), by decide +kernel⟩
  | str => exact .inl ⟨_, .base (.str _), by decide +kernel⟩
  | lst h => exact .inl ⟨_, .base (.lst h), by decide +kernel⟩
  | dct h => exact .inl ⟨_, .base (.dK h), by decide +kernel⟩
  | tup h m =>
    refine .inr ⟨_, _, rfl, h, ?_⟩
    simp only [badTups, List.mem_cons, List.mem_nil_iff, or_false] at m
    rcases m with rfl | rfl | rfl | rfl | rfl
    · exact ⟨by decide, .inr ⟨fun v hv => by cases List.mem_singleton.mp hv; exact .inl ⟨_, rfl⟩, _, List.mem_singleton.mpr rfl, .inl ⟨2, rfl, by decide +kernel⟩⟩⟩
    · refine ⟨by decide, .inr ⟨fun v hv => ?_, _, List.mem_cons_of_mem _ (List.mem_singleton.mpr rfl), .inl ⟨-1, rfl, by decide +kernel⟩⟩⟩
      rcases List.mem_cons.mp hv with rfl | hv
      · exact .inl ⟨_, rfl⟩
      · cases List.mem_singleton.mp hv
        exact .inl ⟨_, rfl⟩
    · exact ⟨by decide, .inr ⟨fun v hv => by cases List.mem_singleton.mp hv; exact .inr (.inl ⟨true, rfl⟩), _, List.mem_singleton.mpr rfl, .inr (.inl ⟨true, rfl⟩)⟩⟩
    · exact ⟨by decide, .inr ⟨fun v hv => by cases List.mem_singleton.mp hv; exact .inr noI_str, _, List.mem_singleton.mpr rfl, .inr noI_str⟩⟩
    · rw [List.length_replicate]
      exact ⟨by decide, .inl (by decide)⟩
end K02

set_option maxHeartbeats 8000000
namespace K02
open PySem PySem.Spec PyProof.Rows L2 GG LamX
/-- the table of the row's lambdas -/
abbrev lamT (P : Addr) : List (Addr × Str) := [(P, (("_law_errors_right" : Str) ++ ".<locals>.") ++ "<lambda>")]
theorem Tabs.put {P p : Addr} {q : Str} {H : Hp} {xs : List V} (t : Tabs [(P, q)] H) (h : H p = some (.lst xs)) (ys : List V) : Tabs [(P, q)] (upd H p (.lst ys)) := by
  intro z hz
  cases List.mem_singleton.mp hz
  obtain ⟨ps, h1, h2, h3⟩ := t _ List.mem_cons_self
  have n1 : P ≠ p := fun e => by
    rw [e] at h1
    rw [h] at h1
    cases h1
  refine ⟨ps, by rw [upd_ne n1]; exact h1, h2, fun pos cv hc => ?_⟩
  obtain ⟨c, e1, e2⟩ := h3 pos cv hc
  have n2 : c ≠ p := fun e => by
    rw [e] at e2
    rw [h] at e2
    cases e2
  exact ⟨c, e1, by rw [upd_ne n2]; exact e2⟩
theorem Tabs.but {P l : Addr} {q : Str} {H H' : Hp} {xs : List V} (t : Tabs [(P, q)] H) (h : H l = some (.lst xs)) (b : But l H H') : Tabs [(P, q)] H' := by
  intro z hz
  cases List.mem_singleton.mp hz
  obtain ⟨ps, h1, h2, h3⟩ := t _ List.mem_cons_self
  have n1 : P ≠ l := fun e => by
    rw [e] at h1
    rw [h] at h1
    cases h1
  refine ⟨ps, b _ _ n1 h1, h2, fun pos cv hc => ?_⟩
  obtain ⟨c, e1, e2⟩ := h3 pos cv hc
  have n2 : c ≠ l := fun e => by
    rw [e] at e2
    rw [h] at e2
    cases e2
  exact ⟨c, e1, b _ _ n2 e2⟩
theorem Dice.lst {H : Hp} {l : Addr} (d : Dice H l) : ∃ xs, H l = some (.lst xs) := by
  obtain ⟨a, b, c, h, _⟩ := d
  exact ⟨_, h⟩
theorem Dice.ext {H H' : Hp} {l : Addr} (d : Dice H l) (e : ExtN H H') : Dice H' l := by
  obtain ⟨a, b, c, h, n⟩ := d
  exact ⟨a, b, c, e _ _ h (fun ps z => by cases z), n⟩
theorem OddA.but {l : Addr} {H H' : Hp} {v : V} {d : PyData} (h : OddA H v d) (dl : Dice H l) (b : But l H H') : OddA H' v d := by
  obtain ⟨x, y, z, hl, _⟩ := dl
  cases h with
  | non => exact .non
  | bl => exact .bl
  | str => exact .str
  | neg => exact .neg
  | lim => exact .lim
  | tup h => exact .tup (b _ _ (fun e => by rw [e, hl] at h; cases h) h)
  | lst h => exact .lst (b _ _ (fun e => by rw [e, hl] at h; cases h) h)
  | dct h => exact .dct (b _ _ (fun e => by rw [e, hl] at h; cases h) h)
structure St (l p P : Addr) (q : Str) (H0 : Hp) (v : V) (d : PyData) (yb : Option V) (xs : List V) (H : Hp) : Prop where
  dl : Dice H l
  lp : l ≠ p
  n0 : ∀ o, (∀ ps, o ≠ .tbl ps) → H0 p ≠ some o
  bs : ExtP l H0 H
  hp : H p = some (.lst xs)
  od : OddA H v d
  ne : v ≠ .ref p
  bd : ∀ b, yb = some b → BadA H b ∧ b ≠ .ref p
  tb : Tabs [(P, q)] H
theorem St.step {l p P : Addr} {q : Str} {H0 H H2 : Hp} {v : V} {d : PyData} {yb : Option V} {xs : List V} (S : St l p P q H0 v d yb xs H) (e : ExtN H H2) (t : Tabs [(P, q)] H2) (y : V) :
    St l p P q H0 v d yb (xs ++ [y]) (upd H2 p (.lst (xs ++ [y]))) := by
  have hp2 : H2 p = some (.lst xs) := e _ _ S.hp (fun ps z => by cases z)
  have ep : ExtP p H (upd H2 p (.lst (xs ++ [y]))) := (ExtP.ofN e).trans .at
  refine ⟨?_, S.lp, S.n0, ?_, upd_same, S.od.ext S.ne ep, S.ne, fun b hb => ⟨(S.bd b hb).1.ext (S.bd b hb).2 ep, (S.bd b hb).2⟩, Tabs.put t hp2 _⟩
  · obtain ⟨a, b, c, h, n⟩ := Dice.ext S.dl e
    exact ⟨a, b, c, by rw [upd_ne S.lp]; exact h, n⟩
  · intro b o nl nt hb
    have nb : b ≠ p := fun z => S.n0 o nt (z ▸ hb)
    rw [upd_ne nb]
    exact e _ _ (S.bs b o nl nt hb) nt
theorem St.pick {l p P : Addr} {q : Str} {H0 H H2 : Hp} {v b : V} {d : PyData} {xs : List V} (S : St l p P q H0 v d none xs H) (bt : But l H H2) (dl : Dice H2 l) (hb : BadA H2 b) (nb : b ≠ .ref p) :
    St l p P q H0 v d (some b) xs H2 := by
  obtain ⟨ys, hl⟩ := K02.Dice.lst S.dl
  exact ⟨dl, S.lp, S.n0, fun c o nl nt e => bt c o nl (S.bs c o nl nt e), bt _ _ S.lp.symm S.hp, S.od.but S.dl bt, S.ne, fun c hc => (by cases hc; exact ⟨hb, nb⟩), Tabs.but S.tb hl bt⟩
/-- a raise of InvalidNumber, met -/
theorem met_num {K : PySem.W.Frag} {CN CO P : Addr} {q : Str} {t : XK → TE} {σ : L2.St} {H : Hp} {Q : VK} {v : V} {d : PyData} (tb : Tabs [(P, q)] H) (ex : PySem.W.exmOne K (.ref CN) (.ref CN) = some true)
    (hv : ∀ H1, ExtN H H1 → Rp K H1 v d ∧ 7 + d.shown.length ≤ sizeLine)
    (thr : ∀ H1, ExtN H H1 → ∀ E Q', Raised E CN v H1 → t E σ H1 Q')
    (k : ∀ H2, ExtN H H2 → Tabs [(P, q)] H2 → Q (.str ("number " ++ d.shown)) H2) : tLam [(P, q)] (TTmet K CN CO) t σ H Q := by
  refine ⟨tb, fun H1 e1 t1 => thr H1 e1 _ _ fun H2 x sm nx => ?_⟩
  have e2 : ExtN H (upd H2 x (xdv v)) := e1.trans (ExtN.of fun b o h => by rw [upd_ne (ne_of_none (sm b o h) nx)]; exact sm b o h)
  obtain ⟨rp, sz⟩ := hv _ e2
  refine ⟨true, ex, fun _ => ⟨rfl, x, v, d, rfl, upd_same, rp, sz, k _ e2 ?_⟩, fun z => by cases z⟩
  exact t1.ext fun b o h => by rw [upd_ne (ne_of_none (sm b o h) nx)]; exact sm b o h
/-- a raise of InvalidOperation, met -/
theorem met_op {K : PySem.W.Frag} {CN CO P : Addr} {q : Str} {t : XK → TE} {σ : L2.St} {H : Hp} {Q : VK} (tb : Tabs [(P, q)] H) (ex : PySem.W.exmOne K (.ref CO) (.ref CN) = some false) (ex2 : PySem.W.exmOne K (.ref CO) (.ref CO) = some true)
    (thr : ∀ H1, ExtN H H1 → ∀ (E : XK) Q', (∀ H', Same H1 H' → E (.ref CO) none H') → t E σ H1 Q')
    (k : ∀ H2, ExtN H H2 → Tabs [(P, q)] H2 → Q (.str "operation") H2) : tLam [(P, q)] (TTmet K CN CO) t σ H Q := by
  refine ⟨tb, fun H1 e1 t1 => thr H1 e1 _ _ fun H2 sm => ?_⟩
  exact ⟨false, ex, fun z => (by cases z), fun _ => ⟨true, ex2, fun _ => k _ (e1.trans (ExtN.of sm)) (t1.ext sm), fun z => by cases z⟩⟩
def spErr (P : Addr) : Sp := fun vs H Q _ => ∃ l, vs = [.ref l] ∧ Dice H l ∧ Tabs (lamT P) H ∧ ∀ H', ExtP l H H' → Dice H' l → Tabs (lamT P) H' → Q (.bl true) H'
end K02

set_option maxHeartbeats 16000000
namespace K02
open PySem PySem.Spec PyProof.Rows L2 GG LamX
abbrev nW (d : PyData) : Str := "number " ++ d.shown
abbrev toldD (d : PyData) : PyData := .list [.str (nW d), .str (nW (.int 0)), .str (nW d), .str (nW (.int 1001)), .str (nW d), .str (nW (.int 0)), .str (nW d), .str (nW d), .str (nW (.int 8)), .str (nW (.int 1001)), .str "operation"]
abbrev dueD (d : PyData) : PyData := .list [.str (nW d), .str "number 0", .str (nW d), .str "number 1001", .str (nW d), .str "number 0", .str (nW d), .str (nW d), .str "number 8", .str "number 1001", .str "operation"]
theorem OddA.eqv {H : Hp} {v : V} {d : PyData} (h : OddA H v d) : SeqAt.shaped (toldD d) = true ∧ SeqAt.shaped (dueD d) = true ∧ PyData.eqv (toldD d) (dueD d) = true := by
  cases h <;> decide +kernel
theorem rpI {K : PySem.W.Frag} {H : Hp} {i : Int} (h : (PyData.int i).showable = true ∧ (PyData.int i).hasDict = false ∧ (PyData.int i).depth ≤ 40 ∧ (PyData.int i).shown.length ≤ sizeLine ∧ 7 + (PyData.int i).shown.length ≤ sizeLine) : Rp K H (.int i) (.int i) ∧ 7 + (PyData.int i).shown.length ≤ sizeLine :=
  ⟨.inl ⟨.int i, h.1, h.2.1, h.2.2.1, h.2.2.2.1⟩, h.2.2.2.2⟩
theorem rep1001 : (List.replicate (1001 : Int).toNat [V.int 0]).flatten = List.replicate 1001 (V.int 0) := by decide +kernel
theorem good23 : intOk 2 = true ∧ intOk 3 = true := by decide +kernel
theorem bad0 {K : PySem.W.Frag} {H : Hp} : Bad K H (.int 0) := .inl ⟨0, rfl, fun z => absurd z.2 (by decide)⟩
theorem out1001 {K : PySem.W.Frag} {H : Hp} : Out K H (.int 1001) 0 1000 := .inl ⟨1001, rfl, by decide +kernel⟩
section
variable {P : Program} {w : World} {K : PySem.W.Frag} {mg : Str → Option Value} {base : Heap}
theorem ok_err {f fL fM fK fP fE fF fN CN CO fI c HK : Addr} {fdL fdM fdK fdP fdE fdF fdN : FuncData} {oc : Value} {od an : Option Addr} {osl : Array (Option Value)} {kV doc pm ct : Value}
    (lk : K.lookup f = some ⟨oc, od, .func (PySem.W.fnOf "_law_errors_right" "_law_errors_right" (defArgs sErr) (defBody sErr) (defScope sErr) .none kV doc pm an (.ref c) ct), osl⟩)
    (hcd : PySem.W.codeIn K (.ref c) "_law_errors_right" = true) (TB : TabB base mg c HK)
    (FM : Fun K "_law_met" "_law_met" sMet fM fdM) (bM : Binds K fdM ["call"] []) (bK : Binds K fdK ["dice", "items"] []) (bL : Binds K fdL [] [])
    (bP : Binds K fdP ["base", "exponent"] []) (bE : Binds K fdE ["base", "number"] []) (bF : Binds K fdF ["base", "length", "number"] []) (bN : Binds K fdN ["base", "figures"] [])
    (GK : FnOk P w K mg base CX0 2 fK fdK ["dice", "items"] (spPick K)) (GL : FnOk P w K mg base CX0 1 fL fdL [] spLimit)
    (GP : FnOk P w K mg base (L2.CX P w) 3 fP fdP ["base", "exponent"] (spPower K CN)) (GE : FnOk P w K mg base (L2.CX P w) 3 fE fdE ["base", "number"] (spExp K CN))
    (GF : FnOk P w K mg base (L2.CX P w) 3 fF fdF ["base", "length", "number"] (spFig K CN)) (GN : FnOk P w K mg base (L2.CX P w) 4 fN fdN ["base", "figures"] (spNum K CO))
    (gM : mg "_law_met" = some (.ref fM)) (gK : mg "_law_pick" = some (.ref fK)) (gL : mg "_law_limit" = some (.ref fL)) (gP : mg "power" = some (.ref fP)) (gE : mg "exponent_of" = some (.ref fE)) (gF : mg "figures_of" = some (.ref fF)) (gN : mg "number_of" = some (.ref fN))
    (kK : PySem.W.keepIn K (.ref fK) = true) (kL : PySem.W.keepIn K (.ref fL) = true) (kP : PySem.W.keepIn K (.ref fP) = true) (kE : PySem.W.keepIn K (.ref fE) = true) (kF : PySem.W.keepIn K (.ref fF) = true) (kN : PySem.W.keepIn K (.ref fN) = true)
    (mp : mg "repr" = none) (N : XN K mg CN fI) (gO : mg "InvalidOperation" = some (.ref CO))
    (exON : PySem.W.exmOne K (.ref CO) (.ref CN) = some false) (exOO : PySem.W.exmOne K (.ref CO) (.ref CO) = some true) :
    FnG P w K mg base CX0 7 f (PySem.W.fnOf "_law_errors_right" "_law_errors_right" (defArgs sErr) (defBody sErr) (defScope sErr) .none kV doc pm an (.ref c) ct) ["dice"] (spErr HK) := by
  refine fnG_lk (k := 6) lk hcd scErr (fun vs H Q E h => ?_) (fun A outer s H vs Q E gd hr h => ?_)
  · obtain ⟨l, rfl, _⟩ := h
    rfl
  · obtain ⟨l, rfl, dl, tb, q⟩ := h
    have hr2 := hr.mono (show 2 ≤ 6 by decide)
    have hr1 := hr.mono (show 1 ≤ 6 by decide)
    have un := hr.units
    refine ⟨_, PSs.nox (pss_cons (ps_set (i := 5) scErr.nd rfl (.inr rfl) (pe_call GK hr2 (by rfl) gK kK bK .nil pass0 (pa_cons (pv 0) (pa_cons (pe_lst (pa_cons pe_non (pa_cons pe_bl (pa_cons pe_str (pa_cons (pe_tup (pa_cons pe_int pa_nil)) (pa_cons (pe_lst pa_nil) (pa_cons (pe_op op_sub pe_int pe_int) (pa_cons (pe_call0 GL hr1 (by rfl) gL kL bL .nil pass0) (pa_cons pe_dnewK pa_nil))))))))) pa_nil))))
      (pss_cons (ps_set (i := 1) scErr.nd rfl (.inl rfl) (pe_lst (pa_cons (pe_met FM bM gd hr mp N gO (by rfl) gM TB rfl (lamS_by (by kernel_rfl)) rfl (fun _ _ _ _ _ => rfl) (fun A outer s H E f c' hr' => pe_call GP (hr'.mono (by decide)) (by rfl) gP kP bP .nil (passes_call (takes_of rfl rfl rfl rfl) fun _ _ _ _ h => h) (pa_cons (pv 5) (pa_cons (pv 5) pa_nil)))) pa_nil)))
      (pss_cons (ps_expr (pe_bm PySem.F.plainAttrs_list PySem.F.slot_list_append PySem.F.type_list_append mt_append (pv 1) (pa_cons (pe_met FM bM gd hr mp N gO (by rfl) gM TB rfl (lamS_by (by kernel_rfl)) rfl (fun _ _ _ _ _ => rfl) (fun A outer s H E f c' hr' => pe_call GP (hr'.mono (by decide)) (by rfl) gP kP bP .nil (passes_call (takes_of rfl rfl rfl rfl) fun _ _ _ _ h => h) (pa_cons pe_int (pa_cons (pv 5) pa_nil)))) pa_nil)))
      (pss_cons (ps_expr (pe_bm PySem.F.plainAttrs_list PySem.F.slot_list_append PySem.F.type_list_append mt_append (pv 1) (pa_cons (pe_met FM bM gd hr mp N gO (by rfl) gM TB rfl (lamS_by (by kernel_rfl)) rfl (fun _ _ _ _ _ => rfl) (fun A outer s H E f c' hr' => pe_call GP (hr'.mono (by decide)) (by rfl) gP kP bP .nil (passes_call (takes_of rfl rfl rfl rfl) fun _ _ _ _ h => h) (pa_cons pe_int (pa_cons (pv 5) pa_nil)))) pa_nil)))
      (pss_cons (ps_expr (pe_bm PySem.F.plainAttrs_list PySem.F.slot_list_append PySem.F.type_list_append mt_append (pv 1) (pa_cons (pe_met FM bM gd hr mp N gO (by rfl) gM TB rfl (lamS_by (by kernel_rfl)) rfl (fun _ _ _ _ _ => rfl) (fun A outer s H E f c' hr' => pe_call GP (hr'.mono (by decide)) (by rfl) gP kP bP .nil (passes_call (takes_of rfl rfl rfl rfl) fun _ _ _ _ h => h) (pa_cons pe_int (pa_cons pe_int pa_nil)))) pa_nil)))
      (pss_cons (ps_expr (pe_bm PySem.F.plainAttrs_list PySem.F.slot_list_append PySem.F.type_list_append mt_append (pv 1) (pa_cons (pe_met FM bM gd hr mp N gO (by rfl) gM TB rfl (lamS_by (by kernel_rfl)) rfl (fun _ _ _ _ _ => rfl) (fun A outer s H E f c' hr' => pe_call GE (hr'.mono (by decide)) (by rfl) gE kE bE .nil (passes_call (takes_of rfl rfl rfl rfl) fun _ _ _ _ h => h) (pa_cons pe_int (pa_cons (pv 5) pa_nil)))) pa_nil)))
      (pss_cons (ps_expr (pe_bm PySem.F.plainAttrs_list PySem.F.slot_list_append PySem.F.type_list_append mt_append (pv 1) (pa_cons (pe_met FM bM gd hr mp N gO (by rfl) gM TB rfl (lamS_by (by kernel_rfl)) rfl (fun _ _ _ _ _ => rfl) (fun A outer s H E f c' hr' => pe_call GE (hr'.mono (by decide)) (by rfl) gE kE bE .nil (passes_call (takes_of rfl rfl rfl rfl) fun _ _ _ _ h => h) (pa_cons pe_int (pa_cons pe_int pa_nil)))) pa_nil)))
      (pss_cons (ps_expr (pe_bm PySem.F.plainAttrs_list PySem.F.slot_list_append PySem.F.type_list_append mt_append (pv 1) (pa_cons (pe_met FM bM gd hr mp N gO (by rfl) gM TB rfl (lamS_by (by kernel_rfl)) rfl (fun _ _ _ _ _ => rfl) (fun A outer s H E f c' hr' => pe_call GF (hr'.mono (by decide)) (by rfl) gF kF bF .nil (passes_call (takes_of rfl rfl rfl rfl) fun _ _ _ _ h => h) (pa_cons pe_int (pa_cons (pv 5) (pa_cons (pv 5) pa_nil))))) pa_nil)))
      (pss_cons (ps_expr (pe_bm PySem.F.plainAttrs_list PySem.F.slot_list_append PySem.F.type_list_append mt_append (pv 1) (pa_cons (pe_met FM bM gd hr mp N gO (by rfl) gM TB rfl (lamS_by (by kernel_rfl)) rfl (fun _ _ _ _ _ => rfl) (fun A outer s H E f c' hr' => pe_call GF (hr'.mono (by decide)) (by rfl) gF kF bF .nil (passes_call (takes_of rfl rfl rfl rfl) fun _ _ _ _ h => h) (pa_cons pe_int (pa_cons pe_int (pa_cons (pv 5) pa_nil))))) pa_nil)))
      (pss_cons (ps_expr (pe_bm PySem.F.plainAttrs_list PySem.F.slot_list_append PySem.F.type_list_append mt_append (pv 1) (pa_cons (pe_met FM bM gd hr mp N gO (by rfl) gM TB rfl (lamS_by (by kernel_rfl)) rfl (fun _ _ _ _ _ => rfl) (fun A outer s H E f c' hr' => pe_call GF (hr'.mono (by decide)) (by rfl) gF kF bF .nil (passes_call (takes_of rfl rfl rfl rfl) fun _ _ _ _ h => h) (pa_cons pe_int (pa_cons pe_int (pa_cons pe_int pa_nil))))) pa_nil)))
      (pss_cons (ps_expr (pe_bm PySem.F.plainAttrs_list PySem.F.slot_list_append PySem.F.type_list_append mt_append (pv 1) (pa_cons (pe_met FM bM gd hr mp N gO (by rfl) gM TB rfl (lamS_by (by kernel_rfl)) rfl (fun _ _ _ _ _ => rfl) (fun A outer s H E f c' hr' => pe_call GF (hr'.mono (by decide)) (by rfl) gF kF bF .nil (passes_call (takes_of rfl rfl rfl rfl) fun _ _ _ _ h => h) (pa_cons pe_int (pa_cons pe_int (pa_cons pe_int pa_nil))))) pa_nil)))
      (pss_cons (ps_set (i := 4) scErr.nd rfl (.inr rfl) (pe_call GK hr2 (by rfl) gK kK bK .nil pass0 (pa_cons (pv 0) (pa_cons (pe_lst (pa_cons pe_non (pa_cons pe_int (pa_cons (pe_lst (pa_cons pe_int (pa_cons pe_int pa_nil))) (pa_cons (pe_tup (pa_cons pe_int pa_nil)) (pa_cons (pe_tup (pa_cons pe_int (pa_cons (pe_op op_sub pe_int pe_int) pa_nil))) (pa_cons (pe_tup (pa_cons pe_bl pa_nil)) (pa_cons (pe_tup (pa_cons pe_str pa_nil)) (pa_cons (pe_op op_repW (pe_tup (pa_cons pe_int pa_nil)) pe_int) (pa_cons pe_dnewK (pa_cons pe_str pa_nil))))))))))) pa_nil))))
      (pss_cons (ps_expr (pe_bm PySem.F.plainAttrs_list PySem.F.slot_list_append PySem.F.type_list_append mt_append (pv 1) (pa_cons (pe_met FM bM gd hr mp N gO (by rfl) gM TB rfl (lamS_by (by kernel_rfl)) rfl (fun _ _ _ _ _ => rfl) (fun A outer s H E f c' hr' => pe_call GN (hr'.mono (by decide)) (by rfl) gN kN bN .nil (passes_call (takes_of rfl rfl rfl rfl) fun _ _ _ _ h => h) (pa_cons pe_int (pa_cons (pv 4) pa_nil)))) pa_nil)))
      (pss_cons (ps_set (i := 2) scErr.nd rfl (.inl rfl) (pe_op op_add_str pe_str (pe_callB (call_reprR gd un) (by rfl) mp (by decide +kernel) (pa_cons (pv 5) pa_nil))))
      (pss_cons (ps_set (i := 3) scErr.nd rfl (.inl rfl) (pe_lst (pa_cons (pv 2) (pa_cons pe_str (pa_cons (pv 2) (pa_cons pe_str (pa_cons (pv 2) (pa_cons pe_str (pa_cons (pv 2) (pa_cons (pv 2) (pa_cons pe_str (pa_cons pe_str (pa_cons pe_str pa_nil)))))))))))))
      (pss_one (ps_ret (pe_cmpR (op_eqD un) (pv 1) (pv 3) (nomark _))))))))))))))))))), ?_⟩
    obtain ⟨dl0, hl0⟩ := K02.Dice.lst dl
    refine ⟨_, rfl, (by show 1 ≤ sizeLine; decide), fun pt nt => ⟨(by show 0 ≤ sizeLine; decide), fun pe ne => ⟨_, _, rfl, rfl, rfl, fun pd nd => ⟨(by show 8 ≤ sizeLine; decide), fun pi ni => ?_⟩⟩⟩⟩
    have d1 := dl.new (o := .tup [.int 1]) nt
    have d2 := d1.new (o := .lst []) ne
    have d3 := d2.new (o := .dK []) nd
    refine ⟨l, pi, _, rfl, d3.new ni, (d3.ne ni).symm, .inl (.of upd_same), (by show 0 < 8; decide), (by show 8 ≤ 1000; decide), fun H1 i v bt dl1 hv => ?_⟩
    have b4 : But l H H1 := (((((But.refl (l := l)).new nt).new ne).new nd).new ni).trans bt
    obtain ⟨d, od⟩ : ∃ d, OddA H1 v d := by
      have m := List.mem_of_getElem? hv
      simp only [List.mem_cons, List.mem_nil_iff, or_false] at m
      rcases m with rfl | rfl | rfl | rfl | rfl | rfl | rfl | rfl
      · exact ⟨_, .non⟩
      · exact ⟨_, .bl⟩
      · exact ⟨_, .str⟩
      · exact ⟨_, .tup (bt _ _ (dl.ne nt).symm (sameUpd ni _ _ (sameUpd nd _ _ (sameUpd ne _ _ upd_same))))⟩
      · exact ⟨_, .lst (bt _ _ (d1.ne ne).symm (sameUpd ni _ _ (sameUpd nd _ _ upd_same)))⟩
      · exact ⟨_, .neg⟩
      · exact ⟨_, .lim⟩
      · exact ⟨_, .dct (bt _ _ (d2.ne nd).symm (sameUpd ni _ _ upd_same))⟩
    have tb1 : Tabs (lamT HK) H1 := Tabs.but tb hl0 b4
    refine met_num (v := v) (d := d) tb1 N.te (fun H2 e => (od.extN e).rp) (fun H2 e E Q' R => ⟨_, rfl, _, rfl, _, _, rfl, .inr (.inl ⟨(od.extN e).bad, R⟩)⟩)
      (fun H2 e2 t2 => ⟨(by show 1 ≤ sizeLine; decide), fun p np => ?_⟩)
    have od2 := od.extN e2
    have dl2 := Dice.ext dl1 e2
    have S0 : St l p HK ((("_law_errors_right" : Str) ++ ".<locals>.") ++ "<lambda>") H v d none [.str (nW d)] (upd H2 p (.lst [.str (nW d)])) := by
      have lp := dl2.ne np
      refine ⟨dl2.new np, lp, fun o nt e => ?_, fun b o nl nt e => ?_, upd_same, od2.ext (od2.ne np) .at, od2.ne np, fun b z => (by cases z), ?_⟩
      · have := e2 _ _ (b4 _ _ lp.symm e) nt
        rw [np] at this
        cases this
      · have h2 := e2 _ _ (b4 _ _ nl e) nt
        exact sameUpd np _ _ h2
      · exact t2.ext (sameUpd np)
    refine ⟨.ref p, rfl, .inl ⟨rfl, _, .inl (.inl S0.hp)⟩, met_num (v := .int 0) (d := .int 0) S0.tb N.te (fun H2 e => rpI (by decide +kernel)) (fun H2 e E Q' R => ⟨_, rfl, _, _, rfl, .inr (.inl ⟨bad0, R⟩)⟩) (fun H2 e2 t2 => ?_)⟩
    have S1 := S0.step e2 t2 (.str (nW (.int 0)))
    refine ⟨p, _, _, rfl, rfl, e2 _ _ S0.hp (fun ps z => by cases z), small1000 (show 1 ≤ 1000 by decide), ?_⟩
    clear e2 t2
    refine ⟨.ref p, rfl, .inl ⟨rfl, _, .inl (.inl S1.hp)⟩, met_num (v := v) (d := d) S1.tb N.te (fun H2 e => (S1.od.extN e).rp) (fun H2 e E Q' R => ⟨_, rfl, _, _, rfl, .inr (.inr ⟨2, ⟨rfl, good23.1, by decide⟩, (S1.od.extN e).out, R⟩)⟩) (fun H2 e2 t2 => ?_)⟩
    have S2 := S1.step e2 t2 (.str (nW (d)))
    refine ⟨p, _, _, rfl, rfl, e2 _ _ S1.hp (fun ps z => by cases z), small1000 (show 2 ≤ 1000 by decide), ?_⟩
    clear e2 t2
    refine ⟨.ref p, rfl, .inl ⟨rfl, _, .inl (.inl S2.hp)⟩, met_num (v := .int 1001) (d := .int 1001) S2.tb N.te (fun H2 e => rpI (by decide +kernel)) (fun H2 e E Q' R => ⟨_, _, rfl, .inr (.inr ⟨2, ⟨rfl, good23.1, by decide⟩, out1001, R⟩)⟩) (fun H2 e2 t2 => ?_)⟩
    have S3 := S2.step e2 t2 (.str (nW (.int 1001)))
    refine ⟨p, _, _, rfl, rfl, e2 _ _ S2.hp (fun ps z => by cases z), small1000 (show 3 ≤ 1000 by decide), ?_⟩
    clear e2 t2
    refine ⟨.ref p, rfl, .inl ⟨rfl, _, .inl (.inl S3.hp)⟩, met_num (v := v) (d := d) S3.tb N.te (fun H2 e => (S3.od.extN e).rp) (fun H2 e E Q' R => ⟨_, rfl, _, _, rfl, .inr (.inr ⟨3, ⟨rfl, good23.2, by decide⟩, (S3.od.extN e).bad, R⟩)⟩) (fun H2 e2 t2 => ?_)⟩
    have S4 := S3.step e2 t2 (.str (nW (d)))
    refine ⟨p, _, _, rfl, rfl, e2 _ _ S3.hp (fun ps z => by cases z), small1000 (show 4 ≤ 1000 by decide), ?_⟩
    clear e2 t2
    refine ⟨.ref p, rfl, .inl ⟨rfl, _, .inl (.inl S4.hp)⟩, met_num (v := .int 0) (d := .int 0) S4.tb N.te (fun H2 e => rpI (by decide +kernel)) (fun H2 e E Q' R => ⟨_, _, rfl, .inr (.inr ⟨3, ⟨rfl, good23.2, by decide⟩, bad0, R⟩)⟩) (fun H2 e2 t2 => ?_)⟩
    have S5 := S4.step e2 t2 (.str (nW (.int 0)))
    refine ⟨p, _, _, rfl, rfl, e2 _ _ S4.hp (fun ps z => by cases z), small1000 (show 5 ≤ 1000 by decide), ?_⟩
    clear e2 t2
    refine ⟨.ref p, rfl, .inl ⟨rfl, _, .inl (.inl S5.hp)⟩, met_num (v := v) (d := d) S5.tb N.te (fun H2 e => (S5.od.extN e).rp) (fun H2 e E Q' R => ⟨_, rfl, _, rfl, _, _, _, rfl, .inr (.inl ⟨2, ⟨rfl, good23.1, by decide⟩, (S5.od.extN e).out, R⟩)⟩) (fun H2 e2 t2 => ?_)⟩
    have S6 := S5.step e2 t2 (.str (nW (d)))
    refine ⟨p, _, _, rfl, rfl, e2 _ _ S5.hp (fun ps z => by cases z), small1000 (show 6 ≤ 1000 by decide), ?_⟩
    clear e2 t2
    refine ⟨.ref p, rfl, .inl ⟨rfl, _, .inl (.inl S6.hp)⟩, met_num (v := v) (d := d) S6.tb N.te (fun H2 e => (S6.od.extN e).rp) (fun H2 e E Q' R => ⟨_, rfl, _, _, _, rfl, .inr (.inr ⟨2, 3, ⟨rfl, good23.1, by decide⟩, rfl, by decide, by decide, (S6.od.extN e).cnt, R⟩)⟩) (fun H2 e2 t2 => ?_)⟩
    have S7 := S6.step e2 t2 (.str (nW (d)))
    refine ⟨p, _, _, rfl, rfl, e2 _ _ S6.hp (fun ps z => by cases z), small1000 (show 7 ≤ 1000 by decide), ?_⟩
    clear e2 t2
    refine ⟨.ref p, rfl, .inl ⟨rfl, _, .inl (.inl S7.hp)⟩, met_num (v := .int 8) (d := .int 8) S7.tb N.te (fun H2 e => rpI (by decide +kernel)) (fun H2 e E Q' R => ⟨_, _, _, rfl, .inl ⟨2, 3, 8, ⟨rfl, good23.1, by decide⟩, rfl, by decide, by decide, rfl, by decide +kernel, by decide, .inr ⟨by decide, R⟩⟩⟩) (fun H2 e2 t2 => ?_)⟩
    have S8 := S7.step e2 t2 (.str (nW (.int 8)))
    refine ⟨p, _, _, rfl, rfl, e2 _ _ S7.hp (fun ps z => by cases z), small1000 (show 8 ≤ 1000 by decide), ?_⟩
    clear e2 t2
    refine ⟨.ref p, rfl, .inl ⟨rfl, _, .inl (.inl S8.hp)⟩, met_num (v := .int 1001) (d := .int 1001) S8.tb N.te (fun H2 e => rpI (by decide +kernel)) (fun H2 e E Q' R => ⟨_, _, _, rfl, .inr (.inl ⟨2, ⟨rfl, good23.1, by decide⟩, out1001, R⟩)⟩) (fun H2 e2 t2 => ?_)⟩
    have S9 := S8.step e2 t2 (.str (nW (.int 1001)))
    refine ⟨p, _, _, rfl, rfl, e2 _ _ S8.hp (fun ps z => by cases z), small1000 (show 9 ≤ 1000 by decide), ?_⟩
    clear e2 t2
    refine ⟨_, rfl, (by show 2 ≤ sizeLine; decide), fun q1 n1 => ⟨(by show 1 ≤ sizeLine; decide), fun q2 n2 => ⟨_, _, rfl, rfl, (by show 2 ≤ sizeLine; decide), fun q3 n3 => ⟨(by show 1 ≤ sizeLine; decide), fun q4 n4 => ⟨(by show 1 ≤ sizeLine; decide), fun q5 n5 =>
      ⟨(by show 1 ≤ sizeLine; decide), fun q6 n6 => ⟨q6, 1001, [.int 0], rfl, rfl, .of upd_same, (fun z => by cases z), by decide, by decide, by decide, fun q7 n7 => fun q8 n8 => ⟨(by show 10 ≤ sizeLine; decide), fun q9 n9 => ?_⟩⟩⟩⟩⟩⟩⟩⟩
    have e0 := S9.dl
    have e1 := e0.new (o := .lst [.int 0, .int 1]) n1
    have e2 := e1.new (o := .tup [.int 2]) n2
    have e3 := e2.new (o := .tup [.int 0, .int (0 - 1)]) n3
    have e4 := e3.new (o := .tup [.bl true]) n4
    have e5 := e4.new (o := .tup [.str "0"]) n5
    have e6 := e5.new (o := .tup [.int 0]) n6
    have e7 := e6.new (o := .tup (List.replicate (1001 : Int).toNat [V.int 0]).flatten) n7
    have e8 := e7.new (o := .dK []) n8
    refine ⟨l, q9, _, rfl, e8.new n9, (e8.ne n9).symm, .inl (.of upd_same), (by show 0 < 10; decide), (by show 10 ≤ 1000; decide), fun H1 i b bt dlb hb => ?_⟩
    obtain ⟨bad, nbp⟩ : BadA H1 b ∧ b ≠ .ref p := by
      have m := List.mem_of_getElem? hb
      simp only [List.mem_cons, List.mem_nil_iff, or_false] at m
      have hp := S9.hp
      have p1 : q1 ≠ p := fun z => by rw [z, hp] at n1; cases n1
      have hp1 := sameUpd (o := .lst [.int 0, .int 1]) n1 _ _ hp
      have p2 : q2 ≠ p := fun z => by rw [z, hp1] at n2; cases n2
      have hp2 := sameUpd (o := .tup [.int 2]) n2 _ _ hp1
      have p3 : q3 ≠ p := fun z => by rw [z, hp2] at n3; cases n3
      have hp3 := sameUpd (o := .tup [.int 0, .int (0 - 1)]) n3 _ _ hp2
      have p4 : q4 ≠ p := fun z => by rw [z, hp3] at n4; cases n4
      have hp4 := sameUpd (o := .tup [.bl true]) n4 _ _ hp3
      have p5 : q5 ≠ p := fun z => by rw [z, hp4] at n5; cases n5
      have hp5 := sameUpd (o := .tup [.str "0"]) n5 _ _ hp4
      have hp6 := sameUpd (o := .tup [.int 0]) n6 _ _ hp5
      have p7 : q7 ≠ p := fun z => by rw [z, hp6] at n7; cases n7
      have hp7 := sameUpd (o := .tup (List.replicate (1001 : Int).toNat [V.int 0]).flatten) n7 _ _ hp6
      have p8 : q8 ≠ p := fun z => by rw [z, hp7] at n8; cases n8
      have nr : ∀ {q : Addr}, q ≠ p → V.ref q ≠ V.ref p := fun h z => h (by cases z; rfl)
      rcases m with rfl | rfl | rfl | rfl | rfl | rfl | rfl | rfl | rfl | rfl
      · exact ⟨.non, fun z => by cases z⟩
      · exact ⟨.int, fun z => by cases z⟩
      · exact ⟨.lst (bt _ _ (e0.ne n1).symm (sameUpd n9 _ _ (sameUpd n8 _ _ (sameUpd n7 _ _ (sameUpd n6 _ _ (sameUpd n5 _ _ (sameUpd n4 _ _ (sameUpd n3 _ _ (sameUpd n2 _ _ upd_same))))))))), nr p1⟩
      · exact ⟨.tup (bt _ _ (e1.ne n2).symm (sameUpd n9 _ _ (sameUpd n8 _ _ (sameUpd n7 _ _ (sameUpd n6 _ _ (sameUpd n5 _ _ (sameUpd n4 _ _ (sameUpd n3 _ _ upd_same)))))))) (by simp [badTups]), nr p2⟩
      · exact ⟨.tup (bt _ _ (e2.ne n3).symm (sameUpd n9 _ _ (sameUpd n8 _ _ (sameUpd n7 _ _ (sameUpd n6 _ _ (sameUpd n5 _ _ (sameUpd n4 _ _ upd_same))))))) (by simp [badTups]), nr p3⟩
      · exact ⟨.tup (bt _ _ (e3.ne n4).symm (sameUpd n9 _ _ (sameUpd n8 _ _ (sameUpd n7 _ _ (sameUpd n6 _ _ (sameUpd n5 _ _ upd_same)))))) (by simp [badTups]), nr p4⟩
      · exact ⟨.tup (bt _ _ (e4.ne n5).symm (sameUpd n9 _ _ (sameUpd n8 _ _ (sameUpd n7 _ _ (sameUpd n6 _ _ upd_same))))) (by simp [badTups]), nr p5⟩
      · exact ⟨.tup (xs := List.replicate 1001 (.int 0)) (bt _ _ (e6.ne n7).symm (sameUpd n9 _ _ (sameUpd n8 _ _ (by rw [upd_same, rep1001])))) (by simp [badTups]), nr p7⟩
      · exact ⟨.dct (bt _ _ (e7.ne n8).symm (sameUpd n9 _ _ upd_same)), nr p8⟩
      · exact ⟨.str, fun z => by cases z⟩
    have Sb := S9.pick (((((((((((But.refl (l := l)).new n1).new n2).new n3).new n4).new n5).new n6).new n7).new n8).new n9).trans bt) dlb bad nbp
    refine ⟨.ref p, rfl, .inl ⟨rfl, _, .inl (.inl Sb.hp)⟩, met_op Sb.tb exON exOO (fun H2 e E Q' R => ⟨_, rfl, 2, _, rfl, good23.1, by decide, by decide, .inr ⟨(bad.extN e).no, R⟩⟩) (fun H2 x2 t2 => ?_)⟩
    have SZ := Sb.step x2 t2 (.str "operation")
    refine ⟨p, _, _, rfl, rfl, x2 _ _ Sb.hp (fun ps z => by cases z), small1000 (show 10 ≤ 1000 by decide), ?_⟩
    obtain ⟨rp, sz⟩ := SZ.od.rp (K := K)
    refine ⟨_, rfl, v, d, rfl, rp, _, _, rfl, rfl, ?_, ?_⟩
    · have : ((("number " : String) : Str)).length = 7 := by decide
      omega
    refine ⟨_, rfl, _, rfl, _, rfl, _, rfl, _, rfl, (by show 11 ≤ sizeLine; decide), fun pq nq => ?_⟩
    obtain ⟨s1, s2, s3⟩ := SZ.od.eqv
    refine ⟨_, rfl, _, rfl, toldD d, dueD d, ?_, ?_, s1, s2, ?_⟩
    · exact .lst (.of (sameUpd nq _ _ SZ.hp)) (.cons (.str _) (.cons (.str _) (.cons (.str _) (.cons (.str _) (.cons (.str _) (.cons (.str _) (.cons (.str _) (.cons (.str _) (.cons (.str _) (.cons (.str _) (.cons (.str _) .nil)))))))))))
    · exact .lst (.of upd_same) (.cons (.str _) (.cons (.str _) (.cons (.str _) (.cons (.str _) (.cons (.str _) (.cons (.str _) (.cons (.str _) (.cons (.str _) (.cons (.str _) (.cons (.str _) (.cons (.str _) .nil)))))))))))
    · rw [s3]
      exact q _ (SZ.bs.trans (ExtP.of (sameUpd nq))) (SZ.dl.new nq) (SZ.tb.ext (sameUpd nq))
end
end K02

set_option maxHeartbeats 4000000
namespace GG
open PySem PySem.Spec PyProof.Rows L2
/-- a comprehension over enumerate of a tuple -/
theorem lc_enumT {K : PySem.W.Frag} {a : Addr} {xs : List V} {g : TG} {tt : TT} {te : TE} {vs : List Nat} {σ : L2.St} {H1 : Hp} {D : Addr} {Qd : Hp → Prop} (Pv : Nat → Hp → Prop) (h0 : Pv 0 (upd H1 D (.lst [])))
    (hl : ∀ i H, i ≤ xs.length → Pv i H → SqT K H a xs)
    (hs : ∀ i x H T, xs[i]? = some x → H T = none → Pv i H → g (.ref T) (wipe σ vs) (upd H T (.tup [.int (i : Nat), x])) fun σ2 H2 => wipe σ2 vs = wipe σ vs ∧ tt σ2 H2 fun b H3 =>
      if b = true then te σ2 H3 fun y H4 => ∃ acc, H4 D = some (.lst acc) ∧ acc.length < sizeLine ∧ Pv (i + 1) (upd H4 D (.lst (acc ++ [y]))) else Pv (i + 1) H3) (hd : ∀ H, Pv xs.length H → Qd H) :
    ∃ W : Nat → Nat → Hp → Prop, (∃ m, W 0 m (upd H1 D (.lst []))) ∧ ∀ i m H, W i m H →
      ((Itet K a).stop i H ∧ Qd H) ∨ ((Itet K a).go i H ∧ ∃ Nx : Hp → Prop, (∀ H', Nx H' → ∃ m', m' < m ∧ W (i + 1) m' H') ∧ ∀ x H', (Itet K a).yld i H x H' → g x (wipe σ vs) H' fun σ2 H2 => wipe σ2 vs = wipe σ vs ∧ tt σ2 H2 fun b H3 =>
        if b = true then te σ2 H3 fun y H4 => ∃ acc, H4 D = some (.lst acc) ∧ acc.length < sizeLine ∧ Nx (upd H4 D (.lst (acc ++ [y]))) else Nx H3) := by
  refine ⟨fun i m H => m + i = xs.length ∧ Pv i H, ⟨xs.length, rfl, h0⟩, fun i m H w => ?_⟩
  obtain ⟨e, pv⟩ := w
  have sq := hl i H (by omega) pv
  cases m with
  | zero =>
    have z : i = xs.length := by omega
    subst z
    exact .inl ⟨⟨xs, sq, Nat.le_refl _⟩, hd H pv⟩
  | succ m =>
    have lt : i < xs.length := by omega
    refine .inr ⟨⟨xs, xs[i], sq, List.getElem?_eq_getElem lt⟩, Pv (i + 1), fun H' p => ⟨m, Nat.lt_succ_self m, by omega, p⟩, fun x H' y => ?_⟩
    obtain ⟨T, v, rfl, nT, rfl, hv⟩ := y
    exact hs i v H T (hv xs sq) nT pv
/-! ### how long a shown int is -/
theorem int_rp {K : PySem.W.Frag} {H : Hp} {i : Int} (h : i.natAbs < 10 ^ 300) : Rp K H (.int i) (.int i) := by
  have l1 : (PyData.shown (.int i)).length ≤ 301 := by
    show (Str.ofString (toString i)).length ≤ 301
    rw [PySem.ofString_length]
    exact int_text_length_le10 (k := 300) (by decide) h
  refine .inl ⟨.int i, ?_, rfl, Nat.zero_le _, ?_⟩
  · exact decide_eq_true (PySem.Flt.log2_lt_of (by decide) (Nat.lt_trans h (by decide +kernel)))
  · exact Nat.le_trans l1 (by rw [sizeLine_eq]; decide)
theorem ints_dp {K : PySem.W.Frag} {H : Hp} : ∀ fs : List Int, DpAll K H (fs.map V.int) (fs.map PyData.int)
  | [] => .nil
  | _ :: r => .cons (.int _) (ints_dp r)
theorem ints_shown : ∀ fs : List Int, (∀ f ∈ fs, f.natAbs < 10 ^ 12) → ((PyData.shownAll (fs.map PyData.int)).map (·.length)).sum ≤ 13 * fs.length
  | [], _ => Nat.zero_le _
  | f :: r, h => by
    have a := PyData.shown_int_le (h f List.mem_cons_self)
    have b := ints_shown r fun g hg => h g (List.mem_cons_of_mem _ hg)
    simp only [List.map_cons, PyData.shownAll, List.sum_cons, List.length_cons]
    omega
theorem ints_showable : ∀ fs : List Int, (∀ f ∈ fs, f.natAbs < 10 ^ 12) → PyData.showableAll (fs.map PyData.int) = true ∧ PyData.hasDictAll (fs.map PyData.int) = false ∧ PyData.depthAll (fs.map PyData.int) = 0 ∧ PyData.canLayAll0 (fs.map PyData.int) = true
  | [], _ => ⟨rfl, rfl, rfl, rfl⟩
  | f :: r, h => by
    obtain ⟨a, b, c, d⟩ := ints_showable r fun g hg => h g (List.mem_cons_of_mem _ hg)
    have e : (PyData.int f).showable = true := decide_eq_true (PySem.Flt.log2_lt_of (by decide) (Nat.lt_trans (h f List.mem_cons_self) (by decide +kernel)))
    refine ⟨?_, ?_, ?_, ?_⟩
    · rw [List.map_cons, PyData.showableAll, e, a]
      rfl
    · rw [List.map_cons, PyData.hasDictAll, b]
      rfl
    · rw [List.map_cons, PyData.depthAll, c]
      rfl
    · rw [List.map_cons, PyData.canLayAll0, d]
      rfl
theorem tup_rp {K : PySem.W.Frag} {H : Hp} {a : Addr} {fs : List Int} (ha : H a = some (.tup (fs.map V.int))) (hl : fs.length ≤ 1000) (h : ∀ f ∈ fs, f.natAbs < 10 ^ 12) :
    Rp K H (.ref a) (.tuple (fs.map PyData.int)) := by
  obtain ⟨s1, s2, s3, _⟩ := ints_showable fs h
  refine .inl ⟨.tup (.of ha) (ints_dp fs), ?_, ?_, ?_, ?_⟩
  · rw [PyData.showable]
    exact s1
  · rw [PyData.hasDict]
    exact s2
  · rw [PyData.depth, s3]
    decide
  · have e := tupleText_len_le (PyData.shownAll (fs.map PyData.int))
    have e2 := ints_shown fs h
    rw [PyData.shownAll_length, List.length_map] at e
    rw [PyData.shown, sizeLine_eq]
    omega
theorem tup_eqv {fs : List Int} (h : ∀ f ∈ fs, f.natAbs < 10 ^ 12) : SeqAt.shaped (.tuple (fs.map PyData.int)) = true ∧ PyData.eqv (.tuple (fs.map PyData.int)) (.tuple (fs.map PyData.int)) = true := by
  obtain ⟨_, _, s3, s4⟩ := ints_showable fs h
  have c : (PyData.tuple (fs.map PyData.int)).canLay0 = true := by
    rw [PyData.canLay0]
    exact s4
  refine ⟨?_, SeqAt.eqv_refl _ c⟩
  unfold SeqAt.shaped
  rw [c, PyData.depth, s3]
  rfl
end GG
namespace K02
open PySem PySem.Spec PyProof.Rows L2 GG
theorem pow_le {a b : Int} (h0 : 0 ≤ a) (h : a ≤ b) : ∀ n : Nat, 0 ≤ a ^ n ∧ a ^ n ≤ b ^ n
  | 0 => by
    rw [Int.pow_zero, Int.pow_zero]
    decide
  | n + 1 => by
    obtain ⟨h1, h2⟩ := pow_le h0 h n
    rw [Int.pow_succ, Int.pow_succ]
    exact ⟨Int.mul_nonneg h1 h0, Int.mul_le_mul h2 h h0 (by omega)⟩
theorem pow_lt1 {i : Int} (h : 2 ≤ i) {a b : Nat} (hab : a < b) : i ^ a < i ^ b := by
  have h1 := pow_pos' (show 1 ≤ i by omega) a
  have h2 := pow_mono (show 1 ≤ i by omega) (show a + 1 ≤ b by omega)
  rw [Int.pow_succ] at h2
  have h3 := Int.mul_le_mul_of_nonneg_left h (show 0 ≤ i ^ a by omega)
  omega
theorem pow_inj {i : Int} (h : 2 ≤ i) {a b : Nat} (e : i ^ a = i ^ b) : a = b := by
  rcases Nat.lt_trichotomy a b with z | z | z
  · have := pow_lt1 h z
    omega
  · exact z
  · have := pow_lt1 h z
    omega
theorem one_pow' (n : Nat) : (1 : Int) ^ n = 1 := by
  induction n with
  | zero => rfl
  | succ n ih => rw [Int.pow_succ, ih]; rfl
theorem expOf_pow {i : Int} {k : Nat} {v : V} (h : 1 ≤ i) (hk : k ≤ 1000) (e : ExpOf i (i ^ k) v) : v = .int (if 1 < i then (k : Int) else 0) := by
  rcases e with ⟨m, hm, rfl, e, least⟩ | ⟨rfl, none_⟩
  · by_cases g : 1 < i
    · rw [if_pos g, pow_inj (show 2 ≤ i by omega) e]
    · have i1 : i = 1 := by omega
      subst i1
      rw [if_neg g]
      cases m with
      | zero => rfl
      | succ m =>
        refine absurd ?_ (least 0 (Nat.succ_pos m))
        rw [one_pow', one_pow']
  · exact absurd rfl (none_ k hk)
theorem expOf_none {i : Int} {k : Nat} {v : V} (h : 1 ≤ i) (e : ExpOf i (i ^ k * i + 1) v) : v = .non := by
  rcases e with ⟨m, hm, rfl, e, _⟩ | ⟨rfl, _⟩
  · exfalso
    rw [show i ^ k * i = i ^ (k + 1) from (Int.pow_succ i k).symm] at e
    by_cases g : 2 ≤ i
    · by_cases z : m ≤ k + 1
      · have := pow_mono h z
        omega
      · have h1 := pow_mono h (show k + 1 + 1 ≤ m by omega)
        have h2 := pow_mono h (show 1 ≤ k + 1 by omega)
        rw [Int.pow_succ i (k + 1)] at h1
        rw [show i ^ 1 = i by rw [Int.pow_succ, Int.pow_zero, Int.one_mul]] at h2
        have h3 := Int.mul_le_mul_of_nonneg_left g (show 0 ≤ i ^ (k + 1) by omega)
        omega
    · have i1 : i = 1 := by omega
      subst i1
      rw [one_pow', one_pow'] at e
      omega
  · rfl
/-- how far the walk goes -/
def most (i : Int) : Int := if i > 1000 then 12 else 60
theorem walk_ok {i : Int} {k : Nat} (h : 1 ≤ i) (h2 : i ≤ 10 ^ 13) (hk : (k : Int) < most i) : intOk (i ^ k) = true ∧ intOk (i ^ k * i + 1) = true := by
  have up : i ^ (k + 1) ≤ 10 ^ 180 := by
    unfold most at hk
    split at hk
    · have a := (pow_le (show 0 ≤ i by omega) h2 (k + 1)).2
      have b := pow_mono (show (1 : Int) ≤ 10 ^ 13 by decide) (show k + 1 ≤ 12 by omega)
      have c : ((10 : Int) ^ 13) ^ 12 ≤ 10 ^ 180 := by decide +kernel
      omega
    · have a := (pow_le (show 0 ≤ i by omega) (show i ≤ 1000 by omega) (k + 1)).2
      have b := pow_mono (show (1 : Int) ≤ 1000 by decide) (show k + 1 ≤ 60 by omega)
      have c : ((1000 : Int)) ^ 60 ≤ 10 ^ 180 := by decide +kernel
      omega
  have lo := pow_pos' h k
  have lo2 := pow_pos' h (k + 1)
  have st := pow_mono h (show k ≤ k + 1 by omega)
  rw [Int.pow_succ] at up lo2 st
  have c : (10 : Int) ^ 180 + 1 < BND := by decide +kernel
  exact ⟨intOk_iff.mpr ⟨by omega, by omega⟩, intOk_iff.mpr ⟨by omega, by omega⟩⟩
/-! ### figures and their values -/
theorem figs_succ (i : Int) (hi : 1 ≤ i) (L : Nat) (n : Int) : figs i (L + 1) n = figs i L (n / i) ++ [n % i] := by
  unfold figs
  rw [List.range_succ_eq_map, List.map_cons, List.reverse_cons, List.map_map, Int.pow_zero, Int.ediv_one]
  congr 2
  apply List.map_congr_left
  intro j _
  show n / i ^ (j + 1) % i = n / i / i ^ j % i
  rw [Int.pow_succ, Int.mul_comm, Int.ediv_ediv_of_nonneg (by omega)]
theorem figs_val' {i : Int} (hi : 1 ≤ i) : ∀ rs : List Int, (∀ f ∈ rs, 0 ≤ f ∧ f < i) → figs i rs.length (val i rs.reverse) = rs.reverse
  | [], _ => rfl
  | f :: r, h => by
    obtain ⟨f0, f1⟩ := h f List.mem_cons_self
    have ih := figs_val' hi r fun g hg => h g (List.mem_cons_of_mem _ hg)
    rw [List.reverse_cons, val_snoc, List.length_cons, figs_succ i hi]
    have d : (val i r.reverse * i + f) / i = val i r.reverse := by
      rw [Int.add_comm, Int.add_mul_ediv_right _ _ (by omega), Int.ediv_eq_zero_of_lt f0 f1, Int.zero_add]
    have m : (val i r.reverse * i + f) % i = f := by
      rw [Int.add_comm, Int.add_mul_emod_self_right, Int.emod_eq_of_lt f0 f1]
    rw [d, m, ih]
theorem figs_val {i : Int} (hi : 1 ≤ i) {fs : List Int} (h : ∀ f ∈ fs, 0 ≤ f ∧ f < i) : figs i fs.length (val i fs) = fs := by
  have := figs_val' hi fs.reverse fun f hf => h f (List.mem_reverse.mp hf)
  rw [List.reverse_reverse, List.length_reverse] at this
  exact this
theorem val_pad (i : Int) (fs : List Int) : val i (0 :: 0 :: 0 :: fs) = val i fs := by
  show fs.foldl _ (((0 * i + 0) * i + 0) * i + 0) = fs.foldl _ 0
  congr 1
  simp
/-- what each figure adds -/
def terms (i : Int) : List Int → List Int
  | [] => []
  | f :: r => f * i ^ r.length :: terms i r
theorem terms_len (i : Int) : ∀ fs : List Int, (terms i fs).length = fs.length
  | [] => rfl
  | _ :: r => by
    rw [terms, List.length_cons, List.length_cons, terms_len i r]
theorem terms_get (i : Int) : ∀ (fs : List Int) (k : Nat) (f : Int), fs[k]? = some f → (terms i fs)[k]? = some (f * i ^ (fs.length - 1 - k))
  | [], k, f, h => by simp at h
  | g :: r, 0, f, h => by
    cases h
    rfl
  | g :: r, k + 1, f, h => by
    have := terms_get i r k f h
    rw [terms, List.getElem?_cons_succ, this, List.length_cons]
    congr 3
    omega
theorem fold_terms (i : Int) : ∀ (fs : List Int) (a : Int), fs.foldl (fun a f => a * i + f) a = a * i ^ fs.length + (terms i fs).sum
  | [], a => by
    rw [List.foldl_nil, terms, List.sum_nil, List.length_nil, Int.pow_zero, Int.mul_one, Int.add_zero]
  | f :: r, a => by
    rw [List.foldl_cons, fold_terms i r, terms, List.sum_cons, List.length_cons, Int.add_mul, Int.pow_succ, Int.mul_assoc, Int.mul_comm i, Int.add_assoc]
theorem terms_sum (i : Int) (fs : List Int) : (terms i fs).sum = val i fs := by
  unfold val
  rw [fold_terms, Int.zero_mul, Int.zero_add]
end K02

set_option maxHeartbeats 16000000
namespace K02
open PySem PySem.Spec PyProof.Rows L2 GG LamX
abbrev sRight : Stmt := topS 25
theorem scRight : FnScope ["dice", "base", "found", "most", "at", "figures", "number", "total", "longer", "turn", "figure"] ["dice", "base"] (defScope sRight) := ⟨rfl, rfl, rfl, by decide +kernel, rfl, by decide +kernel, by decide +kernel⟩
def spRight : Sp := fun vs H Q _ => ∃ (l : Addr) (i : Int), vs = [.ref l, .int i] ∧ Dice H l ∧ 1 ≤ i ∧ i ≤ 10 ^ 13 ∧ ∀ H', But l H H' → Dice H' l → Q (.bl true) H'
theorem passN {X : Cx} : Passes (L2.CX X.prog X.w) X C8.E0 := passes_call L2.takes0 fun _ _ _ _ h => h
theorem call_lenK {X : Cx} {K : PySem.W.Frag} (h : X.K = K) : CallR X (.builtin "len") (fun xs H Q => ∃ p ys, xs = [V.ref p] ∧ (SqL K H p ys ∨ SqT K H p ys) ∧ Q (V.int ↑ys.length) H) := by
  subst h
  exact call_len_seq
theorem iteV {c : Bool} {x y z : V} {σ : L2.St} {H : Hp} {Q : VK} (e : (if c = true then x else y) = z) (h : Q z H) : if c = true then tC x σ H Q else tC y σ H Q := by
  subst e
  cases c
  · exact h
  · exact h
theorem iteVar {c : Bool} {n : Nat} {x y z : V} {σ : L2.St} {H : Hp} {Q : VK} (hs : σ[n]? = some (some x)) (e : (if c = true then x else y) = z) (h : Q z H) : if c = true then tVar n σ H Q else tC y σ H Q := by
  subst e
  cases c
  · exact h
  · exact ⟨_, hs, h⟩
theorem neI {a b : Int} (h : a = b) : (!decide (V.int a = V.int b)) = false := by
  subst h
  rw [decide_eq_true rfl]
  rfl
theorem neS {a b : Str} (h : a = b) : (!decide (V.str a = V.str b)) = false := by
  subst h
  rw [decide_eq_true rfl]
  rfl
section
variable {P : Program} {w : World} {K : PySem.W.Frag} {mg : Str → Option Value} {base : Heap}
theorem ok_right {f fR fW fP fE fF fN CN CO : Addr} {fd fdR fdW fdP fdE fdF fdN : FuncData}
    (F : Fun K "_law_right" "_law_right" sRight f fd)
    (bR : Binds K fdR ["dice", "total"] []) (bW : Binds K fdW ["base", "number"] [])
    (bP : Binds K fdP ["base", "exponent"] []) (bE : Binds K fdE ["base", "number"] []) (bF : Binds K fdF ["base", "length", "number"] []) (bN : Binds K fdN ["base", "figures"] [])
    (GR : FnOk P w K mg base CX0 1 fR fdR ["dice", "total"] spRoll) (GW : FnOk P w K mg base CX0 1 fW fdW ["base", "number"] spPow)
    (GP : FnOk P w K mg base (L2.CX P w) 3 fP fdP ["base", "exponent"] (spPower K CN)) (GE : FnOk P w K mg base (L2.CX P w) 3 fE fdE ["base", "number"] (spExp K CN))
    (GF : FnOk P w K mg base (L2.CX P w) 3 fF fdF ["base", "length", "number"] (spFig K CN)) (GN : FnOk P w K mg base (L2.CX P w) 4 fN fdN ["base", "figures"] (spNum K CO))
    (gR : mg "_law_roll" = some (.ref fR)) (gW : mg "_law_power" = some (.ref fW)) (gP : mg "power" = some (.ref fP)) (gE : mg "exponent_of" = some (.ref fE)) (gF : mg "figures_of" = some (.ref fF)) (gN : mg "number_of" = some (.ref fN))
    (kR : PySem.W.keepIn K (.ref fR) = true) (kW : PySem.W.keepIn K (.ref fW) = true) (kP : PySem.W.keepIn K (.ref fP) = true) (kE : PySem.W.keepIn K (.ref fE) = true) (kF : PySem.W.keepIn K (.ref fF) = true) (kN : PySem.W.keepIn K (.ref fN) = true)
    (mp : mg "repr" = none) (mr : mg "range" = none) (mt : mg "tuple" = none) (mm : mg "min" = none) (ms : mg "sum" = none) (me : mg "enumerate" = none) (ml : mg "len" = none) :
    FnG P w K mg base CX0 5 f fd ["dice", "base"] spRight := by
  refine fnG0 (k := 4) F scRight (fun vs H Q E h => ?_) (fun cdv A outer s H vs Q E gd hr h => ?_)
  · obtain ⟨l, i, rfl, _⟩ := h
    rfl
  · obtain ⟨l, i, rfl, dl, i1, i2, q⟩ := h
    have hr1 := hr.mono (show 1 ≤ 4 by decide)
    have hr3 := hr.mono (show 3 ≤ 4 by decide)
    have un := hr.units
    have N := scRight.nd
    refine ⟨_, pss_cons (ps_par (i := 2) (j := 3) rfl N rfl rfl (by decide) rfl rfl (pa_cons pe_int (pa_cons (pe_ifExp (pt_cmpR op_gt (pv 1) pe_int (nomark _)) pe_int pe_int) pa_nil)) rfl)
      (pss_cons (ps_for PassesOwn.never rfl (pi_range1 (by rfl) mr (pa_cons (pv 3) pa_nil)) (pg_name (i := 4) N rfl (.inl rfl))
        (pss_cons (ps_if (PW.pt (pw_or (pt_cmpR op_ne (pe_call GP hr3 (by rfl) gP kP bP .nil passN (pa_cons (pv 1) (pa_cons (pv 4) pa_nil))) (pv 2) (nomark _))
            (pw_or1 (pt_cmpR op_ne (pe_call GE hr3 (by rfl) gE kE bE .nil passN (pa_cons (pv 1) (pa_cons (pv 2) pa_nil))) (pe_ifExp (pt_cmpR op_gt (pv 1) pe_int (nomark _)) (pv 4) pe_int) (nomark _)))))
          (pss_one (ps_ret pe_bl)) pss_nil)
        (pss_cons (ps_if (pt_cmp (pc_notN (pe_call GE hr3 (by rfl) gE kE bE .nil passN (pa_cons (pv 1) (pa_cons (pe_op op_add (pe_op op_mulW (pv 2) (pv 1)) pe_int) pa_nil)))))
          (pss_one (ps_ret pe_bl)) pss_nil)
        (pss_one (ps_set (i := 2) N rfl (.inl rfl) (pe_op op_mulW (pv 2) (pv 1)))))))
      (pss_cons (ps_set (i := 5) N rfl (.inr rfl) (pe_callTy call_tuple_of (by rfl) mt (by decide +kernel) (pa_cons
        (pe_lc (own := [("turn", 9)]) (g := gName 9) (tt := tYes) rfl N (pi_range1 (by rfl) mr (pa_cons (pe_call GR hr1 (by rfl) gR kR bR .nil pass0 (pa_cons (pv 0) (pa_cons pe_int pa_nil))) pa_nil))
          (blkOk_by (own := [("turn", 9)]) (N := ["dice", "base", "found", "most", "at", "figures", "number", "total", "longer", "turn", "figure"]) (sc := defScope sRight) (by decide +kernel))
          (fun _ _ _ _ _ => pg_name (i := 9) N rfl (Or.inl rfl)) (fun _ _ _ _ _ => pts_nil)
          (fun _ _ _ _ _ => pe_call GR hr1 (by rfl) gR kR bR .nil pass0 (pa_cons (pv 0) (pa_cons (pe_callB (call_min2 rfl) (by rfl) mm (by decide +kernel) (pa_cons (pv 1) (pa_cons pe_int pa_nil))) pa_nil)))) pa_nil)))
      (pss_cons (ps_set (i := 6) N rfl (.inl rfl) (pe_call GN hr (by rfl) gN kN bN .nil passN (pa_cons (pv 1) (pa_cons (pv 5) pa_nil))))
      (pss_cons (ps_set (i := 7) N rfl (.inl rfl) (pe_callB (cr_sum rfl) (by rfl) ms (by decide +kernel) (pa_cons
        (pe_lc (own := [("at", 4), ("figure", 10)]) (g := gTup K 2 (gCons (gName 4) (gCons (gName 10) gNil))) (tt := tYes) rfl N (pi_enumT (by rfl) me (pa_cons (pv 5) pa_nil))
          (blkOk_by (own := [("at", 4), ("figure", 10)]) (N := ["dice", "base", "found", "most", "at", "figures", "number", "total", "longer", "turn", "figure"]) (sc := defScope sRight) (by decide +kernel))
          (fun _ _ _ _ _ => pg_tup rfl (pgs_cons (pg_name (i := 4) N rfl (Or.inl rfl)) (pgs_cons (pg_name (i := 10) N rfl (Or.inl rfl)) pgs_nil))) (fun _ _ _ _ _ => pts_nil)
          (fun _ _ _ _ _ => pe_op op_mulW (pv 10) (pe_call GW hr1 (by rfl) gW kW bW .nil pass0 (pa_cons (pv 1) (pa_cons (pe_op op_sub (pe_op op_sub (pe_callB (call_lenK (K := K) rfl) (by rfl) ml PySem.boot_len (pa_cons (pv 5) pa_nil)) pe_int) (pv 4)) pa_nil))))) pa_nil)))
      (pss_cons (ps_if (PW.pt (pw_or (pt_cmpR op_ne (pe_callB (call_reprR gd un) (by rfl) mp (by decide +kernel) (pa_cons (pv 6) pa_nil)) (pe_callB (call_reprR gd un) (by rfl) mp (by decide +kernel) (pa_cons (pv 7) pa_nil)) (nomark _))
          (pw_or1 (pt_cmpR op_ne (pe_callB (call_reprR gd un) (by rfl) mp (by decide +kernel) (pa_cons (pe_call GF hr3 (by rfl) gF kF bF .nil passN (pa_cons (pv 1) (pa_cons (pe_callB call_len_seq (by rfl) ml PySem.boot_len (pa_cons (pv 5) pa_nil)) (pa_cons (pv 6) pa_nil)))) pa_nil))
            (pe_callB (call_reprR gd un) (by rfl) mp (by decide +kernel) (pa_cons (pv 5) pa_nil)) (nomark _)))))
        (pss_one (ps_ret pe_bl)) pss_nil)
      (pss_cons (ps_set (i := 8) N rfl (.inl rfl) (pe_call GF hr3 (by rfl) gF kF bF .nil passN (pa_cons (pv 1) (pa_cons (pe_op op_add (pe_callB call_len_seq (by rfl) ml PySem.boot_len (pa_cons (pv 5) pa_nil)) pe_int) (pa_cons (pv 6) pa_nil)))))
      (pss_one (ps_ret (pe_and (pe_cmpR (op_eqD un) (pv 8) (pe_op op_catT (pe_tup (pa_cons pe_int (pa_cons pe_int (pa_cons pe_int pa_nil)))) (pv 5)) (nomark _))
        (pe_one (pe_cmpR op_eq (pe_call GN hr (by rfl) gN kN bN .nil passN (pa_cons (pv 1) (pa_cons (pv 8) pa_nil))) (pv 6) (nomark _)))))))))))), ?_⟩
    have hi64 : i < 2 ^ 64 := by omega
    have gi : intOk i = true := intOk_small (by omega) (by omega)
    have m0 : 0 ≤ most i ∧ most i ≤ 60 := by
      unfold most
      split <;> omega
    have me' : (if decide (1000 < i) = true then V.int 12 else V.int 60) = V.int (most i) := by
      unfold most
      by_cases g : i > 1000
      · rw [if_pos (decide_eq_true g), if_pos g]
      · rw [if_neg (fun z => g (of_decide_eq_true z)), if_neg g]
    refine ⟨_, rfl, _, _, rfl, rfl, _, rfl, iteV me' ⟨_, _, rfl, ?_⟩⟩
    refine ⟨_, rfl, _, rfl, by omega, by omega, ?_⟩
    refine for_range (lo := 0) (n := (most i).toNat) (fun k σ H1 => ∃ y4, σ = [some (.ref l), some (.int i), some (.int (i ^ k)), some (.int (most i)), y4, none, none, none, none, none, none] ∧ H1 = H) ⟨none, by rw [Int.pow_zero]; rfl, rfl⟩
      (fun k σ H1 hk hP => ?_) (fun σ H1 hP => ?_)
    · obtain ⟨y4, rfl, rfl⟩ := hP
      have hk60 : k < 60 := by omega
      obtain ⟨ok1, ok2⟩ := walk_ok i1 i2 (show (k : Int) < most i by omega)
      have pk := pow_pos' i1 k
      have sz := pow_size i1 hi64 (show k ≤ 100 by omega)
      have mw : CMulW (i ^ k) i := wide_mul sz (show i.natAbs < 2 ^ 64 by omega) (by decide) (by decide) (by decide)
      have kk : (0 + (k : Int)).toNat = k := by omega
      refine ⟨_, rfl, _, rfl, _, _, rfl, .inl ⟨i, 0 + (k : Int), ⟨rfl, gi, i1⟩, hi64, rfl, by omega, by omega, ?_⟩⟩
      refine ⟨_, rfl, rfl, _, rfl, iteFo (neI (by rw [kk])) ?_⟩
      refine ⟨_, rfl, _, rfl, _, _, rfl, .inl ⟨i, i ^ k, ⟨rfl, gi, i1⟩, ⟨rfl, ok1, pk⟩, fun v ev => ?_⟩⟩
      cases expOf_pow i1 (show k ≤ 1000 by omega) ev
      have sel : (if decide (1 < i) = true then V.int (0 + (k : Int)) else V.int 0) = V.int (if 1 < i then (k : Int) else 0) := by
        by_cases g : 1 < i
        · rw [if_pos (decide_eq_true g), if_pos g, Int.zero_add]
        · rw [if_neg (fun z => g (of_decide_eq_true z)), if_neg g]
      refine ⟨_, rfl, _, _, rfl, rfl, _, rfl, iteVar rfl sel ⟨rfl, _, rfl, iteFo (neI rfl) ?_⟩⟩
      refine ⟨_, rfl, _, rfl, _, rfl, _, _, rfl, rfl, mw, _, _, rfl, rfl, _, _, rfl, .inl ⟨i, _, ⟨rfl, gi, i1⟩, ⟨rfl, ok2, ?_⟩, fun v ev => ?_⟩⟩
      · have := Int.mul_nonneg (show 0 ≤ i ^ k by omega) (show 0 ≤ i by omega)
        omega
      · cases expOf_none i1 ev
        refine ⟨_, rfl, iteF ?_⟩
        refine ⟨_, rfl, _, rfl, _, _, rfl, rfl, mw, some (.int (0 + (k : Int))), ?_, rfl⟩
        rw [Int.pow_succ]
        rfl
    · obtain ⟨y4, rfl, rfl⟩ := hP
      refine ⟨_, rfl, l, 13, rfl, dl, by decide, by decide, fun H1 r bt1 d1 r0 r1 => ⟨r, rfl, by omega, by omega, fun D nD => ?_⟩⟩
      refine lc_range (lo := 0) (n := r.toNat) (fun k H2 => ∃ fs : List Int, fs.length = k ∧ H2 D = some (.lst (fs.map V.int)) ∧ (∀ f ∈ fs, (0 ≤ f ∧ f < i) ∧ f < 1000000) ∧ But l H1 H2 ∧ Dice H2 l) ?_ (fun k H2 hk hP => ?_) (fun H2 hP => ?_)
      · exact ⟨[], rfl, upd_same, fun f hf => absurd hf (List.not_mem_nil), But.refl.new nD, d1.new nD⟩
      · obtain ⟨fs, fl, hD, hf, bt, d2⟩ := hP
        have mn : ∀ z : Int, z = (if (1000000 : Int) < i then 1000000 else i) → 0 < z ∧ z < 1073741824 ∧ z ≤ i ∧ z ≤ 1000000 := by
          intro z e
          subst e
          split <;> omega
        obtain ⟨z0, z1, z2, z3⟩ := mn _ rfl
        have lD : l ≠ D := d1.ne nD
        refine ⟨rfl, _, rfl, _, rfl, _, _, rfl, l, _, rfl, d2, z0, z1, fun H3 f bt3 d3 f0 f1 => ?_⟩
        refine ⟨_, bt3 _ _ lD.symm hD, ?_, fs ++ [f], ?_, ?_, ?_, ?_, ?_⟩
        · rw [List.length_map]
          exact small1000 (by omega)
        · rw [List.length_append, fl]
          rfl
        · rw [upd_same, List.map_append]
          rfl
        · intro g hg
          rcases List.mem_append.mp hg with hg | hg
          · exact hf g hg
          · cases List.mem_singleton.mp hg
            exact ⟨⟨f0, by omega⟩, by omega⟩
        · intro b o nl e
          rw [upd_ne (ne_of_none e nD)]
          exact bt3 b o nl (bt b o nl e)
        · obtain ⟨a, b, c, h, n⟩ := d3
          exact ⟨a, b, c, by rw [upd_ne lD]; exact h, n⟩
      · obtain ⟨fs, fl, hD, hf', bt, d2⟩ := hP
        have hf : ∀ f ∈ fs, 0 ≤ f ∧ f < i := fun f h => (hf' f h).1
        have h12 : ∀ f ∈ fs, f.natAbs < 10 ^ 12 := fun f h => by
          have := hf' f h
          omega
        have hl : fs.length ≤ 12 := by omega
        obtain ⟨v0, v1⟩ := val_bound i1 fs hf
        have up : val i fs < 10 ^ 160 := by
          have a := (pow_le (show 0 ≤ i by omega) i2 fs.length).2
          have b := pow_mono (show (1 : Int) ≤ 10 ^ 13 by decide) hl
          have c : ((10 : Int) ^ 13) ^ 12 ≤ 10 ^ 160 := by decide +kernel
          omega
        have okv : intOk (val i fs) = true := by
          have c : (10 : Int) ^ 160 < BND := by decide +kernel
          exact intOk_iff.mpr ⟨by omega, by omega⟩
        have nb : (val i fs).natAbs < 10 ^ 300 := by
          have c : (10 : Nat) ^ 160 < 10 ^ 300 := by decide +kernel
          have c2 : ((10 ^ 160 : Nat) : Int) = 10 ^ 160 := by decide +kernel
          omega
        refine ⟨D, _, rfl, .inl ⟨.of hD, fun t nt => ?_⟩⟩
        have d3 := d2.new (o := .tup (fs.map V.int)) nt
        refine ⟨_, rfl, _, rfl, i, _, rfl, gi, i1, hi64, .inl ⟨fs, ⟨t, rfl, upd_same, by omega, hf⟩, fun H3 sm3 => ?_⟩⟩
        have ht : H3 t = some (.tup (fs.map V.int)) := sm3 _ _ upd_same
        refine ⟨_, rfl, t, _, rfl, .of ht, fun D2 nD2 => ?_⟩
        refine lc_enumT (K := K) (a := t) (xs := fs.map V.int) (fun k H4 => Same H3 H4 ∧ H4 D2 = some (.lst (((terms i fs).take k).map V.int))) ⟨sameUpd nD2, upd_same⟩
          (fun k H4 _ hP => .of (hP.1 _ _ ht)) (fun k v H4 T hv nT hP => ?_) (fun H4 hP => ?_)
        · obtain ⟨sm4, hD2⟩ := hP
          rw [List.getElem?_map] at hv
          obtain ⟨f, hf4, rfl⟩ := Option.map_eq_some_iff.mp hv
          have kl : k < fs.length := (List.getElem?_eq_some_iff.mp hf4).1
          have e : ((fs.map V.int).length : Int) - 1 - (k : Int) = ((fs.length - 1 - k : Nat) : Int) := by
            rw [List.length_map]
            omega
          have fm := List.mem_of_getElem? hf4
          have fb := hf' f fm
          have hD4 := sameUpd (o := .tup [.int (k : Nat), .int f]) nT _ _ hD2
          refine ⟨T, _, rfl, .of upd_same, rfl, _, _, rfl, _, _, rfl, rfl, rfl, ?_⟩
          refine ⟨_, rfl, _, rfl, _, rfl, t, _, rfl, .inr (.of (sameUpd nT _ _ (sm4 _ _ ht))), _, _, rfl, rfl, _, rfl, _, _, rfl, rfl, i, fs.length - 1 - k, congrArg (fun z => [V.int i, V.int z]) e, i1, hi64, by omega, ?_⟩
          refine ⟨_, _, rfl, rfl, wide_mul (show f.natAbs < 2 ^ 64 by omega) (pow_size i1 hi64 (show fs.length - 1 - k ≤ 100 by omega)) (by decide) (by decide) (by decide), _, hD4, ?_, fun b o eb => ?_, ?_⟩
          · rw [List.length_map, List.length_take]
            exact Nat.lt_of_le_of_lt (Nat.min_le_left _ _) (small1000 (by omega))
          · rw [upd_ne (ne_of_none eb nD2)]
            exact sameUpd nT _ _ (sm4 b o eb)
          · rw [upd_same, List.take_add_one, terms_get i fs k f hf4, List.map_append]
            rfl
        · obtain ⟨sm4, hD2⟩ := hP
          rw [List.length_map, ← terms_len i fs, List.take_length] at hD2
          refine ⟨D2, _, rfl, .of hD2, ?_⟩
          rw [terms_sum]
          have ht4 := sm4 _ _ ht
          have Lt : (((fs.map V.int).length : Nat) : Int).toNat = fs.length := by
            rw [List.length_map]
            omega
          refine ⟨_, rfl, _, .int _, rfl, int_rp nb, _, rfl, _, .int _, rfl, int_rp nb, rfl, _, rfl, iteFo (neS rfl) ?_⟩
          refine ⟨_, rfl, _, rfl, t, _, rfl, .inr (.of ht4), _, rfl, _, _, _, rfl, .inl ⟨i, _, _, ⟨rfl, gi, i1⟩, rfl, ?_, ?_, rfl, okv, v0, .inl ⟨?_, fun H5 p sm5 np hp => ?_⟩⟩⟩
          · exact Int.natCast_nonneg _
          · rw [List.length_map]
            omega
          · rw [Lt]
            exact Int.ediv_eq_zero_of_lt v0 v1
          rw [Lt, figs_val i1 hf] at hp
          have ht5 := sm5 _ _ ht4
          refine ⟨_, _, rfl, tup_rp hp (by omega) h12, _, rfl, _, _, rfl, tup_rp ht5 (by omega) h12, rfl, _, rfl, iteFo (neS rfl) ?_⟩
          have hf3 : ∀ f ∈ (0 :: 0 :: 0 :: fs : List Int), 0 ≤ f ∧ f < i := by
            intro f h
            simp only [List.mem_cons] at h
            rcases h with rfl | rfl | rfl | h
            · omega
            · omega
            · omega
            · exact hf f h
          have h123 : ∀ f ∈ (0 :: 0 :: 0 :: fs : List Int), f.natAbs < 10 ^ 12 := by
            intro f h
            simp only [List.mem_cons] at h
            rcases h with rfl | rfl | rfl | h
            · decide
            · decide
            · decide
            · exact h12 f h
          have Lt3 : (((fs.map V.int).length : Nat) + 3 : Int).toNat = (0 :: 0 :: 0 :: fs : List Int).length := by
            rw [List.length_map, List.length_cons, List.length_cons, List.length_cons]
            omega
          have vb := (val_bound i1 _ hf3)
          rw [val_pad] at vb
          refine ⟨_, rfl, _, rfl, t, _, rfl, .inr (.of ht5), _, _, rfl, rfl, _, rfl, _, _, _, rfl, .inl ⟨i, _, _, ⟨rfl, gi, i1⟩, rfl, ?_, ?_, rfl, okv, v0, .inl ⟨?_, fun H6 p6 sm6 np6 hp6 => ?_⟩⟩⟩
          · rw [List.length_map]
            omega
          · rw [List.length_map]
            omega
          · rw [Lt3]
            exact Int.ediv_eq_zero_of_lt v0 vb.2
          rw [Lt3, ← val_pad i fs, figs_val i1 hf3] at hp6
          have ht6 := sm6 _ _ ht5
          obtain ⟨ev1, ev2⟩ := tup_eqv h123
          have bl : ∀ H7, Same H6 H7 → But l H1 H7 := fun H7 s b o nl e => s _ _ (sm6 _ _ (sm5 _ _ (sm4 _ _ (sm3 _ _ (sameUpd nt _ _ (bt b o nl e))))))
          have dz : ∀ H7, Same H6 H7 → Dice H7 l := fun H7 s => ((((d3.same sm3).same sm4).same sm5).same sm6).same s
          have bl0 : But l H1 H1 := But.refl
          refine ⟨_, rfl, (by show 3 ≤ sizeLine; decide), fun z nz => ⟨_, rfl, z, t, _, _, rfl, rfl, .of upd_same, .of (sameUpd nz _ _ ht6), (fun z => by cases z), ?_, fun e0 => ?_, fun _ y ny => ?_⟩⟩
          · rw [List.length_map, sizeLine_eq]
            show 3 + fs.length ≤ _
            omega
          · have f0 : fs = [] := List.map_eq_nil_iff.mp e0
            subst f0
            refine ⟨_, _, .tup (.of (sameUpd nz _ _ hp6)) (ints_dp _), .tup (.of (by rw [upd_same]; rfl)) (ints_dp _), ev1, ev1, true, congrArg V.bl ev2, iteT ?_⟩
            refine ⟨_, rfl, _, rfl, i, _, rfl, gi, i1, hi64, .inl ⟨_, ⟨p6, rfl, sameUpd nz _ _ hp6, by decide, hf3⟩, fun H7 sm7 => ?_⟩⟩
            refine ⟨_, rfl, rfl, ?_⟩
            rw [val_pad, decide_eq_true rfl]
            exact q _ (bt1.trans (bl _ ((sameUpd nz).trans sm7))) (dz _ ((sameUpd nz).trans sm7))
          · refine ⟨_, _, .tup (.of (sameUpd ny _ _ (sameUpd nz _ _ hp6))) (ints_dp _), .tup (.of (by rw [upd_same]; rfl)) (ints_dp _), ev1, ev1, true, congrArg V.bl ev2, iteT ?_⟩
            refine ⟨_, rfl, _, rfl, i, _, rfl, gi, i1, hi64, .inl ⟨_, ⟨p6, rfl, sameUpd ny _ _ (sameUpd nz _ _ hp6), ?_, hf3⟩, fun H7 sm7 => ?_⟩⟩
            · rw [List.length_cons, List.length_cons, List.length_cons]
              omega
            refine ⟨_, rfl, rfl, ?_⟩
            rw [val_pad, decide_eq_true rfl]
            exact q _ (bt1.trans (bl _ (((sameUpd nz).trans (sameUpd ny)).trans sm7))) (dz _ (((sameUpd nz).trans (sameUpd ny)).trans sm7))
end
end K02

set_option maxHeartbeats 16000000
namespace K02
open PySem PySem.Spec PyProof.Rows L2 GG LamX
abbrev sLaw : Stmt := topS 27
theorem scLaw : FnScope ["script", "spot", "dice", "base", "told"] ["script"] (defScope sLaw) := ⟨rfl, rfl, rfl, by decide +kernel, rfl, by decide +kernel, by decide +kernel⟩
def spLaw (K : PySem.W.Frag) (HK : Addr) : Sp := fun vs H Q _ => ∃ (a : Addr) (ns : List Int), vs = [.ref a] ∧ SqL K H a (ns.map V.int) ∧ ns.length ≤ 63 ∧ H HK = some (.tbl #[]) ∧ ∀ H', Q (.bl true) H'
theorem seqL_ext {K : PySem.W.Frag} {H H' : Hp} {a p : Addr} {xs : List V} (e : ExtP p H H') (n : H p = none) (h : SqL K H a xs) : SqL K H' a xs := by
  rcases h with (h | ⟨o, h⟩) | h
  · exact .inl (.inl (e _ _ (ne_of_none h n) (fun ps z => by cases z) h))
  · exact .inl (.inr ⟨o, e _ _ (ne_of_none h n) (fun ps z => by cases z) h⟩)
  · exact .inr h
theorem ExtP.ofBut {p : Addr} {H H' : Hp} (b : But p H H') : ExtP p H H' := fun c o n t e => b c o n e
theorem rng_b (L : Int) : -(2 ^ 62) ≤ (if (if L < 4 then L else 4) > 1 then (if L < 4 then L else 4) else 1) ∧ (if (if L < 4 then L else 4) > 1 then (if L < 4 then L else 4) else 1) < 2 ^ 62 ∧
    (if (if L < 4 then L else 4) > 1 then (if L < 4 then L else 4) else 1).toNat ≤ 4 := by
  refine ⟨?_, ?_, ?_⟩ <;> (repeat' split) <;> omega
theorem exp28 {v : V} (e : ExpOf 2 8 v) : v = .int 3 := expOf_pow (i := 2) (k := 3) (by decide) (by decide) e
theorem exp11 {v : V} (e : ExpOf 1 1 v) : v = .int 0 := expOf_pow (i := 1) (k := 0) (by decide) (by decide) e
theorem exp26 {v : V} (e : ExpOf 2 6 v) : v = .non := by
  rcases e with ⟨m, hm, rfl, e, _⟩ | ⟨rfl, _⟩
  · exfalso
    by_cases z : m ≤ 2
    · have := pow_mono (show (1 : Int) ≤ 2 by decide) z
      have c : (2 : Int) ^ 2 = 4 := by decide
      omega
    · have := pow_mono (show (1 : Int) ≤ 2 by decide) (show 3 ≤ m by omega)
      have c : (2 : Int) ^ 3 = 8 := by decide
      omega
  · rfl
theorem exp15 {v : V} (e : ExpOf 1 5 v) : v = .non := by
  rcases e with ⟨m, hm, rfl, e, _⟩ | ⟨rfl, _⟩
  · rw [one_pow'] at e
    exact absurd e (by decide)
  · rfl
theorem goods : intOk 1 = true ∧ intOk 2 = true ∧ intOk 3 = true ∧ intOk 5 = true ∧ intOk 6 = true ∧ intOk 7 = true ∧ intOk 8 = true ∧ intOk 0 = true := by decide +kernel
theorem figs130 : figs 1 (3 : Int).toNat 0 = [0, 0, 0] := by decide +kernel
abbrev lastD : PyData := .list [.int 81, .int 3, .none, .int 0, .none, .tuple [.int 0, .int 0, .int 0], .int 0, .int 1]
theorem lastE : SeqAt.shaped lastD = true ∧ PyData.eqv lastD lastD = true := by decide +kernel
section
variable {P : Program} {w : World} {K : PySem.W.Frag} {mg : Str → Option Value} {base : Heap}
theorem ok_law {f fD fR fK fG fX fP fE fF fN CN CO HK : Addr} {fd fdD fdR fdK fdG fdX fdP fdE fdF fdN : FuncData} (F : Fun K "law" "law" sLaw f fd)
    (bD : Binds K fdD ["script", "spot"] []) (bR : Binds K fdR ["dice", "total"] []) (bK : Binds K fdK ["dice", "items"] []) (bG : Binds K fdG ["dice", "base"] []) (bX : Binds K fdX ["dice"] [])
    (bP : Binds K fdP ["base", "exponent"] []) (bE : Binds K fdE ["base", "number"] []) (bF : Binds K fdF ["base", "length", "number"] []) (bN : Binds K fdN ["base", "figures"] [])
    (GD : FnOk P w K mg base CX0 1 fD fdD ["script", "spot"] (spDice K)) (GR : FnOk P w K mg base CX0 1 fR fdR ["dice", "total"] spRoll)
    (GK : FnOk P w K mg base CX0 2 fK fdK ["dice", "items"] (spPick K)) (GG' : FnG P w K mg base CX0 5 fG fdG ["dice", "base"] spRight) (GX : FnG P w K mg base CX0 7 fX fdX ["dice"] (spErr HK))
    (GP : FnOk P w K mg base (L2.CX P w) 3 fP fdP ["base", "exponent"] (spPower K CN)) (GE : FnOk P w K mg base (L2.CX P w) 3 fE fdE ["base", "number"] (spExp K CN))
    (GF : FnOk P w K mg base (L2.CX P w) 3 fF fdF ["base", "length", "number"] (spFig K CN)) (GN : FnOk P w K mg base (L2.CX P w) 4 fN fdN ["base", "figures"] (spNum K CO))
    (gD : mg "_law_dice" = some (.ref fD)) (gR : mg "_law_roll" = some (.ref fR)) (gK : mg "_law_pick" = some (.ref fK)) (gG : mg "_law_right" = some (.ref fG)) (gX : mg "_law_errors_right" = some (.ref fX))
    (gP : mg "power" = some (.ref fP)) (gE : mg "exponent_of" = some (.ref fE)) (gF : mg "figures_of" = some (.ref fF)) (gN : mg "number_of" = some (.ref fN))
    (kD : PySem.W.keepIn K (.ref fD) = true) (kR : PySem.W.keepIn K (.ref fR) = true) (kK : PySem.W.keepIn K (.ref fK) = true) (kG : PySem.W.keepIn K (.ref fG) = true) (kX : PySem.W.keepIn K (.ref fX) = true)
    (kP : PySem.W.keepIn K (.ref fP) = true) (kE : PySem.W.keepIn K (.ref fE) = true) (kF : PySem.W.keepIn K (.ref fF) = true) (kN : PySem.W.keepIn K (.ref fN) = true)
    (mr : mg "range" = none) (mx : mg "max" = none) (mn : mg "min" = none) (ml : mg "len" = none) :
    FnG P w K mg base CX0 8 f fd ["script"] (spLaw K HK) := by
  refine fnG0 (k := 7) F scLaw (fun vs H Q E h => ?_) (fun cdv A outer s H vs Q E gd hr h => ?_)
  · obtain ⟨a, ns, rfl, _⟩ := h
    rfl
  · obtain ⟨a, ns, rfl, hS, hlen, hT, q⟩ := h
    have hr1 := hr.mono (show 1 ≤ 7 by decide)
    have hr2 := hr.mono (show 2 ≤ 7 by decide)
    have hr3 := hr.mono (show 3 ≤ 7 by decide)
    have hr4 := hr.mono (show 4 ≤ 7 by decide)
    have hr5 := hr.mono (show 5 ≤ 7 by decide)
    have un := hr.units
    have N := scLaw.nd
    refine ⟨_, pss_cons (ps_for PassesOwn.never rfl (pi_range1 (by rfl) mr (pa_cons (pe_callB (call_max2 rfl) (by rfl) mx (by decide +kernel) (pa_cons pe_int (pa_cons
          (pe_callB (call_min2 rfl) (by rfl) mn (by decide +kernel) (pa_cons pe_int (pa_cons (pe_callB call_len_seq (by rfl) ml PySem.boot_len (pa_cons (pv 0) pa_nil)) pa_nil))) pa_nil))) pa_nil))
          (pg_name (i := 1) N rfl (.inl rfl))
        (pss_cons (ps_set (i := 2) N rfl (.inl rfl) (pe_call GD hr1 (by rfl) gD kD bD .nil pass0 (pa_cons (pv 0) (pa_cons (pv 1) pa_nil))))
        (pss_cons (ps_set (i := 3) N rfl (.inl rfl) (pe_call GK hr2 (by rfl) gK kK bK .nil pass0 (pa_cons (pv 2) (pa_cons (pe_lst (pa_cons pe_int (pa_cons pe_int (pa_cons pe_int (pa_cons pe_int
            (pa_cons (pe_op op_add pe_int (pe_call GR hr1 (by rfl) gR kR bR .nil pass0 (pa_cons (pv 2) (pa_cons pe_int pa_nil))))
            (pa_cons (pe_op op_add (pe_op op_pow pe_int pe_int) (pe_call GR hr1 (by rfl) gR kR bR .nil pass0 (pa_cons (pv 2) (pa_cons pe_int pa_nil)))) pa_nil))))))) pa_nil))))
        (pss_one (ps_if (PW.pt (pw_or (pt_not (pt_val (pe_callG GG' gd hr5 (by rfl) gG kG bG .nil pass0 (pa_cons (pv 2) (pa_cons (pv 3) pa_nil)))))
            (pw_or (pt_not (pt_val (pe_callG GG' gd hr5 (by rfl) gG kG bG .nil pass0 (pa_cons (pv 2) (pa_cons (pe_op op_add pe_int (pe_call GR hr1 (by rfl) gR kR bR .nil pass0 (pa_cons (pv 2) (pa_cons pe_int pa_nil)))) pa_nil)))))
            (pw_or1 (pt_not (pt_val (pe_callG GX gd hr (by rfl) gX kX bX .nil pass0 (pa_cons (pv 2) pa_nil))))))))
          (pss_one (ps_ret pe_bl)) pss_nil)))))
      (pss_cons (ps_set (i := 4) N rfl (.inl rfl) (pe_lst (pa_cons (pe_call GP hr3 (by rfl) gP kP bP .nil passN (pa_cons pe_int (pa_cons pe_int pa_nil)))
          (pa_cons (pe_call GE hr3 (by rfl) gE kE bE .nil passN (pa_cons pe_int (pa_cons pe_int pa_nil))) (pa_cons (pe_call GE hr3 (by rfl) gE kE bE .nil passN (pa_cons pe_int (pa_cons pe_int pa_nil)))
          (pa_cons (pe_call GE hr3 (by rfl) gE kE bE .nil passN (pa_cons pe_int (pa_cons pe_int pa_nil))) (pa_cons (pe_call GE hr3 (by rfl) gE kE bE .nil passN (pa_cons pe_int (pa_cons pe_int pa_nil))) pa_nil)))))))
      (pss_cons (ps_set (i := 4) N rfl (.inl rfl) (pe_op op_cat (pv 4) (pe_lst (pa_cons (pe_call GF hr3 (by rfl) gF kF bF .nil passN (pa_cons pe_int (pa_cons pe_int (pa_cons pe_int pa_nil))))
          (pa_cons (pe_call GN hr4 (by rfl) gN kN bN .nil passN (pa_cons pe_int (pa_cons (pe_tup pa_nil) pa_nil))) (pa_cons (pe_call GP hr3 (by rfl) gP kP bP .nil passN (pa_cons pe_int (pa_cons pe_int pa_nil))) pa_nil))))))
      (pss_one (ps_ret (pe_cmpR (op_eqD un) (pv 4) (pe_lst (pa_cons pe_int (pa_cons pe_int (pa_cons pe_non (pa_cons pe_int (pa_cons pe_non (pa_cons (pe_tup (pa_cons pe_int (pa_cons pe_int (pa_cons pe_int pa_nil))))
          (pa_cons pe_int (pa_cons pe_int pa_nil))))))))) (nomark _)))))), ?_⟩
    have hM := rng_b (ns.map V.int).length
    refine ⟨.ref a, rfl, a, _, rfl, .inl hS, _, _, rfl, _, _, rfl, _, rfl, hM.1, hM.2.1, ?_⟩
    refine for_range (lo := 0) (fun i σ H1 => ∃ y1 y2 y3 y4, σ = [some (.ref a), y1, y2, y3, y4] ∧ SqL K H1 a (ns.map V.int) ∧ Tabs (lamT HK) H1)
      ⟨_, _, _, _, rfl, hS, fun z hz => by cases List.mem_singleton.mp hz; exact .nil hT⟩ (fun i σ H1 hi hP => ?_) (fun σ H1 hP => ?_)
    · obtain ⟨y1, y2, y3, y4, rfl, hS1, t1⟩ := hP
      refine ⟨.ref a, rfl, _, rfl, a, ns, i, by rw [Int.zero_add]; rfl, hS1, by omega, fun H2 p s2 np d2 => ?_⟩
      have t2 := t1.ext s2
      obtain ⟨xs2, l2⟩ := K02.Dice.lst d2
      refine ⟨.ref p, rfl, .ref p, rfl, p, 50, rfl, d2, by decide, by decide, fun H3 r1 b3 d3 r10 r11 => ⟨_, _, rfl, rfl, _, _, rfl, rfl, ⟨by decide, by decide, by decide⟩, .ref p, rfl, p, 1000, rfl, d3, by decide, by decide, fun H4 r2 b4 d4 r20 r21 =>
        ⟨_, _, rfl, rfl, (by show 6 ≤ sizeLine; decide), fun l6 n6 => ?_⟩⟩⟩
      refine ⟨p, l6, _, rfl, d4.new n6, (d4.ne n6).symm, .inl (.of upd_same), (by show 0 < 6; decide), (by show 6 ≤ 1000; decide), fun H5 j v b5 d5 hv => ?_⟩
      have pw12 : (10 : Int) ^ (12 : Int).toNat = 1000000000000 := by decide
      obtain ⟨b, rfl, b0, b1⟩ : ∃ b : Int, v = .int b ∧ 1 ≤ b ∧ b ≤ 10 ^ 13 := by
        have m := List.mem_of_getElem? hv
        simp only [List.mem_cons, List.mem_nil_iff, or_false] at m
        rcases m with rfl | rfl | rfl | rfl | rfl | rfl
        · exact ⟨_, rfl, by decide, by decide⟩
        · exact ⟨_, rfl, by decide, by decide⟩
        · exact ⟨_, rfl, by decide, by decide⟩
        · exact ⟨_, rfl, by decide, by decide⟩
        · exact ⟨_, rfl, by omega, by omega⟩
        · exact ⟨_, rfl, by omega, by omega⟩
      refine ⟨.ref p, rfl, _, rfl, p, b, rfl, d5, b0, b1, fun H6 b6 d6 => ⟨true, rfl, iteF ?_⟩⟩
      refine ⟨.ref p, rfl, .ref p, rfl, p, 9, rfl, d6, by decide, by decide, fun H7 r3 b7 d7 r30 r31 => ⟨_, _, rfl, rfl, p, _, rfl, d7, by omega, by omega, fun H8 b8 d8 => ⟨true, rfl, iteF ?_⟩⟩⟩
      have c28 : But p H2 H8 := (((((b3.trans b4).new n6).trans b5).trans b6).trans b7).trans b8
      have t8 := Tabs.but t2 l2 c28
      refine ⟨.ref p, rfl, p, rfl, d8, t8, fun H9 e9 d9 t9 => ⟨true, rfl, iteF ?_⟩⟩
      exact ⟨_, _, _, _, rfl, seqL_ext (((ExtP.of s2).trans (ExtP.ofBut c28)).trans e9) np hS1, t9⟩
    · obtain ⟨y1, y2, y3, y4, rfl, hS1, t1⟩ := hP
      obtain ⟨k1, k2, k3, k5, k6, k7, k8, k0⟩ := goods
      refine ⟨_, _, rfl, .inl ⟨3, 4, ⟨rfl, k3, by decide⟩, by decide, rfl, by decide, by decide, ?_⟩⟩
      refine ⟨_, _, rfl, .inl ⟨2, 8, ⟨rfl, k2, by decide⟩, ⟨rfl, k8, by decide⟩, fun v e => ?_⟩⟩
      cases exp28 e
      refine ⟨_, _, rfl, .inl ⟨2, 6, ⟨rfl, k2, by decide⟩, ⟨rfl, k6, by decide⟩, fun v e => ?_⟩⟩
      cases exp26 e
      refine ⟨_, _, rfl, .inl ⟨1, 1, ⟨rfl, k1, by decide⟩, ⟨rfl, k1, by decide⟩, fun v e => ?_⟩⟩
      cases exp11 e
      refine ⟨_, _, rfl, .inl ⟨1, 5, ⟨rfl, k1, by decide⟩, ⟨rfl, k5, by decide⟩, fun v e => ?_⟩⟩
      cases exp15 e
      refine ⟨(by show 5 ≤ sizeLine; decide), fun t nt => ?_⟩
      refine ⟨_, rfl, _, _, _, rfl, .inl ⟨1, 3, 0, ⟨rfl, k1, by decide⟩, rfl, by decide, by decide, rfl, k0, by decide, .inl ⟨by decide +kernel, fun H2 p s2 np hp => ?_⟩⟩⟩
      rw [figs130] at hp
      refine ⟨(by show 0 ≤ sizeLine; decide), fun u nu => ⟨5, _, rfl, k5, by decide, by decide, .inl ⟨[], ⟨u, rfl, upd_same, by decide, fun f hf => absurd hf List.not_mem_nil⟩, fun H3 s3 => ?_⟩⟩⟩
      refine ⟨_, _, rfl, .inl ⟨7, 0, ⟨rfl, k7, by decide⟩, by decide, rfl, by decide, by decide, (by show 3 ≤ sizeLine; decide), fun w nw => ?_⟩⟩
      have ht := sameUpd (o := .lst [.ref p, .int (val 5 []), .int (7 ^ (0 : Int).toNat)]) nw _ _ (s3 _ _ (sameUpd nu _ _ (s2 _ _ upd_same)))
      refine ⟨t, w, _, _, rfl, rfl, ht, upd_same, (by show 8 ≤ sizeLine; decide), fun c nc => ?_⟩
      have hp2 := sameUpd (o := .lst [.ref p, .int (val 5 []), .int (7 ^ (0 : Int).toNat)]) nw _ _ (s3 _ _ (sameUpd nu _ _ hp))
      have hp3 := sameUpd (o := .lst ([.int (3 ^ (4 : Int).toNat), .int 3, .non, .int 0, .non] ++ [.ref p, .int (val 5 []), .int (7 ^ (0 : Int).toNat)])) nc _ _ hp2
      refine ⟨_, rfl, (by show 3 ≤ sizeLine; decide), fun z nz => ⟨(by show 8 ≤ sizeLine; decide), fun y ny => ⟨lastD, lastD, ?_, ?_, lastE.1, lastE.1, ?_⟩⟩⟩
      · exact .lst (.of (sameUpd ny _ _ (sameUpd nz _ _ upd_same))) (.cons (.int 81) (.cons (.int 3) (.cons .non (.cons (.int 0) (.cons .non (.cons (.tup (.of (sameUpd ny _ _ (sameUpd nz _ _ hp3))) (.cons (.int 0) (.cons (.int 0) (.cons (.int 0) .nil)))) (.cons (.int 0) (.cons (.int 1) .nil))))))))
      · exact .lst (.of upd_same) (.cons (.int 81) (.cons (.int 3) (.cons .non (.cons (.int 0) (.cons .non (.cons (.tup (.of (sameUpd ny _ _ upd_same)) (.cons (.int 0) (.cons (.int 0) (.cons (.int 0) .nil)))) (.cons (.int 0) (.cons (.int 1) .nil))))))))
      · rw [lastE.2]
        exact q _
end
end K02

set_option maxHeartbeats 4000000
namespace GG
open PySem
def clsBody : Stmt → List Stmt
  | .ClassDef _ _ _ b _ _ _ _ _ _ _ => b
  | _ => []
end GG
namespace K02
open PySem PySem.Spec PyProof.Rows GG PySem.W PySem.Calls PySem.HandSPX
def sInit : Stmt := (clsBody (topS 8)).getD 0 (.Pass ⟨0, 0, 0, 0⟩)
theorem init_ok {K : Frag} {mg : Str → Option Value} {C fI : Addr} (T : XN K mg C fI) {oc : Value} {od an : Option Addr} {doc pm cdv ct : Value} {osl : Array (Option Value)}
    (ho : K.lookup fI = some ⟨oc, od, .func (fnOf "__init__" "InvalidNumber.__init__" (L2.defArgs sInit) (L2.defBody sInit) (L2.defScope sInit) .none .none doc pm an cdv ct), osl⟩)
    (hcd : codeIn K cdv "InvalidNumber.__init__" = true) : PySem.GX.InitOk K "value" C fI := by
  intro prog w A R s x t0 v X lim hx hnx deep hq
  obtain ⟨cd, hcl, hov, hdi⟩ := T.over
  refine Att.call_fn (binds := [("self", .ref x), ("value", v)]) X lim ho hcd deep (BindsTo.of_eq (by first | rfl | with_unfolding_all rfl)) (by first | rfl | decide | with_unfolding_all rfl) (fun s₁ IC => ?_) rfl rfl rfl
  obtain ⟨h₁, tk₁, rfl⟩ := IC.toInCall.same
  have k : ∀ b o, s.heap.get? b = some o → h₁.get? b = some o := IC.toInCall.keep
  have hn := IC.toInCall.ns
  have X₁ : K.In h₁ := X.keeps k
  have hx₁ := k _ _ hx
  show wpAny _ _ (execs _ _) _ _ _
  refine wpAny_execs_cons (plainObj_wpAny_Assign_Attribute ?_)
  refine PySem.GX.loadLoc (v := v) hn (by first | rfl | with_unfolding_all rfl | kernel_rfl) (PySem.GX.loadLoc (v := .ref x) hn (by first | rfl | with_unfolding_all rfl | kernel_rfl) ?_)
  refine set_plain X₁ (ox := excO C t0) (od := none) ⟨hx₁, rfl, rfl, trivial⟩ T.sa ?_
  refine PySem.GX.osaX PySem.F.store_IndexError X₁ hx₁ hcl hov hdi T.noN (fun h₃ tk₃ dx k₃ dn dne hx₃ hn₃ => ?_)
  show wpAny _ _ (execs _ _) _ _ _
  have z : s.heap.objs.size < h₁.objs.size := hn.lt
  exact wpAny_execs_nil (hq h₃ tk₃ dx ⟨fun b o hb e => k₃ b o hb (k b o e), hx₃, Nat.le_of_lt (Nat.lt_of_lt_of_le z dn), dne, hn₃⟩)
end K02

set_option maxHeartbeats 4000000
namespace K02
open PySem PySem.Spec PyProof.Rows L2 GG
theorem all_mk {l : PySem.W.OpenLaw} {w : World} {K : PySem.W.Frag} {h : Heap} {mg : Str → Option Value} {f_is_integer f_is_count f_is_within f_power f_raised f_exponent_of f_figures_of f_number_of f__check_base f__are_figures f__law_dice f__law_roll f__law_pick f__law_power f__law_limit f__law_met f__law_right f__law_errors_right f_law fa CN CO fI c HK : Addr}
    (X : K.In h) (G : h.Ns mainGlobals mg) (hfa : mg "law" = some (.ref fa))
    {od0 an0 : Option Addr} {sl0 : Array (Option Value)} {oc0 kV0 dc0 pm0 cd0 ct0 : Value}
    (a0 : PySem.W.nsIn K mainGlobals "is_integer" = some (some (.ref f_is_integer)))
    (l0 : K.lookup f_is_integer = some ⟨oc0, od0, .func (PySem.W.fnOf "is_integer" "is_integer" (defArgs sInteger) (defBody sInteger) (defScope sInteger) .none kV0 dc0 pm0 an0 cd0 ct0), sl0⟩)
    (c0 : PySem.W.codeIn K cd0 "is_integer" = true) (k0 : PySem.W.keepIn K (.ref f_is_integer) = true)
    {od1 an1 : Option Addr} {sl1 : Array (Option Value)} {oc1 kV1 dc1 pm1 cd1 ct1 : Value}
    (a1 : PySem.W.nsIn K mainGlobals "is_count" = some (some (.ref f_is_count)))
    (l1 : K.lookup f_is_count = some ⟨oc1, od1, .func (PySem.W.fnOf "is_count" "is_count" (defArgs sCount) (defBody sCount) (defScope sCount) .none kV1 dc1 pm1 an1 cd1 ct1), sl1⟩)
    (c1 : PySem.W.codeIn K cd1 "is_count" = true) (k1 : PySem.W.keepIn K (.ref f_is_count) = true)
    {od2 an2 : Option Addr} {sl2 : Array (Option Value)} {oc2 kV2 dc2 pm2 cd2 ct2 : Value}
    (a2 : PySem.W.nsIn K mainGlobals "is_within" = some (some (.ref f_is_within)))
    (l2 : K.lookup f_is_within = some ⟨oc2, od2, .func (PySem.W.fnOf "is_within" "is_within" (defArgs sWithin) (defBody sWithin) (defScope sWithin) .none kV2 dc2 pm2 an2 cd2 ct2), sl2⟩)
    (c2 : PySem.W.codeIn K cd2 "is_within" = true) (k2 : PySem.W.keepIn K (.ref f_is_within) = true)
    {od3 an3 : Option Addr} {sl3 : Array (Option Value)} {oc3 kV3 dc3 pm3 cd3 ct3 : Value}
    (a3 : PySem.W.nsIn K mainGlobals "power" = some (some (.ref f_power)))
    (l3 : K.lookup f_power = some ⟨oc3, od3, .func (PySem.W.fnOf "power" "power" (defArgs sPower) (defBody sPower) (defScope sPower) .none kV3 dc3 pm3 an3 cd3 ct3), sl3⟩)
    (c3 : PySem.W.codeIn K cd3 "power" = true) (k3 : PySem.W.keepIn K (.ref f_power) = true)
    {od4 an4 : Option Addr} {sl4 : Array (Option Value)} {oc4 kV4 dc4 pm4 cd4 ct4 : Value}
    (a4 : PySem.W.nsIn K mainGlobals "raised" = some (some (.ref f_raised)))
    (l4 : K.lookup f_raised = some ⟨oc4, od4, .func (PySem.W.fnOf "raised" "raised" (defArgs sRaised) (defBody sRaised) (defScope sRaised) .none kV4 dc4 pm4 an4 cd4 ct4), sl4⟩)
    (c4 : PySem.W.codeIn K cd4 "raised" = true) (k4 : PySem.W.keepIn K (.ref f_raised) = true)
    {od5 an5 : Option Addr} {sl5 : Array (Option Value)} {oc5 kV5 dc5 pm5 cd5 ct5 : Value}
    (a5 : PySem.W.nsIn K mainGlobals "exponent_of" = some (some (.ref f_exponent_of)))
    (l5 : K.lookup f_exponent_of = some ⟨oc5, od5, .func (PySem.W.fnOf "exponent_of" "exponent_of" (defArgs sExp) (defBody sExp) (defScope sExp) .none kV5 dc5 pm5 an5 cd5 ct5), sl5⟩)
    (c5 : PySem.W.codeIn K cd5 "exponent_of" = true) (k5 : PySem.W.keepIn K (.ref f_exponent_of) = true)
    {od6 an6 : Option Addr} {sl6 : Array (Option Value)} {oc6 kV6 dc6 pm6 cd6 ct6 : Value}
    (a6 : PySem.W.nsIn K mainGlobals "figures_of" = some (some (.ref f_figures_of)))
    (l6 : K.lookup f_figures_of = some ⟨oc6, od6, .func (PySem.W.fnOf "figures_of" "figures_of" (defArgs sFig) (defBody sFig) (defScope sFig) .none kV6 dc6 pm6 an6 cd6 ct6), sl6⟩)
    (c6 : PySem.W.codeIn K cd6 "figures_of" = true) (k6 : PySem.W.keepIn K (.ref f_figures_of) = true)
    {od7 an7 : Option Addr} {sl7 : Array (Option Value)} {oc7 kV7 dc7 pm7 cd7 ct7 : Value}
    (a7 : PySem.W.nsIn K mainGlobals "number_of" = some (some (.ref f_number_of)))
    (l7 : K.lookup f_number_of = some ⟨oc7, od7, .func (PySem.W.fnOf "number_of" "number_of" (defArgs sNum) (defBody sNum) (defScope sNum) .none kV7 dc7 pm7 an7 cd7 ct7), sl7⟩)
    (c7 : PySem.W.codeIn K cd7 "number_of" = true) (k7 : PySem.W.keepIn K (.ref f_number_of) = true)
    {od8 an8 : Option Addr} {sl8 : Array (Option Value)} {oc8 kV8 dc8 pm8 cd8 ct8 : Value}
    (a8 : PySem.W.nsIn K mainGlobals "_check_base" = some (some (.ref f__check_base)))
    (l8 : K.lookup f__check_base = some ⟨oc8, od8, .func (PySem.W.fnOf "_check_base" "_check_base" (defArgs sBase) (defBody sBase) (defScope sBase) .none kV8 dc8 pm8 an8 cd8 ct8), sl8⟩)
    (c8 : PySem.W.codeIn K cd8 "_check_base" = true) (k8 : PySem.W.keepIn K (.ref f__check_base) = true)
    {od9 an9 : Option Addr} {sl9 : Array (Option Value)} {oc9 kV9 dc9 pm9 cd9 ct9 : Value}
    (a9 : PySem.W.nsIn K mainGlobals "_are_figures" = some (some (.ref f__are_figures)))
    (l9 : K.lookup f__are_figures = some ⟨oc9, od9, .func (PySem.W.fnOf "_are_figures" "_are_figures" (defArgs sAre) (defBody sAre) (defScope sAre) .none kV9 dc9 pm9 an9 cd9 ct9), sl9⟩)
    (c9 : PySem.W.codeIn K cd9 "_are_figures" = true) (k9 : PySem.W.keepIn K (.ref f__are_figures) = true)
    {od10 an10 : Option Addr} {sl10 : Array (Option Value)} {oc10 kV10 dc10 pm10 cd10 ct10 : Value}
    (a10 : PySem.W.nsIn K mainGlobals "_law_dice" = some (some (.ref f__law_dice)))
    (l10 : K.lookup f__law_dice = some ⟨oc10, od10, .func (PySem.W.fnOf "_law_dice" "_law_dice" (defArgs sDice) (defBody sDice) (defScope sDice) .none kV10 dc10 pm10 an10 cd10 ct10), sl10⟩)
    (c10 : PySem.W.codeIn K cd10 "_law_dice" = true) (k10 : PySem.W.keepIn K (.ref f__law_dice) = true)
    {od11 an11 : Option Addr} {sl11 : Array (Option Value)} {oc11 kV11 dc11 pm11 cd11 ct11 : Value}
    (a11 : PySem.W.nsIn K mainGlobals "_law_roll" = some (some (.ref f__law_roll)))
    (l11 : K.lookup f__law_roll = some ⟨oc11, od11, .func (PySem.W.fnOf "_law_roll" "_law_roll" (defArgs sRoll) (defBody sRoll) (defScope sRoll) .none kV11 dc11 pm11 an11 cd11 ct11), sl11⟩)
    (c11 : PySem.W.codeIn K cd11 "_law_roll" = true) (k11 : PySem.W.keepIn K (.ref f__law_roll) = true)
    {od12 an12 : Option Addr} {sl12 : Array (Option Value)} {oc12 kV12 dc12 pm12 cd12 ct12 : Value}
    (a12 : PySem.W.nsIn K mainGlobals "_law_pick" = some (some (.ref f__law_pick)))
    (l12 : K.lookup f__law_pick = some ⟨oc12, od12, .func (PySem.W.fnOf "_law_pick" "_law_pick" (defArgs sPick) (defBody sPick) (defScope sPick) .none kV12 dc12 pm12 an12 cd12 ct12), sl12⟩)
    (c12 : PySem.W.codeIn K cd12 "_law_pick" = true) (k12 : PySem.W.keepIn K (.ref f__law_pick) = true)
    {od13 an13 : Option Addr} {sl13 : Array (Option Value)} {oc13 kV13 dc13 pm13 cd13 ct13 : Value}
    (a13 : PySem.W.nsIn K mainGlobals "_law_power" = some (some (.ref f__law_power)))
    (l13 : K.lookup f__law_power = some ⟨oc13, od13, .func (PySem.W.fnOf "_law_power" "_law_power" (defArgs sPow) (defBody sPow) (defScope sPow) .none kV13 dc13 pm13 an13 cd13 ct13), sl13⟩)
    (c13 : PySem.W.codeIn K cd13 "_law_power" = true) (k13 : PySem.W.keepIn K (.ref f__law_power) = true)
    {od14 an14 : Option Addr} {sl14 : Array (Option Value)} {oc14 kV14 dc14 pm14 cd14 ct14 : Value}
    (a14 : PySem.W.nsIn K mainGlobals "_law_limit" = some (some (.ref f__law_limit)))
    (l14 : K.lookup f__law_limit = some ⟨oc14, od14, .func (PySem.W.fnOf "_law_limit" "_law_limit" (defArgs sLimit) (defBody sLimit) (defScope sLimit) .none kV14 dc14 pm14 an14 cd14 ct14), sl14⟩)
    (c14 : PySem.W.codeIn K cd14 "_law_limit" = true) (k14 : PySem.W.keepIn K (.ref f__law_limit) = true)
    {od15 an15 : Option Addr} {sl15 : Array (Option Value)} {oc15 kV15 dc15 pm15 cd15 ct15 : Value}
    (a15 : PySem.W.nsIn K mainGlobals "_law_met" = some (some (.ref f__law_met)))
    (l15 : K.lookup f__law_met = some ⟨oc15, od15, .func (PySem.W.fnOf "_law_met" "_law_met" (defArgs sMet) (defBody sMet) (defScope sMet) .none kV15 dc15 pm15 an15 cd15 ct15), sl15⟩)
    (c15 : PySem.W.codeIn K cd15 "_law_met" = true) (k15 : PySem.W.keepIn K (.ref f__law_met) = true)
    {od16 an16 : Option Addr} {sl16 : Array (Option Value)} {oc16 kV16 dc16 pm16 cd16 ct16 : Value}
    (a16 : PySem.W.nsIn K mainGlobals "_law_right" = some (some (.ref f__law_right)))
    (l16 : K.lookup f__law_right = some ⟨oc16, od16, .func (PySem.W.fnOf "_law_right" "_law_right" (defArgs sRight) (defBody sRight) (defScope sRight) .none kV16 dc16 pm16 an16 cd16 ct16), sl16⟩)
    (c16 : PySem.W.codeIn K cd16 "_law_right" = true) (k16 : PySem.W.keepIn K (.ref f__law_right) = true)
    {od17 an17 : Option Addr} {sl17 : Array (Option Value)} {oc17 kV17 dc17 pm17 ct17 : Value}
    (a17 : PySem.W.nsIn K mainGlobals "_law_errors_right" = some (some (.ref f__law_errors_right)))
    (l17 : K.lookup f__law_errors_right = some ⟨oc17, od17, .func (PySem.W.fnOf "_law_errors_right" "_law_errors_right" (defArgs sErr) (defBody sErr) (defScope sErr) .none kV17 dc17 pm17 an17 (.ref c) ct17), sl17⟩)
    (c17 : PySem.W.codeIn K (.ref c) "_law_errors_right" = true) (k17 : PySem.W.keepIn K (.ref f__law_errors_right) = true)
    {od18 an18 : Option Addr} {sl18 : Array (Option Value)} {oc18 kV18 dc18 pm18 cd18 ct18 : Value}
    (a18 : PySem.W.nsIn K mainGlobals "law" = some (some (.ref f_law)))
    (l18 : K.lookup f_law = some ⟨oc18, od18, .func (PySem.W.fnOf "law" "law" (defArgs sLaw) (defBody sLaw) (defScope sLaw) .none kV18 dc18 pm18 an18 cd18 ct18), sl18⟩)
    (c18 : PySem.W.codeIn K cd18 "law" = true) (k18 : PySem.W.keepIn K (.ref f_law) = true)
    (z_isinstance : PySem.W.nsIn K mainGlobals "isinstance" = some none)
    (z_int : PySem.W.nsIn K mainGlobals "int" = some none)
    (z_bool : PySem.W.nsIn K mainGlobals "bool" = some none)
    (z_len : PySem.W.nsIn K mainGlobals "len" = some none)
    (z_max : PySem.W.nsIn K mainGlobals "max" = some none)
    (z_min : PySem.W.nsIn K mainGlobals "min" = some none)
    (z_abs : PySem.W.nsIn K mainGlobals "abs" = some none)
    (z_range : PySem.W.nsIn K mainGlobals "range" = some none)
    (z_repr : PySem.W.nsIn K mainGlobals "repr" = some none)
    (z_reversed : PySem.W.nsIn K mainGlobals "reversed" = some none)
    (z_tuple : PySem.W.nsIn K mainGlobals "tuple" = some none)
    (z_all : PySem.W.nsIn K mainGlobals "all" = some none)
    (z_sum : PySem.W.nsIn K mainGlobals "sum" = some none)
    (z_enumerate : PySem.W.nsIn K mainGlobals "enumerate" = some none)
    {t_BOUND : Tok} (y_BOUND : PySem.W.nsIn K mainGlobals "_BOUND" = some (some (.int BND t_BOUND)))
    {t_LIMIT : Tok} (y_LIMIT : PySem.W.nsIn K mainGlobals "_LIMIT" = some (some (.int 1000 t_LIMIT)))
    {nm qn : Str} {Nn : Addr} {bs : List Value} {sn : List Str} {sub : List Value} {ab : Bool} {col : Option Bool} {dd : Option Addr} {m0 m1 m2 m3 m5 : Option Value}
    {odc : Option Addr} {vsc : Array Value} {slc : Array (Option Value)} {odI anI : Option Addr} {slI : Array (Option Value)} {ocI dcI pmI cdI ctI : Value}
    (xCN : PySem.W.nsIn K mainGlobals "InvalidNumber" = some (some (.ref CN)))
    (xL : K.lookup CN = some (excClassObj nm qn CN Nn bs [.type "IndexError", .type "LookupError", .type "Exception", .type "BaseException", .type "object"] true sn sub ab col dd m0 m1 m2 m3 m5 "IndexError.__new__"))
    (xsa : PySem.W.findIn K (.ref CN) "__setattr__" = some (some (.builtin "object.__setattr__")))
    (xga : PySem.W.findIn K (.ref CN) "__getattribute__" = some (some (.builtin "BaseException.__getattribute__")))
    (xgg : PySem.W.findIn K (.ref CN) "__getattr__" = some none)
    (xnb : PySem.W.findIn K (.ref CN) "value" = some none)
    (xi : PySem.W.findIn K (.ref CN) "__init__" = some (some (.ref fI)))
    (xt : PySem.W.typeIn K (.ref fI) = some (.type "function"))
    (xil : K.lookup fI = some ⟨ocI, odI, .func (PySem.W.fnOf "__init__" "InvalidNumber.__init__" (defArgs sInit) (defBody sInit) (defScope sInit) .none .none dcI pmI anI cdI ctI), slI⟩)
    (xic : PySem.W.codeIn K cdI "InvalidNumber.__init__" = true)
    (xk : PySem.W.keepIn K (.ref CN) = true)
    (xe : PySem.W.subIn K (.ref CN) (.type "BaseException") = some true)
    (xty : PySem.W.typeIn K (.ref CN) = some (.type "type"))
    (xh : PySem.W.hasDictIn K CN = true)
    (xss : PySem.W.subIn K (.ref CN) (.ref CN) = some true)
    (oCO : PySem.W.nsIn K mainGlobals "InvalidOperation" = some (some (.ref CO)))
    (ox : PySem.W.excIn K CO [.type "ValueError", .type "Exception", .type "BaseException", .type "object"] "ValueError.__new__" = true)
    (ok : PySem.W.keepIn K (.ref CO) = true)
    (ob : PySem.W.subIn K (.ref CO) (.type "BaseException") = some true)
    (ot : PySem.W.typeIn K (.ref CO) = some (.type "type"))
    (oh : PySem.W.hasDictIn K CO = true)
    (oon : PySem.W.subIn K (.ref CO) (.ref CN) = some false)
    (ooo : PySem.W.subIn K (.ref CO) (.ref CO) = some true)
    (qL : K.lookup c = some ⟨.type "code", odc, .fields vsc, slc⟩)
    (qT : vsc[11]? = some (.ref HK))
    (qC : PySem.W.codeHdIn K c HK = true)
    (qN : K.lookup HK = none)
    (qB : h.get? HK = some { cls := .none, data := .fields #[] })
    : LawT l w K L2.CX0 8 63 "script" mg fa h := by
  have e := hfa.symm.trans (PySem.W.mg_of X G a18)
  cases e
  have F_is_integer := fun_mk (st := sInteger) l0 c0 k0
  have b_is_integer := F_is_integer.binds (ps := ["value"]) fun _ _ _ _ _ _ us hl => match us, hl with | [_], _ => rfl
  have g_is_integer := PySem.W.mg_of X G a0
  have F_is_count := fun_mk (st := sCount) l1 c1 k1
  have b_is_count := F_is_count.binds (ps := ["value"]) fun _ _ _ _ _ _ us hl => match us, hl with | [_], _ => rfl
  have g_is_count := PySem.W.mg_of X G a1
  have F_is_within := fun_mk (st := sWithin) l2 c2 k2
  have b_is_within := F_is_within.binds (ps := ["value", "least", "most"]) fun _ _ _ _ _ _ us hl => match us, hl with | [_, _, _], _ => rfl
  have g_is_within := PySem.W.mg_of X G a2
  have F_power := fun_mk (st := sPower) l3 c3 k3
  have b_power := F_power.binds (ps := ["base", "exponent"]) fun _ _ _ _ _ _ us hl => match us, hl with | [_, _], _ => rfl
  have g_power := PySem.W.mg_of X G a3
  have F_raised := fun_mk (st := sRaised) l4 c4 k4
  have b_raised := F_raised.binds (ps := ["base", "exponent"]) fun _ _ _ _ _ _ us hl => match us, hl with | [_, _], _ => rfl
  have g_raised := PySem.W.mg_of X G a4
  have F_exponent_of := fun_mk (st := sExp) l5 c5 k5
  have b_exponent_of := F_exponent_of.binds (ps := ["base", "number"]) fun _ _ _ _ _ _ us hl => match us, hl with | [_, _], _ => rfl
  have g_exponent_of := PySem.W.mg_of X G a5
  have F_figures_of := fun_mk (st := sFig) l6 c6 k6
  have b_figures_of := F_figures_of.binds (ps := ["base", "length", "number"]) fun _ _ _ _ _ _ us hl => match us, hl with | [_, _, _], _ => rfl
  have g_figures_of := PySem.W.mg_of X G a6
  have F_number_of := fun_mk (st := sNum) l7 c7 k7
  have b_number_of := F_number_of.binds (ps := ["base", "figures"]) fun _ _ _ _ _ _ us hl => match us, hl with | [_, _], _ => rfl
  have g_number_of := PySem.W.mg_of X G a7
  have F__check_base := fun_mk (st := sBase) l8 c8 k8
  have b__check_base := F__check_base.binds (ps := ["base"]) fun _ _ _ _ _ _ us hl => match us, hl with | [_], _ => rfl
  have g__check_base := PySem.W.mg_of X G a8
  have F__are_figures := fun_mk (st := sAre) l9 c9 k9
  have b__are_figures := F__are_figures.binds (ps := ["base", "figures"]) fun _ _ _ _ _ _ us hl => match us, hl with | [_, _], _ => rfl
  have g__are_figures := PySem.W.mg_of X G a9
  have F__law_dice := fun_mk (st := sDice) l10 c10 k10
  have b__law_dice := F__law_dice.binds (ps := ["script", "spot"]) fun _ _ _ _ _ _ us hl => match us, hl with | [_, _], _ => rfl
  have g__law_dice := PySem.W.mg_of X G a10
  have F__law_roll := fun_mk (st := sRoll) l11 c11 k11
  have b__law_roll := F__law_roll.binds (ps := ["dice", "total"]) fun _ _ _ _ _ _ us hl => match us, hl with | [_, _], _ => rfl
  have g__law_roll := PySem.W.mg_of X G a11
  have F__law_pick := fun_mk (st := sPick) l12 c12 k12
  have b__law_pick := F__law_pick.binds (ps := ["dice", "items"]) fun _ _ _ _ _ _ us hl => match us, hl with | [_, _], _ => rfl
  have g__law_pick := PySem.W.mg_of X G a12
  have F__law_power := fun_mk (st := sPow) l13 c13 k13
  have b__law_power := F__law_power.binds (ps := ["base", "number"]) fun _ _ _ _ _ _ us hl => match us, hl with | [_, _], _ => rfl
  have g__law_power := PySem.W.mg_of X G a13
  have F__law_limit := fun_mk (st := sLimit) l14 c14 k14
  have b__law_limit := F__law_limit.binds (ps := []) fun _ _ _ _ _ _ us hl => match us, hl with | [], _ => rfl
  have g__law_limit := PySem.W.mg_of X G a14
  have F__law_met := fun_mk (st := sMet) l15 c15 k15
  have b__law_met := F__law_met.binds (ps := ["call"]) fun _ _ _ _ _ _ us hl => match us, hl with | [_], _ => rfl
  have g__law_met := PySem.W.mg_of X G a15
  have F__law_right := fun_mk (st := sRight) l16 c16 k16
  have b__law_right := F__law_right.binds (ps := ["dice", "base"]) fun _ _ _ _ _ _ us hl => match us, hl with | [_, _], _ => rfl
  have g__law_right := PySem.W.mg_of X G a16
  have F__law_errors_right := fun_mk (st := sErr) l17 c17 k17
  have b__law_errors_right := F__law_errors_right.binds (ps := ["dice"]) fun _ _ _ _ _ _ us hl => match us, hl with | [_], _ => rfl
  have g__law_errors_right := PySem.W.mg_of X G a17
  have F_law := fun_mk (st := sLaw) l18 c18 k18
  have m_isinstance := PySem.W.mg_none_of X G z_isinstance
  have m_int := PySem.W.mg_none_of X G z_int
  have m_bool := PySem.W.mg_none_of X G z_bool
  have m_len := PySem.W.mg_none_of X G z_len
  have m_max := PySem.W.mg_none_of X G z_max
  have m_min := PySem.W.mg_none_of X G z_min
  have m_abs := PySem.W.mg_none_of X G z_abs
  have m_range := PySem.W.mg_none_of X G z_range
  have m_repr := PySem.W.mg_none_of X G z_repr
  have m_reversed := PySem.W.mg_none_of X G z_reversed
  have m_tuple := PySem.W.mg_none_of X G z_tuple
  have m_all := PySem.W.mg_none_of X G z_all
  have m_sum := PySem.W.mg_none_of X G z_sum
  have m_enumerate := PySem.W.mg_none_of X G z_enumerate
  have m_BOUND := PySem.W.mg_of X G y_BOUND
  have m_LIMIT := PySem.W.mg_of X G y_LIMIT
  have gO := PySem.W.mg_of X G oCO
  have T : XN K mg CN fI := { gC := PySem.W.mg_of X G xCN, cls := ⟨nm, qn, Nn, bs, _, sn, sub, ab, col, dd, m0, m1, m2, m3, m5, xL, by decide +kernel⟩, sa := xsa, ga := xga, gg := xgg, noN := xnb, iC := xi, tC := xt, kC := xk, exC := xe, tyC := xty, hdC := xh, te := PySem.W.exm_ref xe xh xty xss }
  have init := init_ok T xil xic
  refine ⟨PySem.W.fnOf "law" "law" (defArgs sLaw) (defBody sLaw) (defScope sLaw) .none kV18 dc18 pm18 an18 cd18 ct18, [(c, HK)], spLaw K HK, ?_, ?_, ?_, fun s v => .of_eq rfl, ?_, fun base _ _ TBs => ?_⟩
  · intro p hp
    cases List.mem_singleton.mp hp
    exact qB
  · intro p hp
    cases List.mem_singleton.mp hp
    exact qN
  · intro p hp
    cases List.mem_singleton.mp hp
    exact PySem.W.codeHd_of_K X qC
  · exact fun H a ns hl hH hS => ⟨a, ns, rfl, hS, hl, hH _ List.mem_cons_self, fun _ => rfl⟩
  have TB := TBs _ List.mem_cons_self
  have GD : FnOk l.prog w K mg base CX0 1 _ _ ["script", "spot"] (spDice K) := ok_dice F__law_dice m_len m_int m_max m_abs
  have GR : FnOk l.prog w K mg base CX0 1 _ _ ["dice", "total"] spRoll := ok_roll F__law_roll m_int
  have GK : FnOk l.prog w K mg base CX0 2 _ _ ["dice", "items"] (spPick K) := ok_pick F__law_pick F__law_roll b__law_roll g__law_roll m_len m_int
  have GL : FnOk l.prog w K mg base CX0 1 _ _ [] spLimit := ok_limit F__law_limit
  have GI : FnOk l.prog w K mg base CX0 1 _ _ ["value"] (spInteger K) := ok_integer F_is_integer m_int m_bool m_isinstance m_BOUND
  have GC : FnOk l.prog w K mg base CX0 2 _ _ ["value"] (spCount K) := ok_count F_is_count b_is_integer GI g_is_integer F_is_integer.kp
  have GW : FnOk l.prog w K mg base CX0 2 _ _ ["value", "least", "most"] (spWithin K) := ok_within F_is_within b_is_integer GI g_is_integer F_is_integer.kp
  have GB : FnOk l.prog w K mg base (L2.CX l.prog w) 2 _ _ ["base"] (spBase K CN) := ok_base F__check_base b_is_integer GI g_is_integer F_is_integer.kp T init
  have GRa : FnOk l.prog w K mg base CX0 1 _ _ ["base", "exponent"] spRaised := ok_raised F_raised m_reversed m_range
  have GP := ok_power F_power b__check_base b_is_within b_raised GB GW GRa g__check_base g_is_within g_raised F__check_base.kp F_is_within.kp F_raised.kp m_LIMIT T init
  have GE := ok_exp F_exponent_of b__check_base b_is_integer GB GI g__check_base g_is_integer F__check_base.kp F_is_integer.kp m_LIMIT m_range T init
  have GF := ok_fig F_figures_of b__check_base b_is_within b_is_count GB GW GC g__check_base g_is_within g_is_count F__check_base.kp F_is_within.kp F_is_count.kp m_LIMIT m_range m_tuple T init
  have GA : FnOk l.prog w K mg base CX0 3 _ _ ["base", "figures"] (spAre K) := ok_are F__are_figures b_is_within GW g_is_within F_is_within.kp m_LIMIT m_isinstance m_tuple m_len m_all
  have GN := ok_num (fE := fI) F_number_of b__check_base b__are_figures GB GA g__check_base g__are_figures F__check_base.kp F__are_figures.kp ox gO ok ob ot
  have GPow : FnOk l.prog w K mg base CX0 1 _ _ ["base", "number"] spPow := ok_pow F__law_power m_range
  have GX := ok_err l17 c17 TB F__law_met b__law_met b__law_pick b__law_limit b_power b_exponent_of b_figures_of b_number_of GK GL GP GE GF GN g__law_met g__law_pick g__law_limit g_power g_exponent_of g_figures_of g_number_of
    F__law_pick.kp F__law_limit.kp F_power.kp F_exponent_of.kp F_figures_of.kp F_number_of.kp m_repr T gO (PySem.W.exm_ref xe xh xty oon) (PySem.W.exm_ref ob oh ot ooo)
  have GRi := ok_right F__law_right b__law_roll b__law_power b_power b_exponent_of b_figures_of b_number_of GR GPow GP GE GF GN g__law_roll g__law_power g_power g_exponent_of g_figures_of g_number_of
    F__law_roll.kp F__law_power.kp F_power.kp F_exponent_of.kp F_figures_of.kp F_number_of.kp m_repr m_range m_tuple m_min m_sum m_enumerate m_len
  exact ok_law F_law b__law_dice b__law_roll b__law_pick b__law_right b__law_errors_right b_power b_exponent_of b_figures_of b_number_of GD GR GK GRi GX GP GE GF GN g__law_dice g__law_roll g__law_pick g__law_right g__law_errors_right
    g_power g_exponent_of g_figures_of g_number_of F__law_dice.kp F__law_roll.kp F__law_pick.kp F__law_right.kp F__law_errors_right.kp F_power.kp F_exponent_of.kp F_figures_of.kp F_number_of.kp m_range m_max m_min m_len
end K02

set_option maxHeartbeats 4000000
open PySem PySem.W PyProof.Rows
set_option maxHeartbeats 0 in
theorem PySem.Challenge.cw_onebetween_k02_whole_powers_and_figures_holds : PySem.Challenge.rw_onebetween_k02_whole_powers_and_figures.Holds := by
  w_on; o_law; k_head; (case hw => w_witness2)
  k_fill
  refine GG.walkT (l := PySem.Challenge.rw_onebetween_k02_whole_powers_and_figures) (n := 63) (k := 8) (x := "script") (CX := fun _ => L2.CX0) rfl (by decide) rfl ⟨rfl, by decide, by decide⟩ (fun w h Y => PySem.W.km_in_of Y) ?F (fun _ _ _ _ _ h => h)
  case F =>
    intro w mg fa h Y KX G hmg
    refine' K02.all_mk KX G hmg ?a0 ?l0 ?c0 ?k0 ?a1 ?l1 ?c1 ?k1 ?a2 ?l2 ?c2 ?k2 ?a3 ?l3 ?c3 ?k3 ?a4 ?l4 ?c4 ?k4 ?a5 ?l5 ?c5 ?k5 ?a6 ?l6 ?c6 ?k6 ?a7 ?l7 ?c7 ?k7 ?a8 ?l8 ?c8 ?k8 ?a9 ?l9 ?c9 ?k9 ?a10 ?l10 ?c10 ?k10 ?a11 ?l11 ?c11 ?k11 ?a12 ?l12 ?c12 ?k12 ?a13 ?l13 ?c13 ?k13 ?a14 ?l14 ?c14 ?k14 ?a15 ?l15 ?c15 ?k15 ?a16 ?l16 ?c16 ?k16 ?a17 ?l17 ?c17 ?k17 ?a18 ?l18 ?c18 ?k18 ?z_isinstance ?z_int ?z_bool ?z_len ?z_max ?z_min ?z_abs ?z_range ?z_repr ?z_reversed ?z_tuple ?z_all ?z_sum ?z_enumerate ?y_BOUND ?y_LIMIT ?xCN ?xL ?xsa ?xga ?xgg ?xnb ?xi ?xt ?xil ?xic ?xk ?xe ?xty ?xh ?xss ?oCO ?ox ?ok ?ob ?ot ?oh ?oon ?ooo ?qL ?qT ?qC ?qN ?qB
    (case a0 => k_is); (case l0 => k_is); (case c0 => k_is); (case k0 => k_is); (case a1 => k_is); (case l1 => k_is); (case c1 => k_is); (case k1 => k_is); (case a2 => k_is); (case l2 => k_is); (case c2 => k_is); (case k2 => k_is); (case a3 => k_is); (case l3 => k_is); (case c3 => k_is); (case k3 => k_is); (case a4 => k_is); (case l4 => k_is); (case c4 => k_is); (case k4 => k_is); (case a5 => k_is); (case l5 => k_is); (case c5 => k_is); (case k5 => k_is); (case a6 => k_is); (case l6 => k_is); (case c6 => k_is); (case k6 => k_is); (case a7 => k_is); (case l7 => k_is); (case c7 => k_is); (case k7 => k_is); (case a8 => k_is); (case l8 => k_is); (case c8 => k_is); (case k8 => k_is); (case a9 => k_is); (case l9 => k_is); (case c9 => k_is); (case k9 => k_is); (case a10 => k_is); (case l10 => k_is); (case c10 => k_is); (case k10 => k_is); (case a11 => k_is); (case l11 => k_is); (case c11 => k_is); (case k11 => k_is); (case a12 => k_is); (case l12 => k_is); (case c12 => k_is); (case k12 => k_is); (case a13 => k_is); (case l13 => k_is); (case c13 => k_is); (case k13 => k_is); (case a14 => k_is); (case l14 => k_is); (case c14 => k_is); (case k14 => k_is); (case a15 => k_is); (case l15 => k_is); (case c15 => k_is); (case k15 => k_is); (case a16 => k_is); (case l16 => k_is); (case c16 => k_is); (case k16 => k_is); (case a17 => k_is); (case l17 => k_is); (case c17 => k_is); (case k17 => k_is); (case a18 => k_is); (case l18 => k_is); (case c18 => k_is); (case k18 => k_is); (case z_isinstance => k_is); (case z_int => k_is); (case z_bool => k_is); (case z_len => k_is); (case z_max => k_is); (case z_min => k_is); (case z_abs => k_is); (case z_range => k_is); (case z_repr => k_is); (case z_reversed => k_is); (case z_tuple => k_is); (case z_all => k_is); (case z_sum => k_is); (case z_enumerate => k_is); (case y_BOUND => k_is); (case y_LIMIT => k_is); (case xCN => k_is); (case xL => k_is); (case xsa => k_is); (case xga => k_is); (case xgg => k_is); (case xnb => k_is); (case xi => k_is); (case xt => k_is); (case xil => k_is); (case xic => k_is); (case xk => k_is); (case xe => k_is); (case xty => k_is); (case xh => k_is); (case xss => k_is); (case oCO => k_is); (case ox => k_exc); (case ok => k_is); (case ob => k_is); (case ot => k_is); (case oh => k_is); (case oon => k_is); (case ooo => k_is); (case qL => k_is); (case qT => rfl); (case qC => kernel_rfl); (case qN => first | k_is | kernel_rfl)
    (case qB => exact PySem.W.km_tabs_of Y _ (by k_mem))
