import PyProof.Rows.All
import Wide.All
import OpenK.AllK
import Wide.FinOn
import HandS.ForMost
import HandS.IsInst
import HandS.Wide
import PyProof.ReprRoads
import HandS.ForExc
import HandS.TryMany
import HandS.ExcField
import KE.KExcInit
import PyProof.ExcBaseAll.LookupError
import HandS.ExcIs
import HandS.ExcValue
import HandS.Lambda
import HandS.EndTab
import KE.GoesEnum
import HandS.Iter
import HandS.Walk
import HandS.RevRange
import HandS.WideBits
import HandS.Style
import HandS.TupMul
import HandS.Conv
import PyProof.StrOps2
import HandS.HotCalls
import PyProof.ReprLen
import PyProof.InstStoreFacts
import PyProof.ExcBaseAll.RuntimeError
import PyProof.ExcBaseAll.OverflowError
import PyProof.ExcBaseAll.ArithmeticError
import PyProof.ExcBaseAll.IndexError
import PySem.Challenge.RW_onebetween_k01_errors_and_what_they_keep
set_option Elab.async false
set_option linter.all false
set_option maxRecDepth 100000
set_option maxHeartbeats 4000000
namespace GG
open PySem PySem.Spec PyProof.Rows L2

/-! ### promises that are kept where no repr is under way -/
structure FnG (P : Program) (w : World) (K : PySem.W.Frag) (mg : Str → Option Value) (base : Heap) (CX : CXT) (k : Nat)
    (f : Addr) (fd : FuncData) (ps : List Str) (sp : Sp) : Prop where
  lens : ∀ vs H Q E, sp vs H Q E → vs.length = ps.length
  go : ∀ (A : Around) (outer : List Env) (s : Shared) (H : Hp) (ar : Args) (us : List Value) (vs : List V) (Q : VK) (E : XK),
    A.guards = some [] → Room k A → Env0 P w K mg base A outer s H → BindsTo s fd ar (ps.zip us) → Vals vs us →
    sp vs H Q E → codeAny (model P w) A (.call (.ref f) ar) (CR CX outer P w H s Q E) s

section
variable {P : Program} {w : World} {K : PySem.W.Frag} {mg : Str → Option Value} {base : Heap} {CX : CXT} {k : Nat}
  {f : Addr} {fd : FuncData} {ps : List Str} {sp : Sp}
theorem FnG.ofOk (F : FnOk P w K mg base CX k f fd ps sp) : FnG P w K mg base CX k f fd ps sp :=
  ⟨F.len, fun A o s H ar us vs Q E _ hr => F.run A o s H ar us vs Q E hr⟩

theorem fnG_lk {x qual : Str} {st : Stmt} {N : List Str} {oc : Value} {od an : Option Addr} {osl : Array (Option Value)} {kV doc pm cdv ct : Value}
    (lk : K.lookup f = some ⟨oc, od, .func (PySem.W.fnOf x qual (defArgs st) (defBody st) (defScope st) .none kV doc pm an cdv ct), osl⟩)
    (hcd : PySem.W.codeIn K cdv qual = true) (S : FnScope N ps (defScope st))
    (lens : ∀ vs H Q E, sp vs H Q E → vs.length = ps.length)
    (hb : ∀ (A : Around) (outer : List Env) (s : Shared) (H : Hp) (vs : List V) (Q : VK) (E : XK),
      (A.deeper (envOfC qual (defScope st) s.heap.objs.size f cdv)).guards = some [] →
      Room k (A.deeper (envOfC qual (defScope st) s.heap.objs.size f cdv)) → sp vs H Q E →
      ∃ t, PSs (cxOf CX P w K mg base N qual (defScope st) f cdv A outer s H E) (defBody st) t ∧
        t { nx := fun _ H' => Q .non H', rt := Q } (start N vs) H) :
    FnG P w K mg base CX (k + 1) f (PySem.W.fnOf x qual (defArgs st) (defBody st) (defScope st) .none kV doc pm an cdv ct) ps sp := by
  refine ⟨lens, ?_⟩
  intro A outer s H ar us vs Q E gA room en bd vl hs
  have inK : K.In s.heap := en.mod.kin.keeps (fun b o z => (en.bs b o z).left)
  have noL : s.heap.NoLimit := en.mod.nolimit.keeps (fun b o z => (en.bs b o z).left)
  have kinds : ∀ y ∈ ps.zip us, (defScope st).names.lookup y.1 = some .local ∨
      ((defScope st).names.lookup y.1 = some .cell ∧
        ((cellsFrom (s.heap.objs.size + 1) (defScope st).names []).lookup y.1).isSome = true) := by
    intro ⟨n, v⟩ hy
    cases S.par n (List.of_mem_zip hy).left with
    | inl q => exact Or.inl q
    | inr q => exact Or.inr ⟨q, PySem.W.cellsFrom_some _ _ _ (Or.inl q)⟩
  refine codeAny_call_function room.depth (inK _ _ lk) rfl S.co S.gen rfl
    (PySem.W.codeRec_of inK hcd) (bd _ _ _ _ ?_)
  refine wpAny_newFunctionEnv_cells S.kind kinds (fun env he s1 ic => ?_)
  subst he
  refine ⟨noL.keeps ic.toInCall.keep, codeAny_func ?_⟩
  obtain ⟨t, ht, hq⟩ := hb A outer s H vs Q E gA (room.deeper _) hs
  have J := inv_start (CX := CX) (P := P) (E := E) S room.hd en (lens _ _ _ _ hs) vl ic
  refine wpAny_mono (ht.run [] s1 (start N vs) H _ J hq) (fun fl s2 ends => ?_) (fun _ _ z => z)
  cases fl with
  | next =>
    obtain ⟨σ2, H2, I2, q2⟩ := ends
    exact ⟨V.non, H2, I2.os, I2.bare, I2.base, I2.hok, rfl, q2⟩
  | ret u =>
    obtain ⟨v, σ2, H2, I2, rv, q2⟩ := ends
    exact ⟨v, H2, I2.os, I2.bare, I2.base, I2.hok, rv, q2⟩
  | brk => exact ends.elim (fun _ z => z.elim (fun _ z => z.right.elim))
  | cont => exact ends.elim (fun _ z => z.elim (fun _ z => z.right.elim))
theorem fnG_of {x qual : Str} {st : Stmt} {N : List Str} (F : Fun K x qual st f fd) (S : FnScope N ps (defScope st))
    (lens : ∀ vs H Q E, sp vs H Q E → vs.length = ps.length)
    (hb : ∀ (cdv : Value) (A : Around) (outer : List Env) (s : Shared) (H : Hp) (vs : List V) (Q : VK) (E : XK),
      (A.deeper (envOfC qual (defScope st) s.heap.objs.size f cdv)).guards = some [] →
      Room k (A.deeper (envOfC qual (defScope st) s.heap.objs.size f cdv)) → sp vs H Q E →
      ∃ t, PSs (cxOf CX P w K mg base N qual (defScope st) f cdv A outer s H E) (defBody st) t ∧
        t { nx := fun _ H' => Q .non H', rt := Q } (start N vs) H) :
    FnG P w K mg base CX (k + 1) f fd ps sp := by
  obtain ⟨oc, od, kV, doc, pm, an, cdv, ct, osl, rfl, lk, hcd⟩ := F.ex
  exact fnG_lk lk hcd S lens (hb cdv)
/-- .. of a def that lets no exception out -/
theorem fnG0 {x qual : Str} {st : Stmt} {N : List Str} (F : Fun K x qual st f fd) (S : FnScope N ps (defScope st))
    (lens : ∀ vs H Q E, sp vs H Q E → vs.length = ps.length)
    (hb : ∀ (cdv : Value) (A : Around) (outer : List Env) (s : Shared) (H : Hp) (vs : List V) (Q : VK) (E : XK),
      (A.deeper (envOfC qual (defScope st) s.heap.objs.size f cdv)).guards = some [] →
      Room k (A.deeper (envOfC qual (defScope st) s.heap.objs.size f cdv)) → sp vs H Q E →
      ∃ t, PSs (cxOf CX0 P w K mg base N qual (defScope st) f cdv A outer s H E).nox (defBody st) t ∧
        t { nx := fun _ H' => Q .non H', rt := Q } (start N vs) H) :
    FnG P w K mg base CX0 (k + 1) f fd ps sp :=
  fnG_of F S lens (fun cdv A outer s H vs Q E g r h => (hb cdv A outer s H vs Q E g r h).imp (fun _ z => ⟨z.left.nox, z.right⟩))
end

section
variable {X : Cx} {CX : CXT} {k : Nat} {f : Addr} {fd : FuncData} {ps : List Str} {sp : Sp} {dvs : List V} {ds : List Value}
  {E : XK} {x : Str} {p pos : Pos} {e : Expr} {es : List Expr} {t : TA}
theorem runG {pins : List (Addr × Obj)} {σ : L2.St} {H : Hp} {s : Shared} {Q : VK} {us : List Value} {vs : List V}
    (F : FnG X.prog X.w X.K X.mg X.base CX k f fd ps sp) (gd : X.A.guards = some []) (room : Room k X.A)
    (bd : Binds X.K fd ps ds) (dv : Vals dvs ds) (pass : Passes CX X E) (I : Inv X pins σ H s) (r : Vals vs us)
    (h : sp (vs ++ dvs) H Q E) : wpAny (model X.prog X.w) X.A (call (.ref f) us) (EP X pins σ Q) X.xe s := by
  have both : Vals (vs ++ dvs) (us ++ ds) := Vals.append r dv
  have n : (us ++ ds).length = ps.length := both.length.symm.trans (F.lens _ _ _ _ h)
  have run := F.go X.A X.stack s H ⟨us, []⟩ (us ++ ds) (vs ++ dvs) Q E gd room I.env0 (bd s us I.kIn n) both h
  refine wpAny_call (codeAny_mono run ?_)
  intro res s2 z
  cases res with
  | error ex => exact pass pins σ H s ex s2 I z
  | ok fl =>
    cases fl with
    | ret u => exact Inv.after I z
    | next => exact z.elim
    | brk => exact z.elim
    | cont => exact z.elim
/-- f(e, ..) -/
theorem pe_callG (F : FnG X.prog X.w X.K X.mg X.base CX k f fd ps sp) (gd : X.A.guards = some []) (room : Room k X.A) (hg : Gl X x)
    (hm : X.mg x = some (.ref f)) (kp : PySem.W.keepIn X.K (.ref f) = true) (bd : Binds X.K fd ps ds) (dv : Vals dvs ds)
    (pass : Passes CX X E) (ha : PA X (e :: es) t) (hdb : (x == ("__debug__" : Str)) = false := by decide)
    (he : starEach (e :: es) X.env = (false, eval e X.env) :: starEach es X.env := by rfl)
    (hpl : (backTo pos (starEach es X.env)).any (·.1) = false := by rfl) :
    PE X (.Call (.Name x p) (e :: es) [] pos) (tCall sp dvs E t) := by
  constructor
  intro pins s σ H Q I h
  apply wpAny_Call_Name_kw
  apply ld_glob I hg hm _ hdb
  apply PySem.W.callWith_K (h₀ := X.base) I.ok.mod.kin kp _ he hpl
  apply thn (ha.run pos pins s σ H _ I h)
  intro us s1 ⟨vs, H1, I1, r, q⟩
  exact ⟨I1.kIn, runG F gd room bd dv pass I1 r q⟩
/-- f() -/
theorem pe_callG0 (F : FnG X.prog X.w X.K X.mg X.base CX k f fd ps sp) (gd : X.A.guards = some []) (room : Room k X.A) (hg : Gl X x)
    (hm : X.mg x = some (.ref f)) (kp : PySem.W.keepIn X.K (.ref f) = true) (bd : Binds X.K fd ps ds) (dv : Vals dvs ds)
    (pass : Passes CX X E) (hdb : (x == ("__debug__" : Str)) = false := by decide) :
    PE X (.Call (.Name x p) [] [] pos) (tCall sp dvs E tNil) := by
  constructor
  intro pins s σ H Q I h
  apply wpAny_Call_Name_kw
  apply ld_glob I hg hm _ hdb
  exact PySem.W.callWith_K0 I.kIn kp (runG (us := []) F gd room bd dv pass I .nil h)
end
end GG

namespace GG
open PySem PySem.Spec PyProof.Rows L2
/-! ### the end of a law's row, over such a promise -/
section
variable {P : Program} {w : World} {K : PySem.W.Frag} {mg mb : Str → Option Value} {CX : CXT} {k : Nat} {fa a : Addr} {fd : FuncData}
  {x : Str} {sp : Sp} {s₁ : Shared} {vs : List Value} {ns : List Int}
/-- from a heap in which the script alone may be tracked -/
theorem law_coreG {H : Hp} (KX : K.In s₁.heap) (ng : s₁.heap.Ns mainGlobals mg) (nb : s₁.heap.Ns builtinsNs mb)
    (bb : ∀ x : Str, x ≠ "__name__" → mb x = bootBuiltins x) (lim : s₁.heap.NoLimit) (g0 : s₁.gens = #[])
    (ha : s₁.heap.get? a = some { cls := .type "list", data := .seq vs.toArray }) (room : Room k callerA)
    (F : ∀ base : Heap, K.In base → base.Ns mainGlobals mg → FnG P w K mg base CX k fa fd [x] sp)
    (bind : ∀ (s : Shared) (u : Value), BindsTo s fd ⟨[u], []⟩ [(x, u)])
    (want : sp [.ref a] H (fun v _ => v = .bl true) fun _ _ _ => False)
    (noX : ∀ H e s', CX [] H s₁ (fun _ _ _ => False) e s' → False)
    (only : Only H) (ok : HOk P w H s₁.heap) (at_a : ∀ b, H b ≠ none → b = a) (notK : H a ≠ none → K.lookup a = none) :
    codeAny (model P w) callerA (.call (.ref fa) ⟨[.ref a], []⟩)
      (fun r s' => r = .ok (.ret (.bool true)) ∧ OldK s₁.heap s'.heap ∧ s'.os = s₁.os ∧ AllBare s'.gens) s₁ := by
  have dictFree : ∀ {b : Addr} {o : Obj} {es : Array DictEntry} {ep : Nat},
      s₁.heap.get? b = some o → o.data = .dict es ep → H b = none := by
    intro b o es ep e d
    rcases hq : H b with _ | u
    · rfl
    · have ba := at_a b (fun z => by rw [z] at hq; cases hq)
      rw [ba, ha] at e
      cases e
      cases (show Data.seq vs.toArray _ = Data.dict es ep from d)
  have ns : ∀ {b : Addr} {m : Str → Option Value}, s₁.heap.Ns b m → (hidT s₁.heap H).Ns b m := by
    rintro b m ⟨o, es, ep, e, d, r⟩
    exact ⟨o, es, ep, hidT_get e (dictFree e d), d, r⟩
  have KB : K.In (hidT s₁.heap H) := by
    intro b o e
    refine hidT_get (KX b o e) ?_
    rcases hq : H b with _ | u
    · rfl
    · have ba := at_a b (fun z => by rw [z] at hq; cases hq)
      rw [ba] at hq e
      rw [notK (fun z => by rw [z] at hq; cases hq)] at e
      cases e
  have en : Env0 P w K mg (hidT s₁.heap H) callerA [] s₁ H := by
    refine ⟨rfl, ⟨KB, ns ng, ⟨mb, ns nb, bb⟩, ?_⟩, fun b o e => of_hidT e, Nat.le_of_eq (hidT_size _ _), trivial, ?_, ok, .of_eq g0⟩
    · obtain ⟨mc, h1, h2⟩ := lim
      exact ⟨mc, ns h1, h2⟩
    · intro b z
      cases (show b ∈ ([] : List Addr) from z)
  refine codeAny_mono ((F _ KB (ns ng)).go callerA [] s₁ H ⟨[.ref a], []⟩ [.ref a] [.ref a] _ _ rfl room en
    (bind s₁ (.ref a)) (.cons rfl .nil) want) ?_
  intro r s' z
  cases r with
  | error e => exact (noX H e s' z).elim
  | ok fl =>
    cases fl with
    | next => exact z.elim
    | brk => exact z.elim
    | cont => exact z.elim
    | ret u =>
      obtain ⟨v, H', os, bare, un, ok', rv, q⟩ := z
      cases (show v = .bl true from q)
      cases (show u = Value.bool true from rv)
      refine ⟨rfl, OldK.of_keep ?_, os, bare⟩
      intro b o e
      rcases only b with hq | ⟨ob, xs, hq⟩
      · exact un.keep b o e hq (fun z => by cases (show b ∈ ([] : List Addr) from z)) (fun z => by cases z)
      · have f1 := (ok b _ hq).left
        have f2 := (ok' b _ (un.frzs b ob _ hq)).left
        rw [e] at f1
        cases f1
        exact f2
theorem law_callG (KX : K.In s₁.heap) (ng : s₁.heap.Ns mainGlobals mg) (nb : s₁.heap.Ns builtinsNs mb)
    (bb : ∀ x : Str, x ≠ "__name__" → mb x = bootBuiltins x) (lim : s₁.heap.NoLimit) (g0 : s₁.gens = #[])
    (ha : s₁.heap.get? a = some { cls := .type "list", data := .seq vs.toArray }) (hi : IntsAre vs ns) (hl : ns.length ≤ sizeLine)
    (room : Room k callerA) (F : ∀ base : Heap, K.In base → base.Ns mainGlobals mg → FnG P w K mg base CX k fa fd [x] sp)
    (bind : ∀ (s : Shared) (u : Value), BindsTo s fd ⟨[u], []⟩ [(x, u)])
    (want : ∀ H : Hp, Only H → SqL K H a (ns.map V.int) → sp [.ref a] H (fun v _ => v = .bl true) fun _ _ _ => False)
    (noX : ∀ H e s', CX [] H s₁ (fun _ _ _ => False) e s' → False) :
    codeAny (model P w) callerA (.call (.ref fa) ⟨[.ref a], []⟩)
      (fun r s' => r = .ok (.ret (.bool true)) ∧ OldK s₁.heap s'.heap ∧ s'.os = s₁.os ∧ AllBare s'.gens) s₁ := by
  have vi := vals_ints hi
  rcases hk : K.lookup a with _ | o
  · have hH : ∀ b, (fun b => if b = a then some (HO.frz { cls := .type "list", data := .seq vs.toArray } (.lst (ns.map V.int))) else none : Hp) b ≠ none → b = a := by
      intro b z
      by_cases e : b = a
      · exact e
      · exact absurd (if_neg e) z
    refine law_coreG (H := fun b => if b = a then some (HO.frz { cls := .type "list", data := .seq vs.toArray } (.lst (ns.map V.int))) else none)
      KX ng nb bb lim g0 ha room F bind (want _ ?_ (.inl (.inr ⟨_, if_pos rfl⟩))) noX ?_ ?_ hH (fun _ => hk)
    all_goals first
      | (intro b
         by_cases e : b = a
         · exact .inr ⟨_, _, if_pos e⟩
         · exact .inl (if_neg e))
      | (intro b u z
         by_cases e : b = a
         · have z' := (if_pos e).symm.trans z
           cases z'
           rw [e]
           exact ⟨ha, by rw [List.length_map]; exact hl, vs, _, vi, ha⟩
         · have z' := (if_neg e).symm.trans z
           cases z')
  · have e := KX a o hk
    rw [ha] at e
    cases e
    refine law_coreG (H := fun _ => none) KX ng nb bb lim g0 ha room F bind (want _ (fun _ => .inl rfl) ?_) noX (fun _ => .inl rfl) ?_ (fun b z => absurd rfl z) (fun z => absurd rfl z)
    · exact .inr ⟨_, vs.toArray, _, hk, rfl, rfl, rfl, by rw [List.size_toArray, hi.length]; exact hl, by simpa using vi⟩
    · intro b u z
      cases (show (none : Option HO) = some u from z)
end
/-- the goal that the head leaves -/
theorem walkG {l : PySem.W.OpenLaw} {n k : Nat} {q : Program} {loose : List Str} {XP : (Str → Option Value) → Heap → Prop} {YP : World → Heap → Prop}
    {d : DefRec} {K : Params → PySem.W.Frag} {CX : World → CXT} {sp : World → Sp} {x : Str}
    (hn : l.most = some n) (hn2 : n ≤ sizeLine) (hdf : d.params.defaults = []) (room : Room k callerA)
    (hY : ∀ (w : World) (h : Heap), YP w h → (K w.params).In h)
    (F : ∀ (w : World) (mg : Str → Option Value) (fa : Addr) (h : Heap), (K w.params).In h → h.Ns mainGlobals mg → mg d.name = some (.ref fa) →
      ∃ fd : FuncData, (∀ (s : Shared) (u : Value), BindsTo s fd ⟨[u], []⟩ [(x, u)]) ∧
        ∀ base : Heap, (K w.params).In base → base.Ns mainGlobals mg → FnG l.prog w (K w.params) mg base (CX w) k fa fd [x] (sp w))
    (want : ∀ (w : World) (H : Hp) (a : Addr) (ns : List Int), ns.length ≤ n → Only H → SqL (K w.params) H a (ns.map V.int) →
      sp w [.ref a] H (fun v _ => v = .bl true) fun _ _ _ => False)
    (noX : ∀ (w : World) (H : Hp) (s : Shared) (e : Value) (s' : Shared), CX w [] H s (fun _ _ _ => False) e s' → False) :
    PySem.W.WalkO q loose XP YP l.row.toRowW d [] (fun f vs => PySem.call f vs) := by
  apply Att.attach_call hn hdf
  intro w s₀ s₁ mg mb fa o pm cd doc a vs ns G Y ho hd hcd hmg hobj hints hlen hg
  obtain ⟨fd, hb, hF⟩ := F w mg fa _ (hY w _ Y) G.T.g hmg
  exact law_callG (hY w _ Y) G.T.g G.T.b G.T.builtins G.T.nolimit hg hobj hints (Nat.le_trans hlen hn2) room hF hb
    (fun H h1 h2 => want w H a ns hlen h1 h2) (fun H e s' => noX w H s₁ e s')
end GG

namespace GG
open PySem PySem.Spec PyProof.Rows L2
/-! ### repr of data -/
def isDsp : PyData → Bool
  | .list _ => true
  | .tuple _ => true
  | _ => false
/-- repr(x), x nested lists and tuples of bools, ints, texts, None -/
def rRepr (K : PySem.W.Frag) : List V → Hp → VK → Prop := fun xs H Q => ∃ x d, xs = [x] ∧ Dp K H x d ∧
  (d.showable = true ∧ d.hasDict = false ∧ d.depth ≤ 40 ∧ d.shown.length ≤ sizeLine) ∧ Q (.str d.shown) H
theorem call_reprU {X : Cx} (gd : X.A.guards = some []) (un : X.A.units + 64 < cLine) : CallR X (.builtin "repr") (rRepr X.K) := by
  intro pins s σ H xs us Q I r h
  obtain ⟨x, d, rfl, hd, ⟨sh, nod, dep, big⟩, q⟩ := h
  obtain ⟨u, rfl, ru⟩ := vals1 r
  cases d with
  | none =>
    cases hd
    cases (show u = Value.none from ru)
    exact PySem.P.repr_of_none ⟨.str _, H, I.tok _, ⟨_, rfl⟩, by simpa [PyData.shown] using q⟩
  | bool b =>
    cases hd
    cases (show u = Value.bool b from ru)
    exact PySem.P.repr_of_bool ⟨.str _, H, I.tok _, ⟨_, rfl⟩, by simpa [PyData.shown] using q⟩
  | int i =>
    cases hd
    obtain ⟨t, rfl⟩ := (show ∃ t, u = Value.int i t from ru)
    refine PySem.P.repr_of_int (by simpa [PyData.showable] using sh) ⟨.str _, H, I.tok _, ⟨_, rfl⟩, by simpa [PyData.shown] using q⟩
  | str y =>
    cases hd
    obtain ⟨t, rfl⟩ := (show ∃ t, u = Value.str y t from ru)
    exact PySem.P.repr_of_str ⟨.str _, H, I.tok _, ⟨_, rfl⟩, by simpa [PyData.shown] using q⟩ (by simpa [PyData.shown] using big)
  | dict kvs => cases hd
  | list ds =>
    obtain ⟨as, rd⟩ := Dp.reads I _ _ _ hd ru
    cases hd
    cases (show u = Value.ref _ from ru)
    refine repr_of_reads' rd sh (PyData.noDict_hsm nod) gd (by omega) (fun _ _ e => e) (fun h' u tk kept => ?_) big
    exact ⟨.str _, H, I.kept kept, ⟨_, rfl⟩, q⟩
  | tuple ds =>
    obtain ⟨as, rd⟩ := Dp.reads I _ _ _ hd ru
    cases hd
    cases (show u = Value.ref _ from ru)
    refine repr_of_reads' rd sh (PyData.noDict_hsm nod) gd (by omega) (fun _ _ e => e) (fun h' u tk kept => ?_) big
    exact ⟨.str _, H, I.kept kept, ⟨_, rfl⟩, q⟩
theorem call_reprD {X : Cx} {k : Nat} (gd : X.A.guards = some []) (room : Room k X.A) : CallR X (.builtin "repr") (rRepr X.K) := call_reprU gd room.units
/-! ### ** of a great base -/
def CPowW (i j : Int) : Prop := 0 ≤ j ∧ (Builtin.Int.intBits i : Int) * j ≤ 2 ^ 27
theorem op_powW {X : Cx} : OpR X (binaryOp .Pow) (rI CPowW fun i j => .int (i ^ j.toNat)) := opI fun _ _ _ _ _ _ _ hc q => pow_int hc.1 hc.2 q
/-! ### the heap but for one object -/
/-- all that stands in H stands in H', but for what is at l -/
def But (l : Addr) (H H' : Hp) : Prop := ∀ b o, b ≠ l → H b = some o → H' b = some o
theorem But.refl {l : Addr} {H : Hp} : But l H H := fun _ _ _ e => e
theorem But.trans {l : Addr} {H H1 H2 : Hp} (a : But l H H1) (b : But l H1 H2) : But l H H2 := fun c o n e => b c o n (a c o n e)
theorem But.same {l : Addr} {H H1 H2 : Hp} (a : But l H H1) (b : Same H1 H2) : But l H H2 := fun c o n e => b c o (a c o n e)
theorem But.ofSame {l : Addr} {H H1 : Hp} (b : Same H H1) : But l H H1 := fun c o _ e => b c o e
theorem But.new {l p : Addr} {H H1 : Hp} {o : HO} (a : But l H H1) (h : H1 p = none) : But l H (upd H1 p o) := fun c u n e => by
  have e1 := a c u n e
  rw [upd_ne (ne_of_none e1 h)]
  exact e1
theorem But.at {l : Addr} {H : Hp} {o : HO} : But l H (upd H l o) := fun c u n e => by
  rw [upd_ne n]
  exact e
theorem But.seqL {l a : Addr} {K : PySem.W.Frag} {H H' : Hp} {xs : List V} (b : But l H H') (n : a ≠ l) (h : SqL K H a xs) : SqL K H' a xs := by
  rcases h with (h | ⟨o, h⟩) | h
  · exact .inl (.inl (b _ _ n h))
  · exact .inl (.inr ⟨o, b _ _ n h⟩)
  · exact .inr h
theorem But.seqT {l a : Addr} {K : PySem.W.Frag} {H H' : Hp} {xs : List V} (b : But l H H') (n : a ≠ l) (h : SqT K H a xs) : SqT K H' a xs := by
  rcases h with (h | ⟨o, h⟩) | h
  · exact .inl (.inl (b _ _ n h))
  · exact .inl (.inr ⟨o, b _ _ n h⟩)
  · exact .inr h
theorem sameUpd {H : Hp} {p : Addr} {o : HO} (h : H p = none) : Same H (upd H p o) := fun b x e => by
  rw [upd_ne (ne_of_none e h)]
  exact e
/-! ### dice -/
def Dice (H : Hp) (l : Addr) : Prop := ∃ a b c : Int, H l = some (.lst [.int a, .int b, .int c]) ∧ 0 ≤ a
theorem Dice.same {H H' : Hp} {l : Addr} (d : Dice H l) (s : Same H H') : Dice H' l := by
  obtain ⟨a, b, c, e, h⟩ := d
  exact ⟨a, b, c, s _ _ e, h⟩
theorem Dice.new {H : Hp} {l p : Addr} {o : HO} (d : Dice H l) (h : H p = none) : Dice (upd H p o) l := d.same (sameUpd h)
theorem Dice.ne {H : Hp} {l p : Addr} (d : Dice H l) (h : H p = none) : l ≠ p := by
  obtain ⟨a, b, c, e, _⟩ := d
  exact ne_of_none e h
theorem mul60 : CMulW (10 ^ Int.toNat 60) (10 ^ Int.toNat 60) := by
  unfold CMulW
  decide +kernel
theorem pos60 : (0 : Int) < 10 ^ Int.toNat 60 * 10 ^ Int.toNat 60 := by decide +kernel
def spDice (K : PySem.W.Frag) : Sp := fun vs H Q _ => ∃ (a : Addr) (ns : List Int) (spot : Nat), vs = [.ref a, .int spot] ∧ SqL K H a (ns.map V.int) ∧
  spot ≤ 100 ∧ ∀ H' p, Same H H' → H p = none → Dice H' p → Q (.ref p) H'
def spRoll : Sp := fun vs H Q _ => ∃ (l : Addr) (t : Int), vs = [.ref l, .int t] ∧ Dice H l ∧ 0 < t ∧ t < 1073741824 ∧
  ∀ H' (r : Int), But l H H' → Dice H' l → 0 ≤ r → r < t → Q (.int r) H'
def spPick (K : PySem.W.Frag) : Sp := fun vs H Q _ => ∃ (l a : Addr) (xs : List V), vs = [.ref l, .ref a] ∧ Dice H l ∧ a ≠ l ∧
  (SqL K H a xs ∨ SqT K H a xs) ∧ 0 < xs.length ∧ xs.length ≤ 1000 ∧
  ∀ H' (i : Nat) (v : V), But l H H' → Dice H' l → xs[i]? = some v → Q v H'
end GG

set_option maxHeartbeats 4000000
namespace PySem
namespace GX
open PySem.W PySem.Calls PyProof.Rows PySem.HandSPX
/-! ### own exceptions with one field over any of the built-in classes -/
/-- what the written part says of the class named cn at C (its field fld), and of its __init__, at fI -/
structure OwnX (K : Frag) (mg : Str → Option Value) (cn fld : Str) (bmB : List Value) (newId : String) (C fI : Addr) : Prop where
  gC : mg cn = some (.ref C)
  cls : ∃ nm q N bs bm sn sub ab col dd k0 k1 k2 k3 k5, K.lookup C = some (excClassObj nm q C N bs bm true sn sub ab col dd k0 k1 k2 k3 k5 newId) ∧ excTail bmB bm = true
  sa : findIn K (.ref C) "__setattr__" = some (some (.builtin "object.__setattr__"))
  ga : findIn K (.ref C) "__getattribute__" = some (some (.builtin "BaseException.__getattribute__"))
  gg : findIn K (.ref C) "__getattr__" = some none
  noN : findIn K (.ref C) fld = some none
  iC : findIn K (.ref C) "__init__" = some (some (.ref fI))
  tC : typeIn K (.ref fI) = some (.type "function")
  kC : keepIn K (.ref C) = true
  exC : subIn K (.ref C) (.type "BaseException") = some true
  tyC : typeIn K (.ref C) = some (.type "type")
  hdC : hasDictIn K C = true
  te : exmOne K (.ref C) (.ref C) = some true
/-- what __init__ leaves of a fresh exception at x -/
structure Inited (fld : Str) (h h' : Heap) (x C dx t1 : Addr) (v : Value) : Prop where
  keep : ∀ b o, b ≠ x → h.get? b = some o → h'.get? b = some o
  obj : h'.get? x = some { cls := .ref C, dict := some dx, data := .fields #[.ref t1, .none, .none, .none, .bool false, .none] }
  dbig : h.objs.size ≤ dx
  dne : dx ≠ x
  ns : h'.Ns1 dx (fun y => if y = fld then some v else none)
/-- a made one -/
structure MadeX (fld : Str) (h h' : Heap) (e C d : Addr) (v : Value) : Prop where
  keep : ∀ b o, h.get? b = some o → h'.get? b = some o
  new : h.objs.size ≤ e
  obj : ∃ t1, h'.get? e = some { cls := .ref C, dict := some d, data := .fields #[.ref t1, .none, .none, .none, .bool false, .none] }
  dbig : h.objs.size ≤ d
  dne : d ≠ e
  ns : h'.Ns1 d (fun y => if y = fld then some v else none)
/-- the __init__ at fI stores its argument -/
def InitOk (K : Frag) (fld : Str) (C fI : Addr) : Prop :=
  ∀ (prog : Program) (w : World) (A : Around) (R : Result → Shared → Prop) (s : Shared) (x t0 : Addr) (v : Value), K.In s.heap → s.heap.NoLimit →
    s.heap.get? x = some (excO C t0) → K.lookup x = none → A.depth < recursionLimit →
    (∀ h' tk dx, Inited fld s.heap h' x C dx t0 v → R (.ok (.ret .none)) { s with heap := h', toks := tk }) →
    codeAny (model prog w) A (.call (.ref fI) ⟨[.ref x, v], []⟩) R s
theorem single_size (v : Value) : [v].length ≤ sizeLine := by
  rw [sizeLine_eq]
  exact (by decide : 1 ≤ 16777216)
theorem loadLoc {M : Model} {s : Shared} {name : Str} {scope : Scope} {L a : Addr} {cd : Value} {m : Str → Option Value} {x : Str} {pos : Pos} {v : Value} {Q : Value → Shared → Prop} {A : Around} {E : Value → Shared → Prop}
    (hn : s.heap.Ns L m) (hv : m x = some v) (h : Q v s) (hk : scope.kind = .function := by rfl)
    (hl : (envOfC name scope L a cd).kindOf x = some .local := by rfl) (hd : (x == ("__debug__" : Str)) = false := by decide) :
    wpAny M A (eval (.Name x pos) (envOfC name scope L a cd)) Q E s := wpAny_Name (wpAny_loadName_local hk hl hn hv h) hd
section
open Builtin Builtin.ObjectAttr
variable {prog : Program} {w : World} {A : Around} {E : Value → Shared → Prop} {R : Result → Shared → Prop} {hp : Heap} {g : Array GenState} {d : Drawn} {t : Nat} {os : OsState} {B newId initId : String} {bmB : List Value}
/-- self.name = v on such an exception that has no dict yet -/
theorem osaX {K : Frag} {name : Str} {tk : Tok} {v : Value} {x C : Addr} {fv : Array Value} {cd : ClassData} (SF : StoreFacts B bmB "object.__setattr__" "object")
    (X : K.In hp) (hx : hp.get? x = some { cls := .ref C, data := .fields fv }) (hcd : clsIn K C = some cd) (hov : excOver K C bmB = true)
    (hh : cd.hasDict = true) (ha : findIn K (.ref C) name = some none)
    (hq : ∀ h' tk' dx, (∀ b o, b ≠ x → hp.get? b = some o → h'.get? b = some o) → hp.objs.size ≤ dx → dx ≠ x →
      h'.get? x = some { cls := .ref C, dict := some dx, data := .fields fv } →
      h'.Ns1 dx (fun y => if y = name then some v else none) → R (.ok (.ret .none)) ⟨h', g, d, tk', os⟩) :
    codeAny (model prog w) A (.call (.builtin "object.__setattr__") ⟨[.ref x, .str name tk, v], []⟩) R ⟨hp, g, d, t, os⟩ := by
  have I : InstAt hp x { cls := .ref C, data := .fields fv } C none := ⟨hx, rfl, rfl, trivial⟩
  have xs : x ≠ hp.objs.size := Nat.ne_of_lt (Heap.lt_size hx)
  have taker : takerIn K C name = some none := by
    unfold takerIn
    rw [ha]
    rfl
  refine osa_openX (s := ⟨hp, g, d, t, os⟩) SF X I hov taker ?_
  intro b
  have lc : Looks (model prog w) hp (classData C) cd := looks_clsIn X hcd
  show wpAny _ _ (storeInOwnDict (.ref x) (.ref C) (.str name tk) name v b) _ _ _
  obtain ⟨nm, bs, mro, ns, qn, hd, sn, sb, ab, col, del⟩ := cd
  dsimp only at hh
  subst hh
  unfold storeInOwnDict ownDictForStores
  repeat (first
    | with_reducible refine store_in_new ?_ ?_
    | with_reducible refine wpAny_loadPart_at hx ?_
    | with_reducible refine lc.at ?_
    | wp_step)
  · refine ⟨_, #[], _, (Heap.get?_update_ne _ _ _ _ xs.symm).trans (Heap.get?_push_at rfl rfl), rfl, ?_, fun _ => rfl⟩
    intro e he
    exact absurd he (by simp)
  · intro h' tk' n1 sb1
    have there : (hp.push { cls := .type "dict", data := .dict #[] }).get? x = some { cls := .ref C, data := .fields fv } := Heap.get?_push_of_some _ hx
    apply hq h' tk' hp.objs.size _ (Nat.le_refl _) xs.symm _ n1
    · intro b o nb ho
      refine (sb1.2 b (Nat.ne_of_lt (Heap.lt_size ho))).trans ?_
      exact (Heap.get?_update_ne _ _ _ _ nb).trans (Heap.get?_push_of_some _ ho)
    · exact (sb1.2 x xs).trans (Heap.get?_update_self _ there rfl)
end
section
variable {prog : Program} {w : World} {A : Around} {R : Result → Shared → Prop} {s : Shared} {K : Frag} {mg : Str → Option Value} {C fI : Addr} {cn fld : Str} {B newId initId : String} {bmB : List Value}
theorem OwnX.over (T : OwnX K mg cn fld bmB newId C fI) : ∃ cd, clsIn K C = some cd ∧ excOver K C bmB = true ∧ cd.hasDict = true := by
  obtain ⟨nm, q, N, bs, bm, sn, sub, ab, col, dd, k0, k1, k2, k3, k5, hC, hbm⟩ := T.cls
  have hcl : clsIn K C = some { name := nm, bases := bs, mro := .ref C :: bm, ns := N, qualname := q, hasDict := true, slotNames := sn, subclasses := sub, abstract := ab, collection := col, hasDel := false } := by
    unfold clsIn
    rw [hC] <;> rfl
  refine ⟨_, hcl, ?_, rfl⟩
  unfold excOver
  rw [hcl]
  show (C == C && excTail bmB bm) = true
  rw [hbm, Bool.and_true]
  exact beq_self_eq_true C
/-- C(v) -/
theorem madeX (F : ExcBaseFacts B newId initId bmB) (T : OwnX K mg cn fld bmB newId C fI) (init : InitOk K fld C fI) {v : Value} (X : K.In s.heap)
    (lim : s.heap.NoLimit) (deep : A.depth + 1 < recursionLimit)
    (hq : ∀ h' tk e d, MadeX fld s.heap h' e C d v → R (.ok (.ret (.ref e))) { s with heap := h', toks := tk }) :
    codeAny (model prog w) A (.call (.ref C) ⟨[v], []⟩) R s := by
  obtain ⟨nm, q, N, bs, bm, sn, sub, ab, col, dd, k0, k1, k2, k3, k5, hC, hbm⟩ := T.cls
  obtain ⟨hp, g, dr, tk, os⟩ := s
  have grown : ∀ b o, hp.get? b = some o → ((hp.push (kdv_tup [v])).push (excO C hp.objs.size)).get? b = some o :=
    fun b o e => Heap.get?_push_of_some _ (Heap.get?_push_of_some _ e)
  have fresh : ((hp.push (kdv_tup [v])).push (excO C hp.objs.size)).get? (hp.objs.size + 1) = some (excO C hp.objs.size) := by heap_get
  have notK : K.lookup (hp.objs.size + 1) = none := by
    rcases e : K.lookup (hp.objs.size + 1) with _ | o
    · rfl
    · exact absurd (Nat.lt_of_succ_lt (Heap.lt_size (show hp.get? (hp.objs.size + 1) = some o from X _ _ e))) (Nat.lt_irrefl _)
  refine HandSPX.call_own F (fun T => excTail_contains T bm hbm) (X _ _ hC) (looks_findIn X T.iC) (fun self => bind_fn X self T.tC) (single_size v) ?_
  refine init prog w _ _ ⟨(hp.push (kdv_tup [v])).push (excO C hp.objs.size), g, dr, tk, os⟩ _ _ v (X.keeps grown) (lim.keeps grown) fresh notK deep ?_
  intro h' tk' dx ⟨k', hx, dn, dne, hns⟩
  have old : ∀ b o, hp.get? b = some o → h'.get? b = some o :=
    fun b o e => k' b o (Nat.ne_of_lt (Nat.lt_succ_of_lt (Heap.lt_size e))) (grown b o e)
  have z : hp.objs.size + 1 + 1 ≤ dx := by
    first
      | (simpa only [Heap.size_push] using dn)
      | exact dn
      | (have q := dn; rw [Heap.size_push, Heap.size_push] at q; exact q)
  exact ⟨rfl, hq h' tk' (hp.objs.size + 1) dx ⟨old, Nat.le_succ _, ⟨_, hx⟩, Nat.le_trans (Nat.le_trans (Nat.le_succ _) (Nat.le_succ _)) z, dne, hns⟩⟩
end
end GX
end PySem
namespace GG
open PySem PySem.Spec PyProof.Rows L2
theorem relX {fld : Str} {v : V} {v' : Value} (r : RelV v v') (f : Str) : RelO (List.lookup f [(fld, v)]) (if f = fld then some v' else none) := by
  by_cases hw : f = fld
  · subst hw
    rw [if_pos rfl]
    have q : List.lookup f [(f, v)] = some v := by simp [List.lookup]
    rw [q]
    exact r
  · rw [if_neg hw]
    have qw : (f == fld) = false := by simpa using hw
    have q2 : List.lookup f [(fld, v)] = none := by simp [List.lookup, qw]
    rw [q2]
    trivial
section
variable {X : Cx} {C fI : Addr} {cn fld : Str} {B newId initId : String} {bmB : List Value}
/-- X(e), to be raised -/
def tMkX (C : Addr) (fld : Str) (ta : TA) : L2.St → Hp → XK → Prop := fun σ H Q => ta σ H fun vs H1 => ∃ v, vs = [v] ∧ ∀ d, H1 d = none → Q (.ref C) (some d) (upd H1 d (.xd [(fld, v)]))
theorem pmkX {a : Expr} {ta : TA} {p pos : Pos} {k : Nat} (F : ExcBaseFacts B newId initId bmB) (T : PySem.GX.OwnX X.K X.mg cn fld bmB newId C fI) (init : PySem.GX.InitOk X.K fld C fI) (hr : Room k X.A) (ha : PA X [a] ta)
    (hg : Gl X cn := by rfl) (hdb : (cn == ("__debug__" : Str)) = false := by decide)
    (he : starEach (a :: []) X.env = (false, eval a X.env) :: starEach [] X.env := by rfl) (hpl : (backTo pos (starEach [] X.env)).any (·.1) = false := by rfl) :
    PMk X (.Call (.Name cn p) [a] [] pos) (tMkX C fld ta) := by
  intro pins s σ H Q I h
  refine wpAny_Call_Name_kw (ld_glob I hg T.gC ?_ hdb)
  refine PySem.W.callWith_K (h₀ := X.base) I.ok.mod.kin T.kC (thn (ha.run pos pins s σ H _ I h) ?_) he hpl
  intro us s1 hh
  obtain ⟨vs, H1, I1, r1, v, ev, q1⟩ := hh
  subst ev
  refine ⟨I1.kIn, ?_⟩
  obtain ⟨v', rfl, rv⟩ := vals1 r1
  show wpAny _ _ (call (.ref C) [v']) _ _ _
  have hlim := I1.nolimit
  obtain ⟨hp, g, dr, tk, os⟩ := s1
  have room2 := hr.dp
  refine wpAny_call (PySem.GX.madeX F T init I1.kIn hlim (by omega) fun h' tk' e d M => ?_)
  show MkP X pins σ Q (.ref e) ⟨h', g, dr, tk', os⟩
  obtain ⟨t1, hoe⟩ := M.obj
  have hns := M.ns
  obtain ⟨G', g1, g2⟩ := restrict h' fun b => decide (b ≠ e)
  have gk : ∀ b, b ≠ e → G'.get? b = h'.get? b := fun b hb => g1 b (decide_eq_true hb)
  have ge : G'.get? e = none := g2 e (by simp)
  have old : ∀ b o, hp.get? b = some o → G'.get? b = some o := by
    intro b o q
    exact (gk b (Nat.ne_of_lt (Nat.lt_of_lt_of_le (Heap.lt_size q) M.new))).trans (M.keep b o q)
  have ob : ObjOk X.prog X.w (upd H1 d (.xd [(fld, v)])) G' d (.xd [(fld, v)]) :=
    ⟨_, hns.at (fun o q => (gk d M.dne).trans q), fun f => relX rv f⟩
  have J : Inv X pins σ (upd H1 d (.xd [(fld, v)])) ⟨G', g, dr, tk', os⟩ := I1.laid (t' := tk') old M.dbig ob
  refine ⟨e, _, _, ⟨G', g, dr, tk', os⟩, _, .ref C, some d, rfl, J, fun b o q => ?_, ge, hoe, ⟨rfl, rfl⟩, rfl, rfl, ?_, rfl, I1.bare, raises_own T.exC T.tyC, q1 d (I1.hok.fresh M.dbig)⟩
  · by_cases hb : b = e
    · have q' : G'.get? b = some o := q
      rw [hb, ge] at q'
      cases q'
    · exact (gk b hb).symm.trans q
  · rw [upd_ne (Ne.symm M.dne)]
    exact I1.hok.fresh M.new
/-- raise X(e) -/
def tRaiseX (C : Addr) (fld : Str) (W : WX) (ta : TA) : TS := fun _ σ H => tMkX C fld ta σ H fun cls d H' => W cls d σ H'
theorem ps_raiseX {a : Expr} {ta : TA} {W : WX} {p pos pos2 : Pos} {k : Nat} (F : ExcBaseFacts B newId initId bmB) (hc : X.calm = true) (T : PySem.GX.OwnX X.K X.mg cn fld bmB newId C fI) (init : PySem.GX.InitOk X.K fld C fI)
    (hr : Room k X.A) (tk : Takes X W) (ha : PA X [a] ta) (hg : Gl X cn := by rfl) (hdb : (cn == ("__debug__" : Str)) = false := by decide)
    (he : starEach (a :: []) X.env = (false, eval a X.env) :: starEach [] X.env := by rfl) (hpl : (backTo pos (starEach [] X.env)).any (·.1) = false := by rfl) :
    PS X (.Raise (some (.Call (.Name cn p) [a] [] pos)) none pos2) (tRaiseX C fld W ta) := ps_raise hc tk (pmkX F T init hr ha hg hdb he hpl)
/-- e.fld, e the exception that the suite holds (at a; its class cls, its dict d) -/
def tByX (C : Addr) (fld : Str) (a : Addr) (cls : Value) (d : Option Addr) (te : TE) : TE := fun σ H Q => te σ H fun x H1 => x = .ref a ∧ cls = .ref C ∧ ∃ (dd : Addr) (v : V), d = some dd ∧ H1 dd = some (.xd [(fld, v)]) ∧ Q v H1
theorem pe_byX {a : Addr} {oe : Obj} {cls : Value} {d : Option Addr} {pn : List (Addr × Obj)} {e : Expr} {te : TE} {pos : Pos} (T : PySem.GX.OwnX X.K X.mg cn fld bmB newId C fI) (hz : Zc cls d oe) (hf : ∃ vs, oe.data = .fields vs)
    (he : PE (X.suite a ((a, oe) :: pn)) e te) (hb : attributeBase e fld X.env (eval e X.env) = eval e X.env := by rfl) :
    PE (X.suite a ((a, oe) :: pn)) (.Attribute e fld pos) (tByX C fld a cls d te) := by
  refine ⟨fun pins s σ H Q I h => ?_⟩
  refine attr_of hb (thn (he.run pins s σ H _ I h) ?_)
  intro u s1 hh
  obtain ⟨x, H1, I1, rx, ex, ec, dd, v, ed, ea, q⟩ := hh
  subst ex ec ed
  obtain rfl : u = Value.ref a := rx
  obtain ⟨ha, _⟩ := I1.pin (a, oe) (List.mem_append_left _ List.mem_cons_self)
  obtain ⟨vs, hd⟩ := hf
  have hx : ObjOk X.prog X.w H1 s1.heap dd (.xd [(fld, v)]) := I1.hok dd _ ea
  obtain ⟨mA, hns, hr⟩ := hx
  obtain ⟨od, ho, hl⟩ := lookIn_ns hns
  have l : List.lookup fld [(fld, v)] = some v := by simp [List.lookup]
  obtain ⟨u, hu, ru⟩ := RelO.some_of (v := v) (o := mA fld) (by rw [← l]; exact hr fld)
  have J : PySem.W.InstAt s1.heap a oe C (some od) := ⟨ha, hz.1, by unfold PySem.W.notCls; rw [hd] <;> rfl, by rw [hz.2]; exact ho⟩
  exact HandSPX.exc_get I1.kIn J T.ga T.gg T.exC (PySem.W.findObj_own T.hdC T.noN rfl (by rw [hl, hu])) (handed_of ru) ⟨v, H1, I1.tok _, ru, q⟩
end
end GG

set_option maxHeartbeats 4000000
namespace GG
open PySem PySem.Spec PyProof.Rows L2
/-! ### several except clauses, with a name or without -/
/-- behind a suite whose exception is named in slot i -/
def offI (i : Nat) (D : Ends) : Ends :=
  { nx := fun σ H => D.nx (σ.set i none) H, rt := D.rt, bk := fun σ H => D.bk (σ.set i none) H, ct := fun σ H => D.ct (σ.set i none) H }
abbrev Clause := Value × Option Nat × (Addr → Value → Option Addr → TS)
def wClauses (K : PySem.W.Frag) (Wout : WX) (D : Ends) : List Clause → WX
  | [] => Wout
  | (c, none, ts) :: r => fun cls d σ H => ∃ b, PySem.W.exmOne K cls c = some b ∧ (b = true → ∀ a, H a = none → ts a cls d D σ H) ∧ (b = false → wClauses K Wout D r cls d σ H)
  | (c, some i, ts) :: r => fun cls d σ H => ∃ b, PySem.W.exmOne K cls c = some b ∧
      (b = true → ∀ a, H a = none → ts a cls d (offI i D) (σ.set i (some (.ref a))) H) ∧ (b = false → wClauses K Wout D r cls d σ H)
inductive Clauses (X : Cx) : List ExceptHandler → List Clause → Prop
  | nil : Clauses X [] []
  | plain {x : Str} {c : Value} {ts : Addr → Value → Option Addr → TS} {b₀ : Stmt} {suite : List Stmt} {np pos' : Pos} {hds : List ExceptHandler} {l : List Clause} (hc : Names X x c)
      (hsu : ∀ (a : Addr) (oe : Obj) (cls : Value) (d : Option Addr) (pn : List (Addr × Obj)), Zc cls d oe → (∃ vs, oe.data = .fields vs) →
        PSs (X.suite a ((a, oe) :: pn)) (b₀ :: suite) (ts a cls d))
      (r : Clauses X hds l) : Clauses X (.ExceptHandler (some (.Name x np)) none (b₀ :: suite) pos' :: hds) ((c, none, ts) :: l)
  | named {x n : Str} {i : Nat} {c : Value} {ts : Addr → Value → Option Addr → TS} {b₀ : Stmt} {suite : List Stmt} {np pos' : Pos} {hds : List ExceptHandler} {l : List Clause}
      (hN : X.N.Nodup) (hi : X.N[i]? = some n) (hln : X.env.kindOf n = some .local) (hc : Names X x c)
      (hsu : ∀ (a : Addr) (oe : Obj) (cls : Value) (d : Option Addr) (pn : List (Addr × Obj)), Zc cls d oe → (∃ vs, oe.data = .fields vs) →
        PSs (X.suite a ((a, oe) :: pn)) (b₀ :: suite) (ts a cls d))
      (r : Clauses X hds l) : Clauses X (.ExceptHandler (some (.Name x np)) (some n) (b₀ :: suite) pos' :: hds) ((c, some i, ts) :: l)
section
variable {X : Cx} {body : List Stmt} {h₀ : ExceptHandler} {hds : List ExceptHandler} {l : List Clause} {pos : Pos} {tb : WX → TS} {Wout : WX}
/-- the handlers, met by the exception at a in flight -/
theorem clauses_go {pins : List (Addr × Obj)} {σ' : L2.St} {H' : Hp} {sI s' : Shared} {a : Addr} {B : Heap} {cls : Value} {d : Option Addr} {D : Ends}
    (hs : X.stack = X.env :: X.outer) (hf : X.env.frame = some X.env.locals) (tk : Takes X Wout) (J : Inv X pins σ' H' sI)
    (nb : ∀ b o, sI.heap.get? b = some o → b ∉ frs X.stack → B.get? b = some o) (up : sI.heap.UpToSlots s'.heap) (na : H' a = none)
    (os : s'.os = sI.os) (ag : AllBare s'.gens) {h3 : Heap} (fl3 : HandSPX.FlyingZ B (X.env :: X.outer) a (Zc cls d) h3) (up3 : s'.heap.UpToSlots h3)
    {k : List ExceptHandler} {m : List Clause} (C : Clauses X k m) :
    wClauses X.K Wout D m cls d σ' H' → wpAny (model X.prog X.w) X.A (handleBy (.ref a) X.env k) (SP X pins D) X.xe { s' with heap := h3 } := by
  have ok := J.ok
  have upA := up.trans up3
  have J3 : Inv X pins σ' H' { s' with heap := h3 } := J.landed nb fl3.1 upA os ag
  obtain ⟨oe3, vs3, he3, hz3, hd3⟩ := fl3.there
  have outside : a ∉ frs (X.env :: X.outer) := by
    intro hm
    obtain ⟨_, o', e', hnf⟩ := fl3.2.2.1.mem hm
    rw [he3] at e'
    cases e'
    exact hnf _ hd3
  have nL : a ≠ X.env.locals := fun z => outside (List.mem_filterMap.mpr ⟨X.env, List.mem_cons_self, by rw [hf, z]⟩)
  have nF : a ∉ X.fs := by
    intro hm
    obtain ⟨e, he, q⟩ := List.mem_filterMap.mp hm
    exact outside (List.mem_filterMap.mpr ⟨e, List.mem_cons_of_mem _ he, q⟩)
  have S3 := J3.suite he3 hd3 na nL nF
  have look : ∀ {x : Str} {c : Value} {np : Pos} {Q : Value → Shared → Prop} {E : Value → Shared → Prop}, Names X x c → Q c { s' with heap := h3 } →
      wpAny (model X.prog X.w) (X.A.mark (some (.ref a))) (eval (.Name x np) X.env) Q E { s' with heap := h3 } := by
    intro x c np Q E hc q
    obtain ⟨hg, hdbg, hm | ⟨hm, hv, hnn⟩⟩ := hc
    · exact ld_glob (X := X.suite a ((a, oe3) :: (X.pn ++ pins))) S3 hg hm q hdbg
    · exact ld_blt (X := X.suite a ((a, oe3) :: (X.pn ++ pins))) S3 hg hm hv q hnn hdbg
  have kindA : PySem.W.Looks (model X.prog X.w) h3 (typeOf (.ref a)) cls := by
    intro A Q E s kp q
    exact wpAny_typeOf_ref (kp _ _ he3) (by rw [hz3.1]; exact q)
  induction C with
  | nil =>
    intro wish
    refine wpAny_handleBy_nil ?_
    obtain ⟨k1, k2, k3, oe, vs, T, oT, ts', he, hz, hd, h1, hr⟩ := id fl3
    unfold PySem.passOn
    refine wpAny_bind (wpAny_field he hd h1 ?_)
    rw [if_neg (show ¬ ((Value.ref T == Value.none) = true) from by simp)]
    have out : wpAny (model X.prog X.w) X.A (setFlight (.ref a) X.env.frame)
        (fun _ s4 => wpAny (model X.prog X.w) X.A (throw (.ref a) : Sem Flow) (SP X pins D) X.xe s4) X.xe { s' with heap := h3 } := by
      rw [hf]
      refine HandSPX.setFlight_upZ fl3 fun h4 hh4 up4 => wpAny_throw (tk _ _ ?_)
      exact ⟨a, B, sI, pins, σ', H', cls, d, rfl, J, nb, upA.trans up4, .inr (.inr (by rw [hs]; exact hh4)), na, os, ag, wish⟩
    first
      | exact wpAny_bind (wpAny_pure (wpAny_bind out))
      | exact wpAny_bind out
  | @plain x c ts b₀ suite np pos' hds2 l2 hc hsu r ih =>
    intro wish
    obtain ⟨b, hb1, yes, no⟩ := wish
    refine wpAny_handleBy_cons (codeAny_handlers_test ?_) (by intro q; cases q)
    have LM := PySem.W.exm_one (M := model X.prog X.w) (J3.kIn) kindA hb1
    refine look hc (LM.here ?_)
    cases b with
    | false => exact ih (no rfl)
    | true =>
      refine codeAny_handlers_suite (HandSPX.lands_againZ fl3 fun h4 fl4 up4 => ?_)
      have J4 : Inv X pins σ' H' { s' with heap := h4 } := J.landed nb fl4.1 (upA.trans up4) os ag
      obtain ⟨oe4, vs4, he4, hz4, hd4⟩ := fl4.there
      have S4 := J4.suite he4 hd4 na nL nF
      refine wpAny_mono ((hsu a oe4 cls d (X.pn ++ pins) hz4 ⟨_, hd4⟩).run [] _ _ H' _ S4 (yes rfl a na)) (fun f s6 hsp => ?_) (fun _ _ z => False.elim z)
      cases f with
      | next => exact hsp.imp fun _ z => z.imp fun _ z => ⟨z.1.unsuite ok, z.2⟩
      | brk => exact hsp.imp fun _ z => z.imp fun _ z => ⟨z.1.unsuite ok, z.2⟩
      | cont => exact hsp.imp fun _ z => z.imp fun _ z => ⟨z.1.unsuite ok, z.2⟩
      | ret u => exact hsp.imp fun _ z => z.imp fun _ z => z.imp fun _ z => ⟨z.1.unsuite ok, z.2⟩
  | @named x n i c ts b₀ suite np pos' hds2 l2 hN hi hln hc hsu r ih =>
    intro wish
    obtain ⟨b, hb1, yes, no⟩ := wish
    refine wpAny_handleBy_cons (codeAny_handlers_test ?_) (by intro q; cases q)
    have LM := PySem.W.exm_one (M := model X.prog X.w) (J3.kIn) kindA hb1
    refine look hc (LM.here ?_)
    cases b with
    | false => exact ih (no rfl)
    | true =>
      refine codeAny_handlers_suite_as (HandSPX.lands_againZ fl3 fun h4 fl4 up4 => ?_)
      have J4 : Inv X pins σ' H' { s' with heap := h4 } := J.landed nb fl4.1 (upA.trans up4) os ag
      obtain ⟨oe4, vs4, he4, hz4, hd4⟩ := fl4.there
      have S4 := J4.suite he4 hd4 na nL nF
      refine store_ok (X := X.suite a ((a, oe4) :: (X.pn ++ pins))) (v := .ref a) S4 hN hi (.inl hln) rfl (fun s5 S5 => ?_) (.inr hln)
      refine wpAny_mono ((hsu a oe4 cls d (X.pn ++ pins) hz4 ⟨_, hd4⟩).run [] s5 _ H' _ S5 (yes rfl a na)) (fun f s6 hsp => ?_) (fun _ _ z => False.elim z)
      have gone : ∀ {σ6 : L2.St} {H6 : Hp} {Q : Shared → Prop}, Inv (X.suite a ((a, oe4) :: (X.pn ++ pins))) [] σ6 H6 s6 → (∀ s7, Inv X pins (σ6.set i none) H6 s7 → Q s7) →
          wpAny (model X.prog X.w) X.A (do bindName X.env n .none; unbindBehindTheSuite X.env n pos') (fun _ s7 => Q s7) X.xe s6 :=
        fun {σ6 H6 Q} S6 hq => gone_ok (S6.unsuite ok) hN hi hln hq
      cases f with
      | next =>
        obtain ⟨σ6, H6, S6, q6⟩ := hsp
        exact gone S6 fun s7 J7 => ⟨_, _, J7, q6⟩
      | brk =>
        obtain ⟨σ6, H6, S6, q6⟩ := hsp
        exact gone S6 fun s7 J7 => ⟨_, _, J7, q6⟩
      | cont =>
        obtain ⟨σ6, H6, S6, q6⟩ := hsp
        exact gone S6 fun s7 J7 => ⟨_, _, J7, q6⟩
      | ret u =>
        obtain ⟨v6, σ6, H6, S6, r6, q6⟩ := hsp
        exact gone S6 fun s7 J7 => ⟨_, _, _, J7, r6, q6⟩
/-- try: .. except X as e: .. except Y: .. -/
theorem ps_tryC (hs : X.stack = X.env :: X.outer) (hf : X.env.frame = some X.env.locals) (tk : Takes X Wout)
    (hb : ∀ (W : WX) (pn : List (Addr × Obj)) (xe : Value → Shared → Prop), Takes (X.tr pn xe) W → PassesOwn (model X.prog X.w) X.A X.env xe → PSs (X.tr pn xe) body (tb W))
    (hh : Clauses X (h₀ :: hds) l) : PS X (.Try body (h₀ :: hds) [] [] pos) (fun D σ H => tb (wClauses X.K Wout D l) D σ H) := by
  constructor
  intro pins s σ H D I h
  have ok := I.ok
  have fr : X.A.frames = some (X.env :: X.outer) := by rw [ok.frames, hs]
  refine wpAny_Try_except ?_
  have meet : Takes (X.tr (X.pn ++ pins) (fun e s₁ => wpAny (model X.prog X.w) X.A (noteFrame e X.env) (fun _ s₂ => wpAny (model X.prog X.w) X.A (setFlight e none)
      (fun _ s₃ => wpAny (model X.prog X.w) X.A (handleBy e X.env (h₀ :: hds)) (SP X pins D) X.xe s₃) X.xe s₂) X.xe s₁)) (wClauses X.K Wout D l) := by
    intro u s' xx
    obtain ⟨a, B, sI, pins', σ', H', cls, d, rfl, J', nb, up, sky, na, os, ag, wish⟩ := xx
    have sky' : Sky B (X.env :: X.outer) a (Zc cls d) X.env.locals s'.heap := by rw [← hs]; exact sky
    show wpAny (model X.prog X.w) X.A (noteFrame (.ref a) X.env) _ _ _
    exact Sky.land Zc.steady fr hf sky' fun h3 fl3 up3 => clauses_go hs hf tk (J'.ofTry ok) nb up na os ag fl3 up3 hh wish
  have run := (hb _ _ _ meet PassesOwn.looking).run [] s σ H D (I.toTry _) h
  refine wpAny_mono run (fun f s1 hsp => ?_) (fun e s1 he => he)
  cases f with
  | next =>
    obtain ⟨σ', H', J', q⟩ := hsp
    exact wpAny_execs_nil ⟨σ', H', J'.ofTry ok, q⟩
  | brk => exact hsp.imp fun _ z => z.imp fun _ z => ⟨z.1.ofTry ok, z.2⟩
  | cont => exact hsp.imp fun _ z => z.imp fun _ z => ⟨z.1.ofTry ok, z.2⟩
  | ret u => exact hsp.imp fun _ z => z.imp fun _ z => z.imp fun _ z => ⟨z.1.ofTry ok, z.2⟩
end
end GG

set_option maxHeartbeats 4000000
namespace PySem.F
/-! ### KeyError as a base of own classes: it has no maker of its own -/
abbrev keyChain : List Value := [.type "KeyError", .type "LookupError", .type "Exception", .type "BaseException", .type "object"]
theorem store_KeyError : StoreFacts "KeyError" keyChain "object.__setattr__" "object" where
  mro := by kernel_rfl
  slot := .of (owner := "object") (n := "__setattr__")
    (by
      rw [typeLookup_type, builtinLookup_eq_fast]
      kernel_rfl)
    (by decide +kernel) (by decide +kernel) (by decide +kernel)
    (by first | exact Or.inl (by decide +kernel) | exact Or.inr (by decide +kernel))
    (by
      rw [isSubtype_type]
      kernel_rfl)
  entry := entry_object_sa
  kind := by decide +kernel
  split := by decide +kernel
  hasOwner := by decide +kernel
  args := fun _ _ _ => by
    unfold argsOk
    kernel_rfl
  passes := fun _ => by kernel_rfl
end PySem.F
namespace PySem
namespace GX
open PySem.W PySem.Calls PyProof.Rows PySem.HandSPX
/-! ### a class whose chain tells the maker's class and neither of the two that keep more -/
structure Tells (B : String) (bm : List Value) : Prop where
  base : bm.contains (.type B) = true
  attr : bm.contains (.type "AttributeError") = false
  name : bm.contains (.type "NameError") = false
section
variable {prog : Program} {w : World} {A : Around} {E : Value → Shared → Prop} {R : Result → Shared → Prop} {h : Heap} {g : Array GenState} {d : Drawn} {t : Nat} {os : OsState}
variable {nm q : Str} {C N : Addr} {bs bm bmB : List Value} {hdct : Bool} {sn : List Str} {sub : List Value} {ab : Bool} {col : Option Bool} {dd : Option Addr} {k0 k1 k2 k3 k5 : Option Value} {B newId initId : String}
theorem tells_in (T : Tells B bm) : (Value.ref C :: bm).contains (.type B) = true ∧ (Value.ref C :: bm).contains (.type "AttributeError") = false ∧ (Value.ref C :: bm).contains (.type "NameError") = false := by
  rw [List.contains_cons, List.contains_cons, List.contains_cons, T.base, T.attr, T.name]
  exact ⟨Bool.or_true _, rfl, rfl⟩
theorem checkNewT {M : Model} (F : ExcBaseFacts B newId initId bmB) (T : Tells B bm) {rest : List Value} {Q : Unit → Shared → Prop}
    (hC : h.get? C = some (excClassObj nm q C N bs bm hdct sn sub ab col dd k0 k1 k2 k3 k5 newId)) (hq : Q () ⟨h, g, d, t, os⟩) :
    wpAny M A (checkBuiltinCall newId ⟨.ref C :: rest, []⟩) Q E ⟨h, g, d, t, os⟩ := by
  have tb := (tells_in (C := C) T).1
  have ns := F.noStar
  simp only [checkBuiltinCall, F.newKind, F.newSplit, F.newRow]
  repeat (first
    | refine wpAny_loadPart_at hC ?_
    | (refine wpAny_isSubtype_exc hC ?_
       rw [tb])
    | refine wpAny_staticBase_exc hC ?_
    | refine wpAny_madeBy_exc hC ?_
    | simp only [bne_self_eq_false, Bool.false_eq_true, if_false]
    | wp_step)
  exact hq
theorem newT (F : ExcBaseFacts B newId initId bmB) (T : Tells B bm) {rest : List Value}
    (hC : h.get? C = some (excClassObj nm q C N bs bm hdct sn sub ab col dd k0 k1 k2 k3 k5 newId))
    (hq : R (.ok (.ret (.ref (h.objs.size + 1)))) ⟨(h.push (kdv_tup rest)).push (excO C h.objs.size), g, d, t, os⟩) (few : rest.length ≤ sizeLine) :
    codeAny (model prog w) A (.builtin newId ⟨.ref C :: rest, []⟩) R ⟨h, g, d, t, os⟩ := by
  have fe := F.ends
  obtain ⟨tb, ta, tn⟩ := tells_in (C := C) T
  have hrest := few
  apply codeAny_builtinAt F.entry
  unfold Builtin.«BaseException.__new__»
  apply wpAt_bind
  show wpAt _ _ _ (stack >>= _) _ _ _
  apply wpAt_bind
  apply wpAt_stack
  intro p below
  apply wpAt_of_wpAny
  wp_walk
  apply wpAt_of_wpAny
  rw [F.owner]
  repeat (first
    | with_reducible refine wpAny_madeHere_exc F.canon hC ?_
    | with_reducible refine wpAny_loadPart_at hC ?_
    | (with_reducible refine wpAny_isSubtype_exc hC ?_
       first | rw [tb] | rw [ta] | rw [tn])
    | wp_step)
  show R _ _
  rw [Heap.size_push]
  exact hq
theorem typeCallT (F : ExcBaseFacts B newId initId bmB) (T : Tells B bm) {rest : List Value} {fI : Addr} {Q : Fin → Shared → Prop}
    (hC : h.get? C = some (excClassObj nm q C N bs bm hdct sn sub ab col dd k0 k1 k2 k3 k5 newId))
    (hi : Looks (model prog w) h (typeLookup (.ref C) "__init__") (some (.ref fI)))
    (hb : ∀ self, Looks (model prog w) h (bindSpecial (.ref fI) self) (.ref fI, [self])) (few : rest.length ≤ sizeLine)
    (hq : codeAny (model prog w) A (.call (.ref fI) ⟨.ref (h.objs.size + 1) :: rest, []⟩)
      (fun r s' => match r with
        | .ok (.ret v) => v = .none ∧ Q (.done (.ret (.ref (h.objs.size + 1)))) s'
        | .ok _ => False
        | .error e => E e s') ⟨(h.push (kdv_tup rest)).push (excO C h.objs.size), g, d, t, os⟩) :
    wpAny (model prog w) A (Builtin.«type.__call__» ⟨.ref C :: rest, []⟩) Q E ⟨h, g, d, t, os⟩ := by
  repeat (first
    | with_reducible refine wpAny_loadPart_at hC ?_
    | with_reducible refine wpAny_madeBy_exc hC ?_
    | wp_step)
  apply codeAny_call_builtin_code (Code.quiet_builtin _ F.quiet)
  apply checkNewT F T hC
  refine newT F T hC ?_ few
  show wpAny _ _ _ _ _ _
  have grown : ∀ b o, h.get? b = some o → ((h.push (kdv_tup rest)).push (excO C h.objs.size)).get? b = some o :=
    fun b o e => Heap.get?_push_of_some _ (Heap.get?_push_of_some _ e)
  have atC := grown _ _ hC
  have atE : ((h.push (kdv_tup rest)).push (excO C h.objs.size)).get? (h.objs.size + 1) = some (excO C h.objs.size) := by heap_get
  have self_ : (Value.ref C :: bm).contains (.ref C) = true := by simp
  have li := hi.keeps grown
  have lb := (hb (.ref (h.objs.size + 1))).keeps grown
  unfold isInstance
  repeat (first
    | with_reducible refine wpAny_loadPart_at atE ?_
    | (with_reducible refine wpAny_isSubtype_exc atC ?_
       rw [self_])
    | wp_step)
  show wpAny _ _ (typeLookup (.ref C) _) _ _ _
  apply li.at
  apply wpAny_holding
  apply wpAny_bind
  apply lb.at
  apply wpAny_bind
  apply wpAny_call
  refine codeAny_mono hq ?_
  intro r s' z
  cases r with
  | error e => exact z
  | ok f =>
    cases f with
    | ret v =>
      obtain ⟨rfl, z⟩ := z
      first
        | exact wpAny_pure (wpAny_pure z)
        | (wp_walk; exact z)
    | next => exact z.elim
    | brk => exact z.elim
    | cont => exact z.elim
/-- C(..), C's __init__ its own -/
theorem callT (F : ExcBaseFacts B newId initId bmB) (T : Tells B bm) {rest : List Value} {fI : Addr}
    (hC : h.get? C = some (excClassObj nm q C N bs bm hdct sn sub ab col dd k0 k1 k2 k3 k5 newId))
    (hi : Looks (model prog w) h (typeLookup (.ref C) "__init__") (some (.ref fI)))
    (hb : ∀ self, Looks (model prog w) h (bindSpecial (.ref fI) self) (.ref fI, [self])) (few : rest.length ≤ sizeLine)
    (hq : codeAny (model prog w) (A.under (.builtin "type.__call__" ⟨.ref C :: rest, []⟩)) (.call (.ref fI) ⟨.ref (h.objs.size + 1) :: rest, []⟩) (InitBack (h.objs.size + 1) R)
      ⟨(h.push (kdv_tup rest)).push (excO C h.objs.size), g, d, t, os⟩) :
    codeAny (model prog w) A (.call (.ref C) ⟨rest, []⟩) R ⟨h, g, d, t, os⟩ := by
  have l1 := tc_lookup
  have l2 := tc_bind (.ref C)
  have ty : (⟨h, g, d, t, os⟩ : Shared).TypeIs (.ref C) "type" := ⟨_, hC, rfl⟩
  apply codeAny_of_tree
  show wpAny _ _ (callAny (.ref C) _) _ _ _
  repeat (any_goals (first
    | assumption
    | with_reducible refine wpAny_loadPart_at hC ?_
    | wp_step))
  refine ⟨rfl, ?_⟩
  refine codeAny_call_builtin_at (Code.quiet_builtin _ (by decide +kernel)) entry_typeCall ?_
  refine wpAny_check_type_call_sub hC (typeCallT F T hC hi hb few ?_)
  refine codeAny_mono hq ?_
  intro r s' z
  cases r with
  | error e => exact z
  | ok f => cases f <;> exact z
end
end GX
end PySem

set_option maxHeartbeats 4000000
/-! ### exceptions as values: asked for their class, read by their field, with or without a dict of their own -/
namespace PySem.GX
open PySem PySem.Spec PySem.Calls PyProof.Rows PySem.W
section
variable {prog : Program} {w : World} {A : Around} {E : Value → Shared → Prop} {s : Shared} {K : Frag} {x D : Addr} {ox : Obj} {od : Option Obj}
theorem found_class (hd : hasDictIn K D = true) (ha : findIn K (.ref D) "__class__" = some (some (.builtin "object.__class__")))
    (hn : specialIn K (.builtin "object.__class__") "__get__" = some (some (.builtin "getset_descriptor.__get__"))) (ht : takesIn K (.builtin "object.__class__") = some true) :
    findObj K D od "__class__" = some (.bind (.builtin "getset_descriptor.__get__") (.builtin "object.__class__")) := by
  obtain ⟨cd, hc, _⟩ := any_some hd
  unfold findObj
  rw [hc, Option.bind_some, ha, Option.bind_some]
  simp [hn, ht]
theorem class_of_exc {Q : Option Value → Shared → Prop} (C : L2.ExcC K D) (X : K.In s.heap) (I : InstAt s.heap x ox D od) (h : Q (some (.ref D)) { s with toks := s.toks + 1 }) :
    wpAny (model prog w) A (getAttr? (.ref x) "__class__") Q E s := by
  have fo := found_class (od := od) C.hd C.ha C.hn C.ht
  obtain ⟨hp, g, d, t, os⟩ := s
  have T0 := I.type (M := model prog w)
  have T1 := looks_findIn (M := model prog w) X C.hg
  have T2 := looks_findIn (M := model prog w) X C.hk
  have T3 := looks_find (M := model prog w) X I fo
  have isE : Looks (model prog w) hp (isInstance (.ref x) (.type "BaseException")) true := T0.andThen (looks_subIn X C.hs)
  have other : (Value.builtin "BaseException.__getattribute__" == Value.builtin "object.__getattribute__") = false := by decide +kernel
  have plain : (onTheHeap (Value.ref D) && Value.builtin "BaseException.__getattribute__" == Value.builtin "object.__getattribute__") = false := by
    rw [other]
    rfl
  have off : (false && onTheHeap (Value.builtin "BaseException.__getattribute__")) = false := rfl
  unfold getAttr? getAttrBy? getAttrBy
  apply wpAny_bind
  apply wpAny_mkText
  apply wpAny_bind
  apply wpAny_attempt
  apply wpAny_holding
  apply wpAny_bind
  apply T0.at
  apply wpAny_bind
  apply T1.at
  show wpAny _ _ (if (onTheHeap (Value.ref D) && Value.builtin "BaseException.__getattribute__" == Value.builtin "object.__getattribute__") = true then _ else _) _ _ _
  rw [plain, if_neg Bool.false_ne_true]
  unfold getAttrByItsOwn hookBefore
  apply wpAny_bind
  rw [if_pos (show onTheHeap (Value.ref D) = true from rfl)]
  apply T2.at
  apply wpAny_bind
  apply wpAny_attempt
  apply wpAny_holding
  unfold callGetattribute
  rw [off, if_neg Bool.false_ne_true]
  unfold boundAndCalled
  rw [PySem.F.excAttr_ValueError.ga.bind (.ref x)]
  apply wpAny_bind
  apply wpAny_pure
  show wpAny _ _ (call (.builtin "BaseException.__getattribute__") [.ref x, .str "__class__" t]) _ _ _
  apply wpAny_call
  apply codeAny_call_builtin PySem.F.excAttr_ValueError.ga.plain PySem.F.entry_bexc_ga
  refine @check_slot (model prog w) _ _ ⟨hp, g, d, t + 1, os⟩ "BaseException.__getattribute__" "BaseException" "__getattribute__" (.ref x) [.str "__class__" t] [] _
    (by decide +kernel) (by decide +kernel) isE (PySem.F.args_bexc_ga (.ref x) (.str "__class__" t)) ?_
  unfold Builtin.«object.__getattribute__»
  apply wpAny_bind
  refine wpAny_of_eq (a := ((Value.ref x : Value), [Value.str "__class__" t])) (by first | rfl | (simp only [slotArgs]; rfl)) ?_
  apply wpAny_bind
  apply wpAny_pure
  apply wpAny_bind
  apply T0.at
  apply wpAny_bind
  apply T3.at
  show wpAny _ _ (holding [Value.builtin "object.__class__"] (call (.builtin "getset_descriptor.__get__") [.builtin "object.__class__", .ref x, .ref D]) >>= ret) _ _ _
  apply wpAny_bind
  apply wpAny_holding
  apply wpAny_call
  refine class_get (s := ⟨hp, g, d, t + 1, os⟩) (ox := ox) (od := od) X I C.hm ?_
  apply wpAny_pure
  show wpAny _ _ (handedOut (.ref D)) _ _ _
  rw [handedOut_of (v := .ref D) rfl]
  first
    | exact wpAny_pure (wpAny_pure h)
    | exact wpAny_pure h
    | exact wpAny_pure (wpAny_bind (wpAny_pure (wpAny_pure h)))
theorem kit_exc (C : L2.ExcC K D) : KitX K (.ref x) (.ref D) (fun h => ∃ ox od, InstAt h x ox D od) := by
  obtain ⟨cd, hc, _⟩ := any_some C.hd
  have clsAt : ∃ o, K.lookup D = some o ∧ ∃ c, o.data = .cls c := by
    unfold clsIn at hc
    split at hc
    · rename_i c' d' c2 sl' ho
      exact ⟨_, ho, _, rfl⟩
    · cases hc
  refine ⟨fun _ _ _ ⟨_, _, I⟩ => I.type, fun _ _ X _ => ?_, fun h tp dd its n sl X htp => ?_, fun X ⟨_, _, I⟩ k => class_of_exc C X I k⟩
  · obtain ⟨o, e, c, ec⟩ := clsAt
    intro A' Q' E' s' k q
    unfold isType loadHead
    refine wpAny_bind (wpAny_loadPart (k _ _ (X _ _ e)) (wpAny_pure ?_))
    obtain ⟨o1, o2, o3, o4⟩ := o
    simp only at ec
    subst ec
    exact q
  · refine Bool.eq_false_iff.mpr fun q => ?_
    have e : D = tp := Value.ref.inj (beq_iff_eq.mp q)
    subst e
    obtain ⟨o, e, c, ec⟩ := clsAt
    have z : o.data = .seq its.toArray n := congrArg Obj.data (Option.some.inj ((X _ _ e).symm.trans htp))
    rw [ec] at z
    cases z
end
end PySem.GX
namespace GG
open PySem PySem.Spec PyProof.Rows L2
/-- the exception oe, just as it is, at a -/
def ExP (a : Addr) (oe : Obj) : HO := .ext fun h => h.get? a = some oe
theorem exP_ok {P : Program} {w : World} {H : Hp} {h : Heap} {a : Addr} {oe : Obj} (e : h.get? a = some oe) : ObjOk P w H h a (ExP a oe) := ⟨e, ⟨oe, e⟩, fun _ _ z k => k oe z⟩
/-- an exception of the class cls with its own dict d stands at a -/
def Exc (H : Hp) (a : Addr) (cls : Value) (d : Option Addr) : Prop := ∃ φ : Heap → Prop, H a = some (.ext φ) ∧ (∀ h, φ h → ∃ oe, h.get? a = some oe ∧ Zc cls d oe ∧ ∃ vs, oe.data = .fields vs) ∧
  (d = none ∨ ∃ dx fs, d = some dx ∧ H dx = some (.xd fs))
theorem Exc.same {H H' : Hp} {a : Addr} {cls : Value} {d : Option Addr} (x : Exc H a cls d) (s : Same H H') : Exc H' a cls d := by
  obtain ⟨φ, h1, h2, h3⟩ := x
  refine ⟨φ, s _ _ h1, h2, ?_⟩
  rcases h3 with h3 | ⟨dx, fs, h3, h4⟩
  · exact .inl h3
  · exact .inr ⟨dx, fs, h3, s _ _ h4⟩
theorem Exc.inst {X : Cx} {pins : List (Addr × Obj)} {σ : L2.St} {H : Hp} {s : Shared} {a D : Addr} {d : Option Addr} (I : Inv X pins σ H s) (x : Exc H a (.ref D) d) : ∃ ox od, PySem.W.InstAt s.heap a ox D od := by
  obtain ⟨φ, h1, h2, h3⟩ := x
  obtain ⟨p, _, _⟩ := (show ObjOk X.prog X.w H s.heap a (.ext φ) from I.hok a _ h1)
  obtain ⟨oe, e1, z, vs, hv⟩ := h2 _ p
  have nc : PySem.W.notCls oe = true := by
    unfold PySem.W.notCls
    rw [hv] <;> rfl
  rcases h3 with rfl | ⟨dx, fs, rfl, h4⟩
  · exact ⟨oe, none, e1, z.1, nc, by rw [z.2]; trivial⟩
  · obtain ⟨mA, hns, _⟩ := (show ObjOk X.prog X.w H s.heap dx (.xd fs) from I.hok dx _ h4)
    obtain ⟨od, ho, _⟩ := lookIn_ns hns
    exact ⟨oe, some od, e1, z.1, nc, by rw [z.2]; exact ho⟩
/-- isinstance(e, c) -/
def rIsX (K : PySem.W.Frag) : List V → Hp → VK → Prop := fun xs H Q => ∃ (a D : Addr) (d : Option Addr) (c : V) (cv : Value) (b : Bool), xs = [.ref a, c] ∧ Exc H a (.ref D) d ∧ ExcC K D ∧
  (∀ u, RelV c u → u = cv) ∧ PySem.W.kitOne K (.ref D) cv = some b ∧ Q (.bl b) H
theorem call_isX {X : Cx} : CallR X (.builtin "isinstance") (rIsX X.K) := by
  intro pins s σ H xs us Q I r h
  obtain ⟨a, D, d, c, cv, b, rfl, ex, C, hcv, e, q⟩ := h
  obtain ⟨u1, u2, rfl, r1, r2⟩ : ∃ u1 u2, us = [u1, u2] ∧ RelV (.ref a) u1 ∧ RelV c u2 := by
    cases r with
    | cons r1 r' =>
      cases r' with
      | cons r2 r'' =>
        cases r''
        exact ⟨_, _, rfl, r1, r2⟩
  cases (show u1 = Value.ref a from r1)
  cases hcv _ r2
  exact PySem.W.kia_one (PySem.GX.kit_exc C) I.kIn (ex.inst I) e (fun z => nomatch z) fun tk => ⟨.bl b, H, I.kept (t' := tk) fun _ _ z => z, rfl, q⟩
/-- e.fld, e an exception held as a value -/
structure FldX (K : PySem.W.Frag) (C : Addr) (fld : Str) : Prop where
  ga : PySem.W.findIn K (.ref C) "__getattribute__" = some (some (.builtin "BaseException.__getattribute__"))
  gg : PySem.W.findIn K (.ref C) "__getattr__" = some none
  ex : PySem.W.subIn K (.ref C) (.type "BaseException") = some true
  hd : PySem.W.hasDictIn K C = true
  no : PySem.W.findIn K (.ref C) fld = some none
def tFldX (C : Addr) (fld : Str) (te : TE) : TE := fun σ H Q => te σ H fun x H1 => ∃ (a dx : Addr) (v : V), x = .ref a ∧ Exc H1 a (.ref C) (some dx) ∧ H1 dx = some (.xd [(fld, v)]) ∧ Q v H1
theorem pe_fldX {X : Cx} {e : Expr} {te : TE} {C : Addr} {fld : Str} {pos : Pos} (T : FldX X.K C fld) (he : PE X e te) (hb : attributeBase e fld X.env (eval e X.env) = eval e X.env := by rfl) :
    PE X (.Attribute e fld pos) (tFldX C fld te) := by
  constructor
  intro pins s σ H Q I h
  refine attr_of hb (thn (he.run pins s σ H _ I h) ?_)
  intro u s1 hh
  obtain ⟨x, H1, I1, rx, a, dx, v, rfl, ex, ed, q⟩ := hh
  cases (show u = Value.ref a from rx)
  obtain ⟨φ, h1, h2, _⟩ := ex
  obtain ⟨p, _, _⟩ := (show ObjOk X.prog X.w H1 s1.heap a (.ext φ) from I1.hok a _ h1)
  obtain ⟨oe, e1, z, vs, hv⟩ := h2 _ p
  obtain ⟨mA, hns, hr⟩ := (show ObjOk X.prog X.w H1 s1.heap dx (.xd [(fld, v)]) from I1.hok dx _ ed)
  obtain ⟨od, ho, hl⟩ := lookIn_ns hns
  have l : List.lookup fld [(fld, v)] = some v := by simp [List.lookup]
  obtain ⟨u, hu, ru⟩ := RelO.some_of (v := v) (o := mA fld) (by rw [← l]; exact hr fld)
  have nc : PySem.W.notCls oe = true := by
    unfold PySem.W.notCls
    rw [hv] <;> rfl
  have J : PySem.W.InstAt s1.heap a oe C (some od) := ⟨e1, z.1, nc, by rw [z.2]; exact ho⟩
  exact HandSPX.exc_get I1.kIn J T.ga T.gg T.ex (PySem.W.findObj_own T.hd T.no rfl (by rw [hl, hu])) (handed_of ru) ⟨v, H1, I1.tok _, ru, q⟩
end GG

set_option maxHeartbeats 4000000
/-! ### own exceptions with one field, over any base (one that has no maker of its own too), made as values or to be raised -/
namespace PySem.GX
open PySem PySem.W PySem.Calls PyProof.Rows PySem.HandSPX
/-- what the written part says of such a class; bmS: the base's chain -/
structure OwnY (K : Frag) (fld : Str) (bmS : List Value) (B newId : String) (C fI : Addr) : Prop where
  cls : ∃ nm q N bs bm sn sub ab col dd k0 k1 k2 k3 k5, K.lookup C = some (excClassObj nm q C N bs bm true sn sub ab col dd k0 k1 k2 k3 k5 newId) ∧ excTail bmS bm = true ∧ Tells B bm
  sa : findIn K (.ref C) "__setattr__" = some (some (.builtin "object.__setattr__"))
  noN : findIn K (.ref C) fld = some none
  iC : findIn K (.ref C) "__init__" = some (some (.ref fI))
  tC : typeIn K (.ref fI) = some (.type "function")
section
variable {K : Frag} {C fI : Addr} {fld : Str} {B newId initId : String} {bmS bmB : List Value}
theorem OwnY.over (T : OwnY K fld bmS B newId C fI) : ∃ cd, clsIn K C = some cd ∧ excOver K C bmS = true ∧ cd.hasDict = true := by
  obtain ⟨nm, q, N, bs, bm, sn, sub, ab, col, dd, k0, k1, k2, k3, k5, at_, tl, _⟩ := T.cls
  have cl : clsIn K C = some { name := nm, bases := bs, mro := .ref C :: bm, ns := N, qualname := q, hasDict := true, slotNames := sn, subclasses := sub, abstract := ab, collection := col, hasDel := false } := by
    unfold clsIn
    rw [at_] <;> rfl
  refine ⟨_, cl, ?_, rfl⟩
  unfold excOver
  rw [cl]
  show (C == C && excTail bmS bm) = true
  rw [tl, Bool.and_true]
  exact beq_self_eq_true C
/-- C(v) makes an exception that keeps v -/
def Makes (K : Frag) (fld : Str) (C : Addr) : Prop :=
  ∀ (prog : Program) (w : World) (A : Around) (R : Result → Shared → Prop) (s : Shared) (v : Value), K.In s.heap → s.heap.NoLimit → A.depth + 1 < recursionLimit →
    (∀ h' tk e d, MadeX fld s.heap h' e C d v → R (.ok (.ret (.ref e))) { s with heap := h', toks := tk }) → codeAny (model prog w) A (.call (.ref C) ⟨[v], []⟩) R s
theorem makesY (F : ExcBaseFacts B newId initId bmB) (T : OwnY K fld bmS B newId C fI) (init : InitOk K fld C fI) : Makes K fld C := by
  intro prog w A R s v X lim deep hq
  obtain ⟨nm, q, N, bs, bm, sn, sub, ab, col, dd, k0, k1, k2, k3, k5, hC, _, hbm⟩ := T.cls
  obtain ⟨hp, g, dr, tk, os⟩ := s
  have grow : ∀ b o, hp.get? b = some o → ((hp.push (kdv_tup [v])).push (excO C hp.objs.size)).get? b = some o := by
    intro b o e
    exact Heap.get?_push_of_some _ (Heap.get?_push_of_some _ e)
  have made : ((hp.push (kdv_tup [v])).push (excO C hp.objs.size)).get? (hp.objs.size + 1) = some (excO C hp.objs.size) := by heap_get
  have unknown : K.lookup (hp.objs.size + 1) = none := by
    rcases e : K.lookup (hp.objs.size + 1) with _ | o
    · rfl
    · exact absurd (Nat.lt_of_succ_lt (Heap.lt_size (show hp.get? (hp.objs.size + 1) = some o from X _ _ e))) (Nat.lt_irrefl _)
  refine callT F hbm (X _ _ hC) (looks_findIn X T.iC) (fun self => bind_fn X self T.tC) (single_size v) ?_
  refine init prog w _ _ ⟨(hp.push (kdv_tup [v])).push (excO C hp.objs.size), g, dr, tk, os⟩ _ _ v (X.keeps grow) (lim.keeps grow) made unknown deep ?_
  intro h' tk' dx ⟨k', hx, dn, dne, hns⟩
  refine ⟨rfl, hq h' tk' (hp.objs.size + 1) dx ⟨fun b o e => k' b o (Nat.ne_of_lt (Nat.lt_succ_of_lt (Heap.lt_size e))) (grow b o e), Nat.le_succ _, ⟨_, hx⟩, ?_, dne, hns⟩⟩
  have z : hp.objs.size + 1 + 1 ≤ dx := by
    first
      | (simpa only [Heap.size_push] using dn)
      | exact dn
      | (have q := dn
         rw [Heap.size_push, Heap.size_push] at q
         exact q)
  exact Nat.le_trans (Nat.le_trans (Nat.le_succ _) (Nat.le_succ _)) z
end
end PySem.GX
namespace GG
open PySem PySem.Spec PyProof.Rows L2
section
variable {X : Cx} {C : Addr} {cn fld : Str}
/-- the heap without what stands at e, its dict tracked -/
theorem made_inv {pins : List (Addr × Obj)} {σ : L2.St} {H1 : Hp} {hp : Heap} {g : Array GenState} {dr : Drawn} {tk : Nat} {os : OsState} {v : V} {v' : Value} {h' : Heap} {tk' : Nat} {e d : Addr}
    (I1 : Inv X pins σ H1 ⟨hp, g, dr, tk, os⟩) (rv : RelV v v') (M : PySem.GX.MadeX fld hp h' e C d v') :
    ∃ G' : Heap, (∀ b, b ≠ e → G'.get? b = h'.get? b) ∧ G'.get? e = none ∧ H1 e = none ∧ H1 d = none ∧ d ≠ e ∧ Inv X pins σ (upd H1 d (.xd [(fld, v)])) ⟨G', g, dr, tk', os⟩ := by
  obtain ⟨G', g1, g2⟩ := restrict h' fun b => decide (b ≠ e)
  have gk : ∀ b, b ≠ e → G'.get? b = h'.get? b := fun b hb => g1 b (decide_eq_true hb)
  have old : ∀ b o, hp.get? b = some o → G'.get? b = some o := by
    intro b o q
    exact (gk b (Nat.ne_of_lt (Nat.lt_of_lt_of_le (Heap.lt_size q) M.new))).trans (M.keep b o q)
  have ob : ObjOk X.prog X.w (upd H1 d (.xd [(fld, v)])) G' d (.xd [(fld, v)]) :=
    ⟨_, M.ns.at (fun o q => (gk d M.dne).trans q), fun f => relX rv f⟩
  exact ⟨G', gk, g2 e (by simp), I1.hok.fresh M.new, I1.hok.fresh M.dbig, M.dne, I1.laid (t' := tk') old M.dbig ob⟩
/-- X(e), to be raised -/
theorem pmkM {a : Expr} {ta : TA} {p pos : Pos} {k : Nat} (M : PySem.GX.Makes X.K fld C) (gC : X.mg cn = some (.ref C)) (kC : PySem.W.keepIn X.K (.ref C) = true)
    (exC : PySem.W.subIn X.K (.ref C) (.type "BaseException") = some true) (tyC : PySem.W.typeIn X.K (.ref C) = some (.type "type")) (hr : Room k X.A) (ha : PA X [a] ta)
    (hg : Gl X cn := by rfl) (hdb : (cn == ("__debug__" : Str)) = false := by decide)
    (he : starEach (a :: []) X.env = (false, eval a X.env) :: starEach [] X.env := by rfl) (hpl : (backTo pos (starEach [] X.env)).any (·.1) = false := by rfl) :
    PMk X (.Call (.Name cn p) [a] [] pos) (tMkX C fld ta) := by
  intro pins s σ H Q I h
  apply wpAny_Call_Name_kw
  refine ld_glob I hg gC ?_ hdb
  refine PySem.W.callWith_K (h₀ := X.base) I.ok.mod.kin kC (thn (ha.run pos pins s σ H _ I h) ?_) he hpl
  intro us s1 hh
  obtain ⟨vs, H1, I1, r1, v, rfl, q1⟩ := hh
  refine ⟨I1.kIn, ?_⟩
  obtain ⟨v', rfl, rv⟩ := vals1 r1
  show wpAny _ _ (call (.ref C) [v']) _ _ _
  have lim := I1.nolimit
  obtain ⟨hp, g, dr, tk, os⟩ := s1
  have deep := hr.dp
  refine wpAny_call (M X.prog X.w _ _ _ v' I1.kIn lim (by omega) fun h' tk' e d N => ?_)
  show MkP X pins σ Q (.ref e) ⟨h', g, dr, tk', os⟩
  obtain ⟨t1, oe⟩ := N.obj
  obtain ⟨G', gk, ge, he1, hd1, dne, J⟩ := made_inv (tk' := tk') I1 rv N
  refine ⟨e, _, _, ⟨G', g, dr, tk', os⟩, _, .ref C, some d, rfl, J, fun b o q => ?_, ge, oe, ⟨rfl, rfl⟩, rfl, rfl, ?_, rfl, I1.bare, raises_own exC tyC, q1 d hd1⟩
  · by_cases hb : b = e
    · have q' : G'.get? b = some o := q
      rw [hb, ge] at q'
      cases q'
    · exact (gk b hb).symm.trans q
  · rw [upd_ne (Ne.symm dne)]
    exact he1
/-- raise X(e) -/
theorem ps_raiseM {a : Expr} {ta : TA} {W : WX} {p pos pos2 : Pos} {k : Nat} (hc : X.calm = true) (M : PySem.GX.Makes X.K fld C) (gC : X.mg cn = some (.ref C)) (kC : PySem.W.keepIn X.K (.ref C) = true)
    (exC : PySem.W.subIn X.K (.ref C) (.type "BaseException") = some true) (tyC : PySem.W.typeIn X.K (.ref C) = some (.type "type")) (hr : Room k X.A) (tk : Takes X W) (ha : PA X [a] ta)
    (hg : Gl X cn := by rfl) (hdb : (cn == ("__debug__" : Str)) = false := by decide)
    (he : starEach (a :: []) X.env = (false, eval a X.env) :: starEach [] X.env := by rfl) (hpl : (backTo pos (starEach [] X.env)).any (·.1) = false := by rfl) :
    PS X (.Raise (some (.Call (.Name cn p) [a] [] pos)) none pos2) (tRaiseX C fld W ta) := ps_raise hc tk (pmkM M gC kC exC tyC hr ha hg hdb he hpl)
/-- X(e), held as a value -/
def tNewX (C : Addr) (fld : Str) (ta : TA) : TE := fun σ H Q => ta σ H fun vs H1 => ∃ v, vs = [v] ∧ ∀ (e d : Addr) (H2 : Hp), Same H1 H2 → H1 e = none → H1 d = none → Exc H2 e (.ref C) (some d) → H2 d = some (.xd [(fld, v)]) → Q (.ref e) H2
theorem pe_newX {a : Expr} {ta : TA} {p pos : Pos} {k : Nat} (M : PySem.GX.Makes X.K fld C) (gC : X.mg cn = some (.ref C)) (kC : PySem.W.keepIn X.K (.ref C) = true) (hr : Room k X.A) (ha : PA X [a] ta)
    (hg : Gl X cn := by rfl) (hdb : (cn == ("__debug__" : Str)) = false := by decide)
    (he : starEach (a :: []) X.env = (false, eval a X.env) :: starEach [] X.env := by rfl) (hpl : (backTo pos (starEach [] X.env)).any (·.1) = false := by rfl) :
    PE X (.Call (.Name cn p) [a] [] pos) (tNewX C fld ta) := by
  constructor
  intro pins s σ H Q I h
  apply wpAny_Call_Name_kw
  refine ld_glob I hg gC ?_ hdb
  refine PySem.W.callWith_K (h₀ := X.base) I.ok.mod.kin kC (thn (ha.run pos pins s σ H _ I h) ?_) he hpl
  intro us s1 hh
  obtain ⟨vs, H1, I1, r1, v, rfl, q1⟩ := hh
  refine ⟨I1.kIn, ?_⟩
  obtain ⟨v', rfl, rv⟩ := vals1 r1
  show wpAny _ _ (call (.ref C) [v']) _ _ _
  have lim := I1.nolimit
  obtain ⟨hp, g, dr, tk, os⟩ := s1
  have deep := hr.dp
  refine wpAny_call (M X.prog X.w _ _ _ v' I1.kIn lim (by omega) fun h' tk' e d N => ?_)
  obtain ⟨t1, oe⟩ := N.obj
  obtain ⟨G', gk, ge, he1, hd1, dne, J⟩ := made_inv (tk' := tk') I1 rv N
  have n2 : upd H1 d (.xd [(fld, v)]) e = none := by
    rw [upd_ne (Ne.symm dne)]
    exact he1
  have J2 : Inv X pins σ (upd (upd H1 d (.xd [(fld, v)])) e (ExP e _)) ⟨h', g, dr, tk', os⟩ := J.laidN (t' := tk') (fun b u q => by
    have hb : b ≠ e := fun z => by
      rw [z, ge] at q
      cases q
    exact (gk b hb).symm.trans q) ge n2 (exP_ok oe)
  have at2 : upd (upd H1 d (.xd [(fld, v)])) e (ExP e { cls := .ref C, dict := some d, data := .fields #[.ref t1, .none, .none, .none, .bool false, .none] }) d = some (.xd [(fld, v)]) := by
    rw [upd_ne dne, upd_same]
  exact ⟨.ref e, _, J2, rfl, q1 e d _ ((sameUpd hd1).trans (sameUpd n2)) he1 hd1 ⟨_, upd_same, fun h z => ⟨_, z, ⟨rfl, rfl⟩, _, rfl⟩, .inr ⟨d, _, rfl, at2⟩⟩ at2⟩
end
/-- an own exception without a field, held as a value -/
theorem exc_exO {H : Hp} {a : Addr} {cls : Value} (h : H a = some (ExO cls a)) : Exc H a cls none :=
  ⟨_, h, fun _ ⟨oe, vs, e, z, d, _⟩ => ⟨oe, e, z, vs, d⟩, .inl rfl⟩
end GG

set_option maxHeartbeats 4000000
namespace GG
open PySem PySem.Spec PyProof.Rows L2
/-! ### several except clauses, the suites told that what they hold is new -/
inductive ClausesB (X : Cx) : List ExceptHandler → List Clause → Prop
  | nil : ClausesB X [] []
  | plain {x : Str} {c : Value} {ts : Addr → Value → Option Addr → TS} {b₀ : Stmt} {suite : List Stmt} {np pos' : Pos} {hds : List ExceptHandler} {l : List Clause} (hc : Names X x c)
      (hsu : ∀ (a : Addr) (oe : Obj) (cls : Value) (d : Option Addr) (pn : List (Addr × Obj)), Zc cls d oe → (∃ vs, oe.data = .fields vs) → X.base.get? a = none → a ∉ frs X.stack →
        PSs (X.suite a ((a, oe) :: pn)) (b₀ :: suite) (ts a cls d))
      (r : ClausesB X hds l) : ClausesB X (.ExceptHandler (some (.Name x np)) none (b₀ :: suite) pos' :: hds) ((c, none, ts) :: l)
  | named {x n : Str} {i : Nat} {c : Value} {ts : Addr → Value → Option Addr → TS} {b₀ : Stmt} {suite : List Stmt} {np pos' : Pos} {hds : List ExceptHandler} {l : List Clause}
      (hN : X.N.Nodup) (hi : X.N[i]? = some n) (hln : X.env.kindOf n = some .local) (hc : Names X x c)
      (hsu : ∀ (a : Addr) (oe : Obj) (cls : Value) (d : Option Addr) (pn : List (Addr × Obj)), Zc cls d oe → (∃ vs, oe.data = .fields vs) → X.base.get? a = none → a ∉ frs X.stack →
        PSs (X.suite a ((a, oe) :: pn)) (b₀ :: suite) (ts a cls d))
      (r : ClausesB X hds l) : ClausesB X (.ExceptHandler (some (.Name x np)) (some n) (b₀ :: suite) pos' :: hds) ((c, some i, ts) :: l)
section
variable {X : Cx} {body : List Stmt} {h₀ : ExceptHandler} {hds : List ExceptHandler} {l : List Clause} {pos : Pos} {tb : WX → TS} {Wout : WX}
/-- the handlers, met by the exception at a in flight -/
theorem clauses_goB {pins : List (Addr × Obj)} {σ' : L2.St} {H' : Hp} {sI s' : Shared} {a : Addr} {B : Heap} {cls : Value} {d : Option Addr} {D : Ends}
    (hs : X.stack = X.env :: X.outer) (hf : X.env.frame = some X.env.locals) (tk : Takes X Wout) (J : Inv X pins σ' H' sI)
    (nb : ∀ b o, sI.heap.get? b = some o → b ∉ frs X.stack → B.get? b = some o) (up : sI.heap.UpToSlots s'.heap) (na : H' a = none)
    (os : s'.os = sI.os) (ag : AllBare s'.gens) {h3 : Heap} (fl3 : HandSPX.FlyingZ B (X.env :: X.outer) a (Zc cls d) h3) (up3 : s'.heap.UpToSlots h3)
    {k : List ExceptHandler} {m : List Clause} (C : ClausesB X k m) :
    wClauses X.K Wout D m cls d σ' H' → wpAny (model X.prog X.w) X.A (handleBy (.ref a) X.env k) (SP X pins D) X.xe { s' with heap := h3 } := by
  have ok := J.ok
  have upA := up.trans up3
  have J3 : Inv X pins σ' H' { s' with heap := h3 } := J.landed nb fl3.1 upA os ag
  obtain ⟨oe3, vs3, he3, hz3, hd3⟩ := fl3.there
  have outside : a ∉ frs (X.env :: X.outer) := by
    intro hm
    obtain ⟨_, o', e', hnf⟩ := fl3.2.2.1.mem hm
    rw [he3] at e'
    cases e'
    exact hnf _ hd3
  have gF : a ∉ frs X.stack := by
    rw [hs]
    exact outside
  have gB : X.base.get? a = none := by
    rcases e : X.base.get? a with _ | o
    · rfl
    · have z := nb a o (J.bs a o e).1 gF
      rw [fl3.2.1] at z
      cases z
  have nL : a ≠ X.env.locals := fun z => outside (List.mem_filterMap.mpr ⟨X.env, List.mem_cons_self, by rw [hf, z]⟩)
  have nF : a ∉ X.fs := by
    intro hm
    obtain ⟨e, he, q⟩ := List.mem_filterMap.mp hm
    exact outside (List.mem_filterMap.mpr ⟨e, List.mem_cons_of_mem _ he, q⟩)
  have S3 := J3.suite he3 hd3 na nL nF
  have look : ∀ {x : Str} {c : Value} {np : Pos} {Q : Value → Shared → Prop} {E : Value → Shared → Prop}, Names X x c → Q c { s' with heap := h3 } →
      wpAny (model X.prog X.w) (X.A.mark (some (.ref a))) (eval (.Name x np) X.env) Q E { s' with heap := h3 } := by
    intro x c np Q E hc q
    obtain ⟨hg, hdbg, hm | ⟨hm, hv, hnn⟩⟩ := hc
    · exact ld_glob (X := X.suite a ((a, oe3) :: (X.pn ++ pins))) S3 hg hm q hdbg
    · exact ld_blt (X := X.suite a ((a, oe3) :: (X.pn ++ pins))) S3 hg hm hv q hnn hdbg
  have kindA : PySem.W.Looks (model X.prog X.w) h3 (typeOf (.ref a)) cls := by
    intro A Q E s kp q
    exact wpAny_typeOf_ref (kp _ _ he3) (by rw [hz3.1]; exact q)
  induction C with
  | nil =>
    intro wish
    refine wpAny_handleBy_nil ?_
    obtain ⟨k1, k2, k3, oe, vs, T, oT, ts', he, hz, hd, h1, hr⟩ := id fl3
    unfold PySem.passOn
    refine wpAny_bind (wpAny_field he hd h1 ?_)
    rw [if_neg (show ¬ ((Value.ref T == Value.none) = true) from by simp)]
    have out : wpAny (model X.prog X.w) X.A (setFlight (.ref a) X.env.frame)
        (fun _ s4 => wpAny (model X.prog X.w) X.A (throw (.ref a) : Sem Flow) (SP X pins D) X.xe s4) X.xe { s' with heap := h3 } := by
      rw [hf]
      refine HandSPX.setFlight_upZ fl3 fun h4 hh4 up4 => wpAny_throw (tk _ _ ?_)
      exact ⟨a, B, sI, pins, σ', H', cls, d, rfl, J, nb, upA.trans up4, .inr (.inr (by rw [hs]; exact hh4)), na, os, ag, wish⟩
    first
      | exact wpAny_bind (wpAny_pure (wpAny_bind out))
      | exact wpAny_bind out
  | @plain x c ts b₀ suite np pos' hds2 l2 hc hsu r ih =>
    intro wish
    obtain ⟨b, hb1, yes, no⟩ := wish
    refine wpAny_handleBy_cons (codeAny_handlers_test ?_) (by intro q; cases q)
    have LM := PySem.W.exm_one (M := model X.prog X.w) (J3.kIn) kindA hb1
    refine look hc (LM.here ?_)
    cases b with
    | false => exact ih (no rfl)
    | true =>
      refine codeAny_handlers_suite (HandSPX.lands_againZ fl3 fun h4 fl4 up4 => ?_)
      have J4 : Inv X pins σ' H' { s' with heap := h4 } := J.landed nb fl4.1 (upA.trans up4) os ag
      obtain ⟨oe4, vs4, he4, hz4, hd4⟩ := fl4.there
      have S4 := J4.suite he4 hd4 na nL nF
      refine wpAny_mono ((hsu a oe4 cls d (X.pn ++ pins) hz4 ⟨_, hd4⟩ gB gF).run [] _ _ H' _ S4 (yes rfl a na)) (fun f s6 hsp => ?_) (fun _ _ z => False.elim z)
      cases f with
      | next => exact hsp.imp fun _ z => z.imp fun _ z => ⟨z.1.unsuite ok, z.2⟩
      | brk => exact hsp.imp fun _ z => z.imp fun _ z => ⟨z.1.unsuite ok, z.2⟩
      | cont => exact hsp.imp fun _ z => z.imp fun _ z => ⟨z.1.unsuite ok, z.2⟩
      | ret u => exact hsp.imp fun _ z => z.imp fun _ z => z.imp fun _ z => ⟨z.1.unsuite ok, z.2⟩
  | @named x n i c ts b₀ suite np pos' hds2 l2 hN hi hln hc hsu r ih =>
    intro wish
    obtain ⟨b, hb1, yes, no⟩ := wish
    refine wpAny_handleBy_cons (codeAny_handlers_test ?_) (by intro q; cases q)
    have LM := PySem.W.exm_one (M := model X.prog X.w) (J3.kIn) kindA hb1
    refine look hc (LM.here ?_)
    cases b with
    | false => exact ih (no rfl)
    | true =>
      refine codeAny_handlers_suite_as (HandSPX.lands_againZ fl3 fun h4 fl4 up4 => ?_)
      have J4 : Inv X pins σ' H' { s' with heap := h4 } := J.landed nb fl4.1 (upA.trans up4) os ag
      obtain ⟨oe4, vs4, he4, hz4, hd4⟩ := fl4.there
      have S4 := J4.suite he4 hd4 na nL nF
      refine store_ok (X := X.suite a ((a, oe4) :: (X.pn ++ pins))) (v := .ref a) S4 hN hi (.inl hln) rfl (fun s5 S5 => ?_) (.inr hln)
      refine wpAny_mono ((hsu a oe4 cls d (X.pn ++ pins) hz4 ⟨_, hd4⟩ gB gF).run [] s5 _ H' _ S5 (yes rfl a na)) (fun f s6 hsp => ?_) (fun _ _ z => False.elim z)
      have gone : ∀ {σ6 : L2.St} {H6 : Hp} {Q : Shared → Prop}, Inv (X.suite a ((a, oe4) :: (X.pn ++ pins))) [] σ6 H6 s6 → (∀ s7, Inv X pins (σ6.set i none) H6 s7 → Q s7) →
          wpAny (model X.prog X.w) X.A (do bindName X.env n .none; unbindBehindTheSuite X.env n pos') (fun _ s7 => Q s7) X.xe s6 :=
        fun {σ6 H6 Q} S6 hq => gone_ok (S6.unsuite ok) hN hi hln hq
      cases f with
      | next =>
        obtain ⟨σ6, H6, S6, q6⟩ := hsp
        exact gone S6 fun s7 J7 => ⟨_, _, J7, q6⟩
      | brk =>
        obtain ⟨σ6, H6, S6, q6⟩ := hsp
        exact gone S6 fun s7 J7 => ⟨_, _, J7, q6⟩
      | cont =>
        obtain ⟨σ6, H6, S6, q6⟩ := hsp
        exact gone S6 fun s7 J7 => ⟨_, _, J7, q6⟩
      | ret u =>
        obtain ⟨v6, σ6, H6, S6, r6, q6⟩ := hsp
        exact gone S6 fun s7 J7 => ⟨_, _, _, J7, r6, q6⟩
/-- try: .. except X as e: .. except Y: .. -/
theorem ps_tryB (hs : X.stack = X.env :: X.outer) (hf : X.env.frame = some X.env.locals) (tk : Takes X Wout)
    (hb : ∀ (W : WX) (pn : List (Addr × Obj)) (xe : Value → Shared → Prop), Takes (X.tr pn xe) W → PassesOwn (model X.prog X.w) X.A X.env xe → PSs (X.tr pn xe) body (tb W))
    (hh : ClausesB X (h₀ :: hds) l) : PS X (.Try body (h₀ :: hds) [] [] pos) (fun D σ H => tb (wClauses X.K Wout D l) D σ H) := by
  constructor
  intro pins s σ H D I h
  have ok := I.ok
  have fr : X.A.frames = some (X.env :: X.outer) := by rw [ok.frames, hs]
  refine wpAny_Try_except ?_
  have meet : Takes (X.tr (X.pn ++ pins) (fun e s₁ => wpAny (model X.prog X.w) X.A (noteFrame e X.env) (fun _ s₂ => wpAny (model X.prog X.w) X.A (setFlight e none)
      (fun _ s₃ => wpAny (model X.prog X.w) X.A (handleBy e X.env (h₀ :: hds)) (SP X pins D) X.xe s₃) X.xe s₂) X.xe s₁)) (wClauses X.K Wout D l) := by
    intro u s' xx
    obtain ⟨a, B, sI, pins', σ', H', cls, d, rfl, J', nb, up, sky, na, os, ag, wish⟩ := xx
    have sky' : Sky B (X.env :: X.outer) a (Zc cls d) X.env.locals s'.heap := by rw [← hs]; exact sky
    show wpAny (model X.prog X.w) X.A (noteFrame (.ref a) X.env) _ _ _
    exact Sky.land Zc.steady fr hf sky' fun h3 fl3 up3 => clauses_goB hs hf tk (J'.ofTry ok) nb up na os ag fl3 up3 hh wish
  have run := (hb _ _ _ meet PassesOwn.looking).run [] s σ H D (I.toTry _) h
  refine wpAny_mono run (fun f s1 hsp => ?_) (fun e s1 he => he)
  cases f with
  | next =>
    obtain ⟨σ', H', J', q⟩ := hsp
    exact wpAny_execs_nil ⟨σ', H', J'.ofTry ok, q⟩
  | brk => exact hsp.imp fun _ z => z.imp fun _ z => ⟨z.1.ofTry ok, z.2⟩
  | cont => exact hsp.imp fun _ z => z.imp fun _ z => ⟨z.1.ofTry ok, z.2⟩
  | ret u => exact hsp.imp fun _ z => z.imp fun _ z => z.imp fun _ z => ⟨z.1.ofTry ok, z.2⟩
end
end GG

namespace GG
open PySem PySem.Spec PyProof.Rows L2
section
variable {X : Cx} {CX : CXT} {k : Nat} {f : Addr} {fd : FuncData} {ps : List Str} {sp : Sp} {x : Str} {p pos : Pos} {a : Addr} {oe : Obj} {pn : List (Addr × Obj)} {e : Expr} {t : TA}
/-- f(e) in a suite, e the exception that it holds; f leaves the heap -/
def tPin (sp : Sp) (a : Addr) (oe : Obj) (t : TA) : TE := fun σ H Q => t σ H fun vs H1 => vs = [.ref a] ∧ sp [.ref a] (upd H1 a (ExP a oe)) (fun u H2 => H2 = upd H1 a (ExP a oe) ∧ Q u H1) fun _ _ _ => False
theorem hok_less {P : Program} {w : World} {H : Hp} {h : Heap} {a : Addr} {φ : Heap → Prop} (x : HOk P w (upd H a (.ext φ)) h) (n : H a = none) : HOk P w H h := by
  intro b o e
  have nb : b ≠ a := fun z => by
    rw [z, n] at e
    cases e
  refine (x b o (by rw [upd_ne nb]; exact e)).stay (fun _ _ _ q => q) (fun c q => ?_) (fun c xs q => ?_)
  · by_cases z : c = a
    · rw [z, upd_same] at q
      cases q
    · rw [upd_ne z] at q
      exact q
  · by_cases z : c = a
    · rw [z, upd_same] at q
      cases q
    · rw [upd_ne z] at q
      exact q
theorem pe_callPin (F : FnOk X.prog X.w X.K X.mg X.base CX k f fd ps sp) (noX : ∀ (l : List Env) (H : Hp) (s : Shared) (e : Value) (s' : Shared), CX l H s (fun _ _ _ => False) e s' → False) (gB : X.base.get? a = none) (gF : a ∉ frs X.stack)
    (hr : Room k (X.suite a ((a, oe) :: pn)).A) (hg : Gl (X.suite a ((a, oe) :: pn)) x) (hm : X.mg x = some (.ref f)) (kp : PySem.W.keepIn X.K (.ref f) = true) (bd : L2.Binds X.K fd ps [])
    (ha : PA (X.suite a ((a, oe) :: pn)) (e :: []) t) (hdb : (x == ("__debug__" : Str)) = false := by decide)
    (hs : starEach [e] X.env = (false, eval e X.env) :: starEach [] X.env := by rfl) (hpl : (backTo pos (starEach [] X.env)).any (·.1) = false := by rfl) :
    PE (X.suite a ((a, oe) :: pn)) (.Call (.Name x p) [e] [] pos) (tPin sp a oe t) := by
  constructor
  intro pins s σ H Q I h
  apply wpAny_Call_Name_kw
  refine ld_glob I hg hm ?_ hdb
  refine PySem.W.callWith_K (h₀ := X.base) I.ok.mod.kin kp ?_ hs hpl
  refine thn (ha.run pos pins s σ H _ I h) ?_
  · intro us s1 ⟨vs, H1, I1, r, ev, q⟩
    subst ev
    obtain ⟨u, rfl, ru⟩ := vals1 r
    refine ⟨I1.kIn, ?_⟩
    obtain ⟨at_, none_, _, _, _⟩ := I1.pin (a, oe) (List.mem_append_left _ List.mem_cons_self)
    have E0 := I1.env0
    have E1 : Env0 X.prog X.w X.K X.mg X.base (X.suite a ((a, oe) :: pn)).A X.stack s1 (upd H1 a (ExP a oe)) := by
      refine ⟨E0.frames, E0.mod, fun b o e => ?_, E0.bsz, E0.funs, fun b hb => ?_, ?_, E0.bare⟩
      · have nb : b ≠ a := fun z => by
          rw [z, gB] at e
          cases e
        rw [upd_ne nb]
        exact E0.bs b o e
      · have nb : b ≠ a := fun z => gF (z ▸ hb)
        rw [upd_ne nb]
        exact E0.frf b hb
      · exact E0.hok.laidN (fun _ _ q => q) none_ (exP_ok at_)
    have run := F.run _ _ s1 _ ⟨[u], []⟩ [u] [.ref a] _ _ hr E1 (by have := bd s1 [u] I1.kIn (by have := F.len _ _ _ _ q; simpa using this); simpa using this) (.cons ru .nil) q
    refine wpAny_call (codeAny_mono run fun res s2 z => ?_)
    cases res with
    | error e => exact (noX _ _ _ _ _ z).elim
    | ok fl =>
      cases fl with
      | next => exact z.elim
      | brk => exact z.elim
      | cont => exact z.elim
      | ret u2 =>
        obtain ⟨v2, H2, os, bare, un, hok, rv, eH, q2⟩ := z
        subst eH
        obtain ⟨at2, _, _⟩ := (show ObjOk X.prog X.w _ s2.heap a (ExP a oe) from hok a _ upd_same)
        refine I1.after ⟨v2, H1, os, bare, ⟨fun b o e n hb hx => ?_, fun b o e n hb hx => ?_, fun b o e n hx => n, fun b o e hx => un.there b o e hx, fun b xs e => e, fun b o u e => e, fun b ps e => ⟨#[], by rw [Array.append_empty]; exact e⟩⟩, hok_less hok none_, rv, q2⟩
        · by_cases z : b = a
          · subst z
            rw [at_] at e
            cases e
            exact at2
          · exact un.keep b o e (by rw [upd_ne z]; exact n) hb hx
        · have nb : b ≠ a := fun z => gF (z ▸ hb)
          exact un.slot b o e (by rw [upd_ne nb]; exact n) hb hx
end
end GG

set_option maxHeartbeats 4000000
namespace GG
open PySem PySem.Spec PyProof.Rows L2 LamX
/-! ### the end of a law's row whose text makes lambdas -/
section
variable {P : Program} {w : World} {K : PySem.W.Frag} {mg mb : Str → Option Value} {CX : CXT} {k : Nat} {fa a : Addr} {cs : List (Addr × Addr)} {fd : FuncData}
  {x : Str} {sp : Sp} {s₁ : Shared} {vs : List Value} {ns : List Int}
theorem law_coreT {H : Hp} (KX : K.In s₁.heap) (ng : s₁.heap.Ns mainGlobals mg) (nb : s₁.heap.Ns builtinsNs mb)
    (bb : ∀ x : Str, x ≠ "__name__" → mb x = bootBuiltins x) (lim : s₁.heap.NoLimit) (g0 : s₁.gens = #[])
    (empties : ∀ p ∈ cs, s₁.heap.get? p.2 = some { cls := .none, data := .fields #[] }) (notT : ∀ p ∈ cs, K.lookup p.2 = none)
    (code : ∀ p ∈ cs, PySem.W.CodeHd s₁.heap p.1 p.2)
    (hbm : ∃ (bm : Addr) (ob : Obj), mg "__builtins__" = some (.ref bm) ∧ bm ≠ builtinsNs ∧ s₁.heap.get? bm = some ob ∧ ob.cls = .type "module" ∧ ob.dict = some builtinsNs ∧ ob.data = .plain)
    (ha : s₁.heap.get? a = some { cls := .type "list", data := .seq vs.toArray }) (room : Room k callerA)
    (F : ∀ base : Heap, K.In base → base.Ns mainGlobals mg → (∀ p ∈ cs, TabB base mg p.1 p.2) → FnG P w K mg base CX k fa fd [x] sp)
    (bind : ∀ (s : Shared) (u : Value), BindsTo s fd ⟨[u], []⟩ [(x, u)])
    (want : sp [.ref a] H (fun v _ => v = .bl true) fun _ _ _ => False)
    (noX : ∀ H e s', CX [] H s₁ (fun _ _ _ => False) e s' → False)
    (tabs : ∀ p ∈ cs, H p.2 = some (.tbl #[]))
    (only : ∀ b, H b = none ∨ b ∈ cs.map (·.2) ∨ ∃ o xs, H b = some (.frz o (.lst xs))) (ok : HOk P w H s₁.heap)
    (where_ : ∀ b, H b ≠ none → b = a ∨ b ∈ cs.map (·.2)) (notK : H a ≠ none → K.lookup a = none) :
    codeAny (model P w) callerA (.call (.ref fa) ⟨[.ref a], []⟩)
      (fun r s' => r = .ok (.ret (.bool true)) ∧ OldK s₁.heap s'.heap ∧ s'.os = s₁.os ∧ AllBare s'.gens) s₁ := by
  have tabAt : ∀ b : Addr, b ∈ cs.map (·.2) → s₁.heap.get? b = some { cls := .none, data := .fields #[] } := by
    intro b hb
    obtain ⟨p, hp, e⟩ := List.mem_map.mp hb
    rw [← e]
    exact empties p hp
  have untracked : ∀ {b : Addr} {o : Obj}, s₁.heap.get? b = some o → (∀ vs n, o.data ≠ .seq vs n) → o.data ≠ .fields #[] → H b = none := by
    intro b o e h1 h2
    rcases hq : H b with _ | u
    · rfl
    · rcases where_ b (fun z => by rw [z] at hq; cases hq) with e' | e'
      · rw [e', ha] at e
        cases e
        exact (h1 _ _ rfl).elim
      · rw [tabAt b e'] at e
        cases e
        exact (h2 rfl).elim
  have dictFree : ∀ {b : Addr} {o : Obj} {es : Array DictEntry} {ep : Nat}, s₁.heap.get? b = some o → o.data = .dict es ep → H b = none := by
    intro b o es ep e d
    exact untracked e (fun vs n z => by rw [d] at z; cases z) (fun z => by rw [d] at z; cases z)
  have nsB : ∀ {b : Addr} {m : Str → Option Value}, s₁.heap.Ns b m → (hidT s₁.heap H).Ns b m := by
    rintro b m ⟨o, es, ep, e, d, r⟩
    exact ⟨o, es, ep, hidT_get e (dictFree e d), d, r⟩
  have KB : K.In (hidT s₁.heap H) := by
    intro b o e
    refine hidT_get (KX b o e) ?_
    rcases hq : H b with _ | u
    · rfl
    · rcases where_ b (fun z => by rw [z] at hq; cases hq) with e' | e'
      · rw [e'] at e hq
        rw [notK (fun z => by rw [z] at hq; cases hq)] at e
        cases e
      · obtain ⟨p, hp, ep⟩ := List.mem_map.mp e'
        rw [← ep, notT p hp] at e
        cases e
  have TB : ∀ p ∈ cs, TabB (hidT s₁.heap H) mg p.1 p.2 := by
    intro p hp
    have atP := empties p hp
    refine ⟨?_, ?_, fun z => ?_⟩
    · obtain ⟨o, us, file, tf, flags, tg, inF, text, tt, e1, r1, r2, r3, r4, r5, r6, r7, r8, hne⟩ := code p hp
      refine ⟨o, us, file, tf, flags, tg, inF, text, tt, hidT_get e1 (untracked e1 (fun vs n z => ?_) fun z => ?_), r1, r2, r3, r4, r5, r6, r7, r8, hne⟩
      · rw [r2] at z
        cases z
      · rw [r2] at z
        cases z
        simp at r3
    · obtain ⟨bm, ob, b1, b2, b3, b4, b5, b6⟩ := hbm
      have notG : bm ≠ mainGlobals := by
        intro q
        obtain ⟨o, es, ep, e, hd, _⟩ := ng
        rw [q, e] at b3
        cases b3
        rw [hd] at b6
        cases b6
      have notP : bm ≠ p.2 := by
        intro q
        rw [q, atP] at b3
        cases b3
        cases b6
      refine ⟨bm, ob, b1, b2, notG, notP, hidT_get b3 (untracked b3 (fun vs n z => ?_) fun z => ?_), b4, b5, b6⟩
      · rw [b6] at z
        cases z
      · rw [b6] at z
        cases z
    · obtain ⟨o, es, ep, e, hd, _⟩ := ng
      rw [z, atP] at e
      cases e
      cases hd
  have en : Env0 P w K mg (hidT s₁.heap H) callerA [] s₁ H := by
    refine ⟨rfl, ⟨KB, nsB ng, ⟨mb, nsB nb, bb⟩, ?_⟩, fun b o e => of_hidT e, Nat.le_of_eq (hidT_size _ _), trivial, ?_, ok, .of_eq g0⟩
    · obtain ⟨mc, h1, h2⟩ := lim
      exact ⟨mc, nsB h1, h2⟩
    · intro b z
      cases (show b ∈ ([] : List Addr) from z)
  refine codeAny_mono ((F _ KB (nsB ng) TB).go callerA [] s₁ H ⟨[.ref a], []⟩ [.ref a] [.ref a] _ _ rfl room en
    (bind s₁ (.ref a)) (.cons rfl .nil) want) ?_
  intro r s' z
  cases r with
  | error e => exact (noX H e s' z).elim
  | ok fl =>
    cases fl with
    | next => exact z.elim
    | brk => exact z.elim
    | cont => exact z.elim
    | ret u =>
      obtain ⟨v, H', os, bare, un, ok', rv, q⟩ := z
      cases (show v = .bl true from q)
      cases (show u = Value.bool true from rv)
      have stays : ∀ b o, b ∉ cs.map (·.2) → s₁.heap.get? b = some o → s'.heap.get? b = some o := by
        intro b o nb e
        rcases only b with hq | hq | ⟨ob, xs, hq⟩
        · exact un.keep b o e hq (fun z => by cases (show b ∈ ([] : List Addr) from z)) (fun z => by cases z)
        · exact absurd hq nb
        · have f1 := (ok b _ hq).left
          have f2 := (ok' b _ (un.frzs b ob _ hq)).left
          rw [e] at f1
          cases f1
          exact f2
      have grows : ∀ p ∈ cs, ∃ more : Array Value, s'.heap.get? p.2 = some { cls := .none, data := .fields more } := by
        intro p hp
        obtain ⟨more, z⟩ := un.tbls p.2 #[] (tabs p hp)
        exact ⟨_, ok' p.2 _ z⟩
      refine ⟨rfl, ⟨fun b o e => ?_, fun b o e => ?_⟩, os, bare⟩
      · by_cases hb : b ∈ cs.map (·.2)
        · obtain ⟨p, hp, ep⟩ := List.mem_map.mp hb
          obtain ⟨more, hm⟩ := grows p hp
          rw [← ep] at e ⊢
          rw [empties p hp] at e
          cases e
          exact .inr (.inl ⟨((code p hp).tab (empties p hp)).isCodeTable, rfl, #[], more, rfl, by rw [Array.empty_append]; exact hm⟩)
        · exact .inl (stays b o hb e)
      · by_cases hb : b ∈ cs.map (·.2)
        · obtain ⟨p, hp, ep⟩ := List.mem_map.mp hb
          obtain ⟨more, hm⟩ := grows p hp
          rw [← ep]
          exact ⟨_, hm⟩
        · exact ⟨o, stays b o hb e⟩
/-- the heap at the law's entry: the script, the tables -/
def entryH (known : Bool) (a : Addr) (vs : List Value) (ns : List Int) (ts : List Addr) : Hp := fun b =>
  if b = a ∧ known = false then some (.frz { cls := .type "list", data := .seq vs.toArray } (.lst (ns.map V.int)))
  else if b ∈ ts then some (.tbl #[]) else none
theorem law_callT (KX : K.In s₁.heap) (ng : s₁.heap.Ns mainGlobals mg) (nb : s₁.heap.Ns builtinsNs mb)
    (bb : ∀ x : Str, x ≠ "__name__" → mb x = bootBuiltins x) (lim : s₁.heap.NoLimit) (g0 : s₁.gens = #[])
    (empties : ∀ p ∈ cs, s₁.heap.get? p.2 = some { cls := .none, data := .fields #[] }) (notT : ∀ p ∈ cs, K.lookup p.2 = none)
    (code : ∀ p ∈ cs, PySem.W.CodeHd s₁.heap p.1 p.2)
    (hbm : ∃ (bm : Addr) (ob : Obj), mg "__builtins__" = some (.ref bm) ∧ bm ≠ builtinsNs ∧ s₁.heap.get? bm = some ob ∧ ob.cls = .type "module" ∧ ob.dict = some builtinsNs ∧ ob.data = .plain)
    (ha : s₁.heap.get? a = some { cls := .type "list", data := .seq vs.toArray }) (hi : IntsAre vs ns) (hl : ns.length ≤ sizeLine) (room : Room k callerA)
    (F : ∀ base : Heap, K.In base → base.Ns mainGlobals mg → (∀ p ∈ cs, TabB base mg p.1 p.2) → FnG P w K mg base CX k fa fd [x] sp)
    (bind : ∀ (s : Shared) (u : Value), BindsTo s fd ⟨[u], []⟩ [(x, u)])
    (want : ∀ H : Hp, (∀ p ∈ cs, H p.2 = some (.tbl #[])) → SqL K H a (ns.map V.int) → sp [.ref a] H (fun v _ => v = .bl true) fun _ _ _ => False)
    (noX : ∀ H e s', CX [] H s₁ (fun _ _ _ => False) e s' → False) :
    codeAny (model P w) callerA (.call (.ref fa) ⟨[.ref a], []⟩)
      (fun r s' => r = .ok (.ret (.bool true)) ∧ OldK s₁.heap s'.heap ∧ s'.os = s₁.os ∧ AllBare s'.gens) s₁ := by
  have vi := vals_ints hi
  have tabAt : ∀ b : Addr, b ∈ cs.map (·.2) → s₁.heap.get? b = some { cls := .none, data := .fields #[] } := by
    intro b hb
    obtain ⟨p, hp, e⟩ := List.mem_map.mp hb
    rw [← e]
    exact empties p hp
  have aT : a ∉ cs.map (·.2) := by
    intro z
    have q := tabAt a z
    rw [ha] at q
    cases (show Data.seq vs.toArray _ = Data.fields #[] from congrArg Obj.data (Option.some.inj q))
  have atTab : ∀ (kn : Bool) b, b ∈ cs.map (·.2) → entryH kn a vs ns (cs.map (·.2)) b = some (.tbl #[]) := by
    intro kn b hb
    unfold entryH
    rw [if_neg (fun (z : b = a ∧ kn = false) => aT (z.1 ▸ hb)), if_pos hb]
  have inTabs : ∀ p ∈ cs, p.2 ∈ cs.map (·.2) := fun p hp => List.mem_map.mpr ⟨p, hp, rfl⟩
  have cases3 : ∀ (kn : Bool) b, (b = a ∧ kn = false ∧ entryH kn a vs ns (cs.map (·.2)) b = some (.frz { cls := .type "list", data := .seq vs.toArray } (.lst (ns.map V.int)))) ∨
      (b ∈ cs.map (·.2) ∧ entryH kn a vs ns (cs.map (·.2)) b = some (.tbl #[])) ∨ entryH kn a vs ns (cs.map (·.2)) b = none := by
    intro kn b
    by_cases h1 : b = a ∧ kn = false
    · exact .inl ⟨h1.1, h1.2, if_pos h1⟩
    · by_cases h2 : b ∈ cs.map (·.2)
      · exact .inr (.inl ⟨h2, atTab kn b h2⟩)
      · refine .inr (.inr ?_)
        unfold entryH
        rw [if_neg h1, if_neg h2]
  have main : ∀ kn : Bool, SqL K (entryH kn a vs ns (cs.map (·.2))) a (ns.map V.int) → (kn = false → K.lookup a = none) →
      codeAny (model P w) callerA (.call (.ref fa) ⟨[.ref a], []⟩)
        (fun r s' => r = .ok (.ret (.bool true)) ∧ OldK s₁.heap s'.heap ∧ s'.os = s₁.os ∧ AllBare s'.gens) s₁ := by
    intro kn sq hk
    refine law_coreT KX ng nb bb lim g0 empties notT code hbm ha room F bind (want _ (fun p hp => atTab kn _ (inTabs p hp)) sq) noX
      (fun p hp => atTab kn _ (inTabs p hp)) (fun b => ?_) (fun b u z => ?_) (fun b z => ?_) (fun z => ?_)
    · rcases cases3 kn b with ⟨_, _, e⟩ | ⟨e, _⟩ | e
      · exact .inr (.inr ⟨_, _, e⟩)
      · exact .inr (.inl e)
      · exact .inl e
    · rcases cases3 kn b with ⟨rfl, _, e⟩ | ⟨m, e⟩ | e
      · rw [e] at z
        cases z
        exact ⟨ha, by rw [List.length_map]; exact hl, vs, _, vi, ha⟩
      · rw [e] at z
        cases z
        exact tabAt b m
      · rw [e] at z
        cases z
    · rcases cases3 kn b with ⟨e, _⟩ | ⟨m, _⟩ | e
      · exact .inl e
      · exact .inr m
      · exact absurd e z
    · rcases cases3 kn a with ⟨_, e, _⟩ | ⟨m, _⟩ | e
      · exact hk e
      · exact absurd m aT
      · exact absurd e z
  rcases hk : K.lookup a with _ | o
  · refine main false (.inl (.inr ⟨{ cls := .type "list", data := .seq vs.toArray }, if_pos ⟨rfl, rfl⟩⟩)) (fun _ => hk)
  · have e := KX a o hk
    rw [ha] at e
    cases e
    refine main true (.inr ⟨_, vs.toArray, _, hk, rfl, rfl, rfl, by rw [List.size_toArray, hi.length]; exact hl, by simpa using vi⟩) (fun z => by cases z)
end
/-- what is known of the law's promise at the head's heap h -/
def LawT (l : PySem.W.OpenLaw) (w : World) (K : PySem.W.Frag) (CX : CXT) (k n : Nat) (x : Str) (mg : Str → Option Value) (fa : Addr) (h : Heap) : Prop :=
  ∃ (fd : FuncData) (cs : List (Addr × Addr)) (sp : Sp), (∀ p ∈ cs, h.get? p.2 = some { cls := .none, data := .fields #[] }) ∧ (∀ p ∈ cs, K.lookup p.2 = none) ∧
    (∀ p ∈ cs, PySem.W.CodeHd h p.1 p.2) ∧ (∀ (s : Shared) (u : Value), BindsTo s fd ⟨[u], []⟩ [(x, u)]) ∧
    (∀ (H : Hp) (a : Addr) (ns : List Int), ns.length ≤ n → (∀ p ∈ cs, H p.2 = some (.tbl #[])) → SqL K H a (ns.map V.int) →
      sp [.ref a] H (fun v _ => v = .bl true) fun _ _ _ => False) ∧
    ∀ base : Heap, K.In base → base.Ns mainGlobals mg → (∀ p ∈ cs, TabB base mg p.1 p.2) → FnG l.prog w K mg base CX k fa fd [x] sp
theorem walkT {l : PySem.W.OpenLaw} {n k : Nat} {q : Program} {loose : List Str} {XP : (Str → Option Value) → Heap → Prop} {YP : World → Heap → Prop} {d : DefRec}
    {K : Params → PySem.W.Frag} {CX : World → CXT} {x : Str}
    (hn : l.most = some n) (hn2 : n ≤ sizeLine) (hdf : d.params.defaults = []) (room : Room k callerA) (hY : ∀ (w : World) (h : Heap), YP w h → (K w.params).In h)
    (F : ∀ (w : World) (mg : Str → Option Value) (fa : Addr) (h : Heap), YP w h → (K w.params).In h → h.Ns mainGlobals mg → mg d.name = some (.ref fa) →
      LawT l w (K w.params) (CX w) k n x mg fa h)
    (noX : ∀ (w : World) (H : Hp) (s : Shared) (e : Value) (s' : Shared), CX w [] H s (fun _ _ _ => False) e s' → False) :
    PySem.W.WalkO q loose XP YP l.row.toRowW d [] (fun f vs => PySem.call f vs) := by
  apply Att.attach_call hn hdf
  intro w s₀ s₁ mg mb fa o pm cd doc a vs ns G Y ho hd hcd hmg hobj hints hlen hg
  obtain ⟨fd, cs, sp, h1, h2, h3, hb, hsp, hF⟩ := F w mg fa _ Y (hY w _ Y) G.T.g hmg
  exact law_callT (hY w _ Y) G.T.g G.T.b G.T.builtins G.T.nolimit hg h1 h2 h3 G.T.bmain hobj hints (Nat.le_trans hlen hn2) room hF hb
    (fun H hH hS => hsp H a ns hlen hH hS) (fun H e s' => noX w H s₁ e s')
end GG

set_option maxHeartbeats 4000000
namespace PySem
open Sem (wp)
/-! ### enumerate(v) over whatever iter(v) begins -/
theorem meets_enum1 {v : Value} {o : Obj} {H : Heap → Prop} (B : Begins v o H) :
    Meets (Builtin.«enumerate.__new__» ⟨[.type "enumerate", v], []⟩) (fun _ R s => H s.heap ∧
      R (.ok (.ret (.ref (s.heap.push o).objs.size)))
        { s with heap := (s.heap.push o).push { cls := .type "enumerate", data := .fields #[.none, .bool false, .ref s.heap.objs.size, rawInt 0, .none, .none] } }) :=
  .of_wp fun prog w A R s h => by
    obtain ⟨hp, g, d, tk, os⟩ := s
    obtain ⟨h1, h⟩ := h
    have hsub := sub_enumerate
    have q1 : ∀ {A' : Around} {E : Value → Shared → Prop} {Q : Value → Shared → Prop}, Q (.ref hp.objs.size) ⟨hp.push o, g, d, tk, os⟩ → wpAny (model prog w) A' (pyIter v) Q E ⟨hp, g, d, tk, os⟩ :=
      fun q => B.iter prog w _ _ ⟨hp, g, d, tk, os⟩ _ h1 q
    wp_walk using q1
    refine wpAny_stack_any fun st => wpAny_pure ?_
    split
    · rename_i c _ _ _ _ _
      cases (c == Value.type "enumerate")
      · wp_walk using q1
        exact ⟨_, rfl, h⟩
      · wp_walk using q1
        exact ⟨_, rfl, h⟩
    · wp_walk using q1
      exact ⟨_, rfl, h⟩
section
variable {prog : Program} {w : World} {A : Around} {E : Value → Shared → Prop} {s : Shared}
theorem enum_begins1 {v : Value} {o : Obj} {H : Heap → Prop} {Q : Value → Shared → Prop} (B : Begins v o H) (h1 : H s.heap)
    (h : ∀ h', IsEnum h' (s.heap.objs.size + 1) s.heap.objs.size 0 .none → h'.get? s.heap.objs.size = some o → h'.objs.size = s.heap.objs.size + 2 →
      (∀ b o, s.heap.get? b = some o → h'.get? b = some o) → Q (.ref (s.heap.objs.size + 1)) { s with heap := h' }) :
    wpAny (model prog w) A (call (.type "enumerate") [v]) Q E s := by
  refine callType_new F.called_enumerate (by decide) (F.typeCall_enumerate_1 _) (F.newCall_enumerate_1 _)
    (fun obj => F.args_object_init_2 obj _) F.entry_enumerate_new (meets_enum1 B) ⟨h1, ?_⟩
  have hz : (s.heap.push o).objs.size = s.heap.objs.size + 1 := Heap.size_push ..
  show _ ∧ _
  rw [hz]
  have he : IsEnum ((s.heap.push o).push { cls := .type "enumerate", data := .fields #[.none, .bool false, .ref s.heap.objs.size, rawInt 0, .none, .none] })
      (s.heap.objs.size + 1) s.heap.objs.size 0 .none := by
    have := Heap.get?_push_size (s.heap.push o) (o := { cls := .type "enumerate", data := .fields #[.none, .bool false, .ref s.heap.objs.size, rawInt 0, .none, .none] }) rfl
    rw [hz] at this
    exact this
  exact ⟨⟨_, he, rfl⟩, h _ he (Heap.get?_push_of_some _ (Heap.get?_push_size _ B.free)) (by rw [Heap.size_push, hz])
    fun b o x => Heap.get?_push_of_some _ (Heap.get?_push_of_some _ x)⟩
end
end PySem
namespace GG
open PySem PySem.Spec PyProof.Rows L2
/-- the tuple at a, its items with their places in new pairs -/
def Itet (K : PySem.W.Frag) (a : Addr) : It :=
  ⟨fun i H => ∃ (xs : List V) (x : V), SqT K H a xs ∧ xs[i]? = some x,
   fun i H v H' => ∃ T x, v = .ref T ∧ H T = none ∧ H' = upd H T (.tup [.int (i : Nat), x]) ∧ ∀ xs, SqT K H a xs → xs[i]? = some x,
   fun i H => ∃ xs : List V, SqT K H a xs ∧ xs.length ≤ i⟩
theorem turn_enumT {P : Program} {w : World} {K : PySem.W.Frag} {elts : List Expr} {kk : Nat} {tpos : Pos} (a e it : Addr) (ai : a ≠ it) (ae : a ≠ e) :
    Turn P w K (.Tuple elts kk tpos) (Itet K a) [e, it] e (fun i h => (∃ old, IsEnum h e it ((i : Nat) : Int) old) ∧ h.IsTupleIter it a i ∧ e ≠ it) where
  mem := by simp
  obj := by
    intro i h st b hb
    obtain ⟨⟨old, he⟩, ⟨o, ho, hc, hd⟩, _⟩ := st
    have two : b = e ∨ b = it := by simpa using hb
    rcases two with z | z
    · rw [z]
      exact ⟨_, he, fun v q => nomatch q⟩
    · rw [z]
      exact ⟨o, ho, fun v q => by rw [hd] at q; cases q⟩
  keep := by
    intro i h h' st k
    obtain ⟨⟨old, he⟩, hi, hne⟩ := st
    exact ⟨⟨old, k e (by simp) _ he⟩, hi.at fun o q => k it (by simp) o q, hne⟩
  item := by
    intro X hP hw hK hc i pins s σ H E I hf st hg
    subst hP hw hK
    obtain ⟨⟨old, he⟩, hit, hne⟩ := st
    obtain ⟨xs, x, hq, hx⟩ := hg
    obtain ⟨its, rv, p, hz⟩ := I.tuple hq
    obtain ⟨u, hu, ru⟩ := rv.get hx
    have el : e < s.heap.objs.size := Heap.lt_size he
    have il : it < s.heap.objs.size := by
      obtain ⟨_, q, _⟩ := hit
      exact Heap.lt_size q
    have lt : i < its.toArray.size := by
      have := (List.getElem?_eq_some_iff.mp hu).1
      simpa using this
    have hh : X.A.in1.handled = none := I.ok.hd hc
    have D := Draws.tuple (prog := X.prog) (w := X.w) hh it a ai its.toArray
    have ei : e ∉ [it, a] := by
      intro z
      rcases List.mem_cons.mp z with z | z
      · exact hne z
      · exact ae (List.mem_singleton.mp z).symm
    refine wpAny_pyNext_enum_itemD D he ⟨hit, (show s.heap.IsTuple a its.toArray from p)⟩ lt hne ei ?_
    intro y h' tk hy ho st' hT hsz hk
    have ey : y = u := by
      have : its.toArray[i]? = some u := by simpa using hu
      rw [this] at hy
      exact (Option.some.inj hy).symm
    subst ey
    refine ⟨_, rfl, wpAny_letOwnedTupleGo_enum (s := { s with heap := h', toks := tk + 1 }) ho ?_⟩
    intro h'' he' sb
    have hT2 : h''.get? s.heap.objs.size = some { cls := .type "tuple", data := .seq #[.int i tk, y] } := (sb.2 _ (Nat.ne_of_gt el)).trans hT
    have new : ObjOk X.prog X.w (upd H s.heap.objs.size (.tup [.int (i : Nat), x])) h'' s.heap.objs.size (.tup [.int (i : Nat), x]) :=
      ⟨by show 2 ≤ sizeLine; decide, [.int i tk, y], .cons ⟨_, rfl⟩ (.cons ru .nil), ⟨_, hT2, rfl, _, rfl⟩⟩
    have I1 : Inv X pins σ (upd H s.heap.objs.size (.tup [.int (i : Nat), x])) { s with heap := h'', toks := tk + 1 } := by
      refine I.turnedNew (ch := [e, it]) (fun b ob hb q => ?_) hf (Nat.le_refl _) new
      exact (sb.2 b (fun z => hb (by simp [z]))).trans (hk b ob (fun z => hb (by simp [z])) (fun z => hb (by simp [z])) q)
    refine ⟨.ref s.heap.objs.size, _, I1, rfl, ⟨_, x, rfl, I.hok.fresh (Nat.le_refl _), rfl, fun ys hy => by rw [I.tuple_inj hy hq]; exact hx⟩, ⟨⟨y, ?_⟩, ?_, hne⟩, fun b hb => ?_⟩
    · have e1 : ((i + 1 : Nat) : Int) = (i : Int) + 1 := by omega
      rw [e1]
      exact he'
    · exact st'.1.at fun o q => (sb.2 it (Ne.symm hne)).trans q
    · have lb : b < s.heap.objs.size := by
        have two : b = e ∨ b = it := by simpa using hb
        rcases two with z | z
        · rw [z]
          exact el
        · rw [z]
          exact il
      rw [upd_ne (Nat.ne_of_lt lb)]
      exact (hf b hb).1
  done := by
    intro X hP hw hK hc i pins s σ H E I hf st hg
    subst hP hw hK
    obtain ⟨⟨old, he⟩, hit, hne⟩ := st
    obtain ⟨xs, hq, hx⟩ := hg
    obtain ⟨its, rv, p, hz⟩ := I.tuple hq
    obtain ⟨f0, f1, f2, f3, f4, f5⟩ := hf it (by simp)
    have hl := rv.length
    have hT : s.TypeIs (.ref e) "enumerate" := ⟨_, he, rfl⟩
    unfold pyNext
    refine wpAny_bind (wpAny_attempt (wpAny_callSpecial?_slot (name := Str.ofString "__next__") hT F.slot_enumerate_next
      (wpAny_call_entry F.slot_enumerate_next hT F.entry_enumerate_next ?_ (F.args_enumerate_next_1 _))))
    show wpAny _ _ (field (.ref e) 2 >>= _) _ _ _
    refine wpAny_bind (wpAny_field he rfl (x := .ref it) rfl ?_)
    refine wpAny_bind (wpAny_nextOf_tuple_end (A := X.A.in1) (I.ok.hd hc) hit (show s.heap.IsTuple a its.toArray from p) (by simp; omega) ?_)
    intro h' x he' hx'
    obtain ⟨o, ho, hcl⟩ := hx'
    refine wpAny_bind (wpAny_isInstance (T := "StopIteration") (b := true) ⟨o, ho, hcl⟩ isSubtype_stop ?_)
    exact wpAny_pure ⟨rfl, I.turned (t' := s.toks) (fun b o hb q => he' b o hb q) f0 f1 f3 f4 f5⟩
  self := by
    intro A i s Q E st h
    obtain ⟨⟨_, he⟩, _⟩ := st
    exact wpAny_pyIter_enum he h
def iEnumT (K : PySem.W.Frag) (ta : TA) : TI := fun σ H R => ta σ H fun vs H1 => ∃ a xs, vs = [.ref a] ∧ SqT K H1 a xs ∧ R (Itet K a) H1
theorem pi_enumT {X : Cx} {e : Expr} {ta : TA} {p pos tpos : Pos} {elts : List Expr} {kk : Nat} (hg : Gl X "enumerate") (hm : X.mg "enumerate" = none) (ha : PA X [e] ta)
    (hs : starEach [e] X.env = [(false, eval e X.env)] := by rfl) :
    PI X (.Tuple elts kk tpos) (.Call (.Name "enumerate" p) [e] [] pos) (iEnumT X.K ta) := by
  constructor
  intro pins s σ H R I h
  refine Call_ (ld_blt I hg hm boot_enumerate (PyProof.Rows.callWith_type1 (thn (ha.run pos pins s σ H _ I h) ?_) hs rfl))
  intro us s1 ⟨vs, H1, I1, r1, q1⟩
  obtain ⟨a, xs, ex, hq, q⟩ := q1
  subst ex
  obtain ⟨u, rfl, ru⟩ := vals1 r1
  cases (show u = Value.ref a from ru)
  obtain ⟨its, rv, p', hz⟩ := I1.tuple hq
  have al : a < s1.heap.objs.size := p'.lt
  refine enum_begins1 (begins_tuple a its.toArray) (show s1.heap.IsTuple a its.toArray from p') ?_
  intro h' he hit hsz hk
  refine wpAny_pyIter_enum he ?_
  have I2 : Inv X pins σ H1 { s1 with heap := h' } := I1.kept (t' := s1.toks) hk
  refine ⟨s1.heap.objs.size + 1, [s1.heap.objs.size + 1, s1.heap.objs.size], _, _, H1, rfl, I2,
    turn_enumT a (s1.heap.objs.size + 1) s1.heap.objs.size (Nat.ne_of_lt al) (Nat.ne_of_lt (Nat.lt_succ_of_lt al)), ⟨⟨.none, he⟩, ⟨_, hit, rfl, rfl⟩, Nat.succ_ne_self _⟩, fun b hb => ?_, q⟩
  have two : b = s1.heap.objs.size + 1 ∨ b = s1.heap.objs.size := by simpa using hb
  have le : s1.heap.objs.size ≤ b := by
    rcases two with z | z
    · rw [z]
      exact Nat.le_add_right _ _
    · rw [z]
      exact Nat.le_refl _
  exact I1.fpOk le (I1.hok.fresh le)
theorem walk_enumT {K : PySem.W.Frag} {a : Addr} {xs : List V} : Walk (Itet K a) xs.length (fun H => SqT K H a xs) (YPair (fun i => some (.int (i : Nat))) (fun i => xs[i]?)) := by
  refine ⟨fun i H hi g => ⟨xs, xs[i], g, by simp [hi]⟩, fun H g => ⟨xs, g, Nat.le_refl _⟩, ?_⟩
  intro i H v H' _ g y
  obtain ⟨T, x, h1, h2, h3, h4⟩ := y
  exact ⟨T, _, x, h1, h2, h3, rfl, h4 xs g⟩
end GG

set_option maxHeartbeats 4000000
namespace GG
open PySem PySem.Spec PyProof.Rows L2
/-! ### what the program's smallest functions answer -/
/-- the least integer of more than 200 figures -/
def BND : Int := ((10 ^ 200 : Nat) : Int)
def intOk (i : Int) : Bool := decide (-BND < i) && decide (i < BND)
def cntOk (i : Int) : Bool := intOk i && decide (0 ≤ i)
def inOk (lo hi i : Int) : Bool := intOk i && (decide (lo ≤ i) && decide (i ≤ hi))
/-- a value that is no integer by its kind -/
def NoInt (K : PySem.W.Frag) (H : Hp) (v : V) : Prop := (∃ b, v = .bl b) ∨ ∃ t, TyX K H v (.type t) ∧ kitB t "int" = some false
def spInteger (K : PySem.W.Frag) : Sp := fun vs H Q _ => ∃ v, vs = [v] ∧ ((∃ i, v = .int i ∧ Q (.bl (intOk i)) H) ∨ (NoInt K H v ∧ Q (.bl false) H))
def spCount (K : PySem.W.Frag) : Sp := fun vs H Q _ => ∃ v, vs = [v] ∧ ((∃ i, v = .int i ∧ Q (.bl (cntOk i)) H) ∨ (NoInt K H v ∧ Q (.bl false) H))
def spWithin (K : PySem.W.Frag) : Sp := fun vs H Q _ => ∃ v lo hi, vs = [v, .int lo, .int hi] ∧ ((∃ i, v = .int i ∧ Q (.bl (inOk lo hi i)) H) ∨ (NoInt K H v ∧ Q (.bl false) H))
def spLimit : Sp := fun vs H Q _ => vs = [] ∧ Q (.int BND) H
theorem limE : ((10 : Int) ^ (50 : Int).toNat) ^ (4 : Int).toNat = BND := by decide +kernel
theorem BND_bits : BND.natAbs < 2 ^ 700 := by decide +kernel
theorem intOk_iff {i : Int} : intOk i = true ↔ -BND < i ∧ i < BND := by
  unfold intOk
  rw [Bool.and_eq_true, decide_eq_true_eq, decide_eq_true_eq]
theorem intOk_bits {i : Int} (h : intOk i = true) : i.natAbs < 2 ^ 700 := by
  have h2 := intOk_iff.mp h
  have h3 := BND_bits
  generalize (2 : Nat) ^ 700 = M at h3 ⊢
  omega
theorem intOk_small {i : Int} (h0 : -(10 ^ 60) ≤ i) (h1 : i ≤ 10 ^ 60) : intOk i = true := by
  have e : (10 : Int) ^ 60 < BND := by decide +kernel
  exact intOk_iff.mpr ⟨by omega, by omega⟩
/-! ### small words -/
theorem and2 {tb : TE} {σ : L2.St} {H : Hp} {Q : VK} {c d : Bool} (hb : c = true → ∀ Q' : VK, Q' (.bl d) H → tb σ H Q') (q : Q (.bl (c && d)) H) :
    if c = true then tb σ H Q else Q (.bl false) H := by
  cases c with
  | true => exact iteT (hb rfl Q q)
  | false => exact iteF q
theorem iteN {b : Bool} {A B : Prop} (h : b = true) (x : B) : if (!b) = true then A else B := by
  subst h
  exact iteF x
theorem iteTo {b : Bool} {A B : Prop} (h : b = true) (x : A) : if b = true then A else B := by
  subst h
  exact iteT x
theorem iteFo {b : Bool} {A B : Prop} (h : b = false) (x : B) : if b = true then A else B := by
  subst h
  exact iteF x
theorem sameUpd2 {H : Hp} {p : Addr} {o o' : HO} (h : H p = none) : Same H (upd (upd H p o) p o') := by
  rw [upd_upd]
  exact sameUpd h
/-! ### repr, of dicts too -/
/-- data whose repr is told: without dicts, or an empty dict -/
def Rp (K : PySem.W.Frag) (H : Hp) (x : V) (d : PyData) : Prop :=
  (Dp K H x d ∧ d.showable = true ∧ d.hasDict = false ∧ d.depth ≤ 40 ∧ d.shown.length ≤ sizeLine) ∨ ∃ a, x = .ref a ∧ H a = some (.dK []) ∧ d = .dict []
def rReprD (K : PySem.W.Frag) : List V → Hp → VK → Prop := fun xs H Q => ∃ x d, xs = [x] ∧ Rp K H x d ∧ Q (.str d.shown) H
theorem call_reprR {X : Cx} (gd : X.A.guards = some []) (un : X.A.units + 64 < cLine) : CallR X (.builtin "repr") (rReprD X.K) := by
  intro pins s σ H xs us Q I r h
  obtain ⟨x, d, rfl, ⟨hd, ok⟩ | ⟨a, rfl, ha, rfl⟩, q⟩ := h
  · exact call_reprU gd un pins s σ H _ us Q I r ⟨x, d, rfl, hd, ok, q⟩
  · obtain ⟨u, rfl, ru⟩ := vals1 r
    cases (show u = Value.ref a from ru)
    obtain ⟨hz, hS, vs, rk, o, es, ep, h1, h2, h3, h4, h5, h6⟩ : ([] : List (Key × V)).length ≤ sizeLine ∧ (a == sysModules) = false ∧ ∃ vs, KV [] vs ∧ s.heap.DictOf (mixKind X.prog X.w) a vs := I.hok a _ ha
    cases rk
    have e0 : es.toList = [] := by
      cases hl : es.toList with
      | nil => rfl
      | cons b r =>
        rw [hl] at h5
        cases h5
    have rd : Reads s.heap (.ref a) (.dict []) (a :: [] ++ []) := .dict h1 h2.1 h3 (by rw [e0]; exact .nil) (by rw [e0]; exact .nil)
    refine repr_of_reads' rd (by decide) (fun _ z => ?_) gd (by show X.A.units + (PyData.depth (.dict []) + 1) < cLine; have : PyData.depth (.dict []) = 1 := by decide
                                                                omega) (fun _ _ e => e) (fun h' u tk kept => ?_) (by decide)
    · have z' : sysModules = a := by simpa using z
      rw [← z'] at hS
      cases hS
    · exact ⟨.str _, H, I.kept kept, ⟨_, rfl⟩, q⟩
theorem call_reprA {X : Cx} {A : Around} (hA : X.A = A) (gd : A.guards = some []) (un : A.units + 64 < cLine) : CallR X (.builtin "repr") (rReprD X.K) := by
  subst hA
  exact call_reprR gd un
end GG

set_option maxHeartbeats 4000000
namespace GG
open PySem PySem.Spec PyProof.Rows L2
/-! ### repr of what was made in the law itself: dicts of one int to one int may lie within -/
mutual
inductive Rn (H : Hp) : V → PyData → Prop
  | non : Rn H .non .none
  | bl (b : Bool) : Rn H (.bl b) (.bool b)
  | int (i : Int) : Rn H (.int i) (.int i)
  | str (x : Str) : Rn H (.str x) (.str x)
  | lst {a : Addr} {xs : List V} {ds : List PyData} : H a = some (.lst xs) → RnAll H xs ds → Rn H (.ref a) (.list ds)
  | tup {a : Addr} {xs : List V} {ds : List PyData} : H a = some (.tup xs) → RnAll H xs ds → Rn H (.ref a) (.tuple ds)
  | dct0 {a : Addr} : H a = some (.dK []) → Rn H (.ref a) (.dict [])
  | dct {a : Addr} {i j : Int} : H a = some (.dK [(.inl i, .int j)]) → Rn H (.ref a) (.dict [(.int i, .int j)])
inductive RnAll (H : Hp) : List V → List PyData → Prop
  | nil : RnAll H [] []
  | cons {v : V} {vs : List V} {d : PyData} {ds : List PyData} : Rn H v d → RnAll H vs ds → RnAll H (v :: vs) (d :: ds)
end
section
variable {X : Cx} {pins : List (Addr × Obj)} {σ : L2.St} {H : Hp} {s : Shared}
/-- the table of modules is none of the tracked ones -/
theorem not_mods (I : Inv X pins σ H s) (sm : ∃ mm, X.base.Ns sysModules mm) {a : Addr} {o : HO} (h : H a = some o) : a ≠ sysModules := by
  intro z
  subst z
  obtain ⟨mm, ob, es, ep, e, _⟩ := sm
  rw [(I.bs _ _ e).2] at h
  cases h
mutual
theorem Rn.reads (I : Inv X pins σ H s) (sm : ∃ mm, X.base.Ns sysModules mm) : ∀ (d : PyData) (v : V) (u : Value), Rn H v d → RelV v u → ∃ as, Reads s.heap u d as ∧ sysModules ∉ as
  | .none, _, _, h, r => by
    cases h
    cases r
    exact ⟨_, .none, List.not_mem_nil⟩
  | .bool b, _, _, h, r => by
    cases h
    cases r
    exact ⟨_, .bool b, List.not_mem_nil⟩
  | .int i, _, _, h, r => by
    cases h
    obtain ⟨t, rfl⟩ := r
    exact ⟨_, .int i t, List.not_mem_nil⟩
  | .str x, _, _, h, r => by
    cases h
    obtain ⟨t, rfl⟩ := r
    exact ⟨_, .str x t, List.not_mem_nil⟩
  | .list ds, _, _, h, r => by
    cases h with
    | @lst a xs _ ha hd =>
      cases r
      obtain ⟨_, its, n, rv, e⟩ := (show ObjOk X.prog X.w H s.heap a (.lst xs) from I.hok a _ ha)
      obtain ⟨as, ra, na⟩ := Rn.readsAll I sm ds _ its hd rv
      refine ⟨_, .list e rfl rfl ra, fun z => ?_⟩
      rcases List.mem_cons.mp z with z | z
      · exact not_mods I sm ha z.symm
      · exact na z
  | .tuple ds, _, _, h, r => by
    cases h with
    | @tup a xs _ ha hd =>
      cases r
      obtain ⟨_, its, rv, o, e, hc, n, hdt⟩ := (show ObjOk X.prog X.w H s.heap a (.tup xs) from I.hok a _ ha)
      obtain ⟨as, ra, na⟩ := Rn.readsAll I sm ds _ its hd rv
      exact ⟨_, .tuple e hc hdt ra, na⟩
  | .dict kvs, _, _, h, r => by
    cases h with
    | @dct0 a ha =>
      cases r
      obtain ⟨_, _, vs, rk, o, es, ep, h1, h2, h3, _, h5, _⟩ := (show ObjOk X.prog X.w H s.heap a (.dK []) from I.hok a _ ha)
      cases rk
      cases hl : es.toList with
      | nil =>
        refine ⟨a :: ([] ++ []), .dict h1 h2.1 h3 ?_ ?_, fun z => ?_⟩
        · rw [hl]
          exact .nil
        · rw [hl]
          exact .nil
        · have z' : sysModules = a := by simpa using z
          exact not_mods I sm ha z'.symm
      | cons en r =>
        rw [hl] at h5
        cases h5
    | @dct a i j ha =>
      cases r
      obtain ⟨_, _, vs, rk, o, es, ep, h1, h2, h3, _, h5, _⟩ := (show ObjOk X.prog X.w H s.heap a (.dK [(.inl i, .int j)]) from I.hok a _ ha)
      cases rk with
      | cons r1 r2 =>
        cases r2
        obtain ⟨ek, ev⟩ := r1
        cases hl : es.toList with
        | nil =>
          rw [hl] at h5
          cases h5
        | cons en r =>
          rw [hl] at h5
          cases h5 with
          | cons p1 p2 p3 =>
            cases p3
            rw [← ek] at p1
            obtain ⟨i', t, e1, e2⟩ | ⟨x, t, e1, e2⟩ := keyIs_shape (k := Sum.inl i) (v := en.key) p1
            · cases e1
              obtain ⟨t2, e3⟩ := ev
              refine ⟨a :: ([] ++ []) ++ ([] ++ []), .dict h1 h2.1 h3 ?_ ?_, fun z => ?_⟩
              · rw [hl]
                show ReadsAll s.heap [en.key] [.int i] ([] ++ [])
                rw [e2]
                exact .cons (.int i t) .nil
              · rw [hl]
                show ReadsAll s.heap [en.val] [.int j] ([] ++ [])
                rw [p2, e3]
                exact .cons (.int j t2) .nil
              · have z' : sysModules = a := by simpa using z
                exact not_mods I sm ha z'.symm
            · cases e1
theorem Rn.readsAll (I : Inv X pins σ H s) (sm : ∃ mm, X.base.Ns sysModules mm) : ∀ (ds : List PyData) (vs : List V) (us : List Value), RnAll H vs ds → Vals vs us → ∃ as, ReadsAll s.heap us ds as ∧ sysModules ∉ as
  | [], _, _, h, r => by
    cases h
    cases r
    exact ⟨_, .nil, List.not_mem_nil⟩
  | d :: ds, _, _, h, r => by
    cases h with
    | cons h1 h2 =>
      cases r with
      | cons r1 r2 =>
        obtain ⟨as, q1, n1⟩ := Rn.reads I sm d _ _ h1 r1
        obtain ⟨bs, q2, n2⟩ := Rn.readsAll I sm ds _ _ h2 r2
        exact ⟨_, .cons q1 q2, fun z => (List.mem_append.mp z).elim n1 n2⟩
end
end
def rReprN : List V → Hp → VK → Prop := fun xs H Q => ∃ x d, xs = [x] ∧ Rn H x d ∧ d.showable = true ∧ d.depth ≤ 40 ∧ d.shown.length ≤ sizeLine ∧ Q (.str d.shown) H
/-- all but what call_reprU asks: where the value is a list, a tuple or a dict; scalars go by call_reprU -/
theorem call_reprN {X : Cx} (gd : X.A.guards = some []) (un : X.A.units + 64 < cLine) (sm : ∃ mm, X.base.Ns sysModules mm) : CallR X (.builtin "repr") rReprN := by
  intro pins s σ H xs us Q I r h
  obtain ⟨x, d, rfl, hd, sh, dp, sz, q⟩ := h
  have flat : Dp X.K H x d → d.hasDict = false → wpAny (model X.prog X.w) X.A (call (.builtin "repr") us) (EP X pins σ Q) X.xe s := fun h1 h2 =>
    call_reprU gd un pins s σ H _ us Q I r ⟨x, d, rfl, h1, ⟨sh, h2, dp, sz⟩, q⟩
  have deep : ∀ a, x = .ref a → wpAny (model X.prog X.w) X.A (call (.builtin "repr") us) (EP X pins σ Q) X.xe s := by
    rintro a rfl
    obtain ⟨u, rfl, ru⟩ := vals1 r
    cases (show u = Value.ref a from ru)
    obtain ⟨as, rd, na⟩ := Rn.reads I sm d _ _ hd rfl
    refine repr_of_reads' rd sh (fun _ => na) gd (by omega) (fun _ _ e => e) (fun h' u tk kept => ?_) sz
    exact ⟨.str _, H, I.kept kept, ⟨_, rfl⟩, q⟩
  cases hd with
  | non => exact flat .non rfl
  | bl b => exact flat (.bl b) rfl
  | int i => exact flat (.int i) rfl
  | str z => exact flat (.str z) rfl
  | lst h1 h2 => exact deep _ rfl
  | tup h1 h2 => exact deep _ rfl
  | dct0 h1 => exact deep _ rfl
  | dct h1 => exact deep _ rfl
end GG

set_option maxHeartbeats 4000000
namespace GG
open PySem PySem.Spec PyProof.Rows L2
/-! ### the end of a law's row, the table of modules known -/
section
variable {P : Program} {w : World} {K : PySem.W.Frag} {mg mb : Str → Option Value} {CX : CXT} {k : Nat} {fa a : Addr} {fd : FuncData}
  {x : Str} {sp : Sp} {s₁ : Shared} {vs : List Value} {ns : List Int}
/-- from a heap in which the script alone may be tracked -/
theorem law_coreS {H : Hp} (KX : K.In s₁.heap) (ng : s₁.heap.Ns mainGlobals mg) (nb : s₁.heap.Ns builtinsNs mb)
    (bb : ∀ x : Str, x ≠ "__name__" → mb x = bootBuiltins x) (lim : s₁.heap.NoLimit) (sm : ∃ mm, s₁.heap.Ns sysModules mm) (g0 : s₁.gens = #[])
    (ha : s₁.heap.get? a = some { cls := .type "list", data := .seq vs.toArray }) (room : Room k callerA)
    (F : ∀ base : Heap, K.In base → base.Ns mainGlobals mg → (∃ mm, base.Ns sysModules mm) → FnG P w K mg base CX k fa fd [x] sp)
    (bind : ∀ (s : Shared) (u : Value), BindsTo s fd ⟨[u], []⟩ [(x, u)])
    (want : sp [.ref a] H (fun v _ => v = .bl true) fun _ _ _ => False)
    (noX : ∀ H e s', CX [] H s₁ (fun _ _ _ => False) e s' → False)
    (only : Only H) (ok : HOk P w H s₁.heap) (at_a : ∀ b, H b ≠ none → b = a) (notK : H a ≠ none → K.lookup a = none) :
    codeAny (model P w) callerA (.call (.ref fa) ⟨[.ref a], []⟩)
      (fun r s' => r = .ok (.ret (.bool true)) ∧ OldK s₁.heap s'.heap ∧ s'.os = s₁.os ∧ AllBare s'.gens) s₁ := by
  have dictFree : ∀ {b : Addr} {o : Obj} {es : Array DictEntry} {ep : Nat},
      s₁.heap.get? b = some o → o.data = .dict es ep → H b = none := by
    intro b o es ep e d
    rcases hq : H b with _ | u
    · rfl
    · have ba := at_a b (fun z => by rw [z] at hq; cases hq)
      rw [ba, ha] at e
      cases e
      cases (show Data.seq vs.toArray _ = Data.dict es ep from d)
  have ns : ∀ {b : Addr} {m : Str → Option Value}, s₁.heap.Ns b m → (hidT s₁.heap H).Ns b m := by
    rintro b m ⟨o, es, ep, e, d, r⟩
    exact ⟨o, es, ep, hidT_get e (dictFree e d), d, r⟩
  have KB : K.In (hidT s₁.heap H) := by
    intro b o e
    refine hidT_get (KX b o e) ?_
    rcases hq : H b with _ | u
    · rfl
    · have ba := at_a b (fun z => by rw [z] at hq; cases hq)
      rw [ba] at hq e
      rw [notK (fun z => by rw [z] at hq; cases hq)] at e
      cases e
  have en : Env0 P w K mg (hidT s₁.heap H) callerA [] s₁ H := by
    refine ⟨rfl, ⟨KB, ns ng, ⟨mb, ns nb, bb⟩, ?_⟩, fun b o e => of_hidT e, Nat.le_of_eq (hidT_size _ _), trivial, ?_, ok, .of_eq g0⟩
    · obtain ⟨mc, h1, h2⟩ := lim
      exact ⟨mc, ns h1, h2⟩
    · intro b z
      cases (show b ∈ ([] : List Addr) from z)
  refine codeAny_mono ((F _ KB (ns ng) (by obtain ⟨mm, h1⟩ := sm; exact ⟨mm, ns h1⟩)).go callerA [] s₁ H ⟨[.ref a], []⟩ [.ref a] [.ref a] _ _ rfl room en
    (bind s₁ (.ref a)) (.cons rfl .nil) want) ?_
  intro r s' z
  cases r with
  | error e => exact (noX H e s' z).elim
  | ok fl =>
    cases fl with
    | next => exact z.elim
    | brk => exact z.elim
    | cont => exact z.elim
    | ret u =>
      obtain ⟨v, H', os, bare, un, ok', rv, q⟩ := z
      cases (show v = .bl true from q)
      cases (show u = Value.bool true from rv)
      refine ⟨rfl, OldK.of_keep ?_, os, bare⟩
      intro b o e
      rcases only b with hq | ⟨ob, xs, hq⟩
      · exact un.keep b o e hq (fun z => by cases (show b ∈ ([] : List Addr) from z)) (fun z => by cases z)
      · have f1 := (ok b _ hq).left
        have f2 := (ok' b _ (un.frzs b ob _ hq)).left
        rw [e] at f1
        cases f1
        exact f2
theorem law_callS (KX : K.In s₁.heap) (ng : s₁.heap.Ns mainGlobals mg) (nb : s₁.heap.Ns builtinsNs mb)
    (bb : ∀ x : Str, x ≠ "__name__" → mb x = bootBuiltins x) (lim : s₁.heap.NoLimit) (sm : ∃ mm, s₁.heap.Ns sysModules mm) (g0 : s₁.gens = #[])
    (ha : s₁.heap.get? a = some { cls := .type "list", data := .seq vs.toArray }) (hi : IntsAre vs ns) (hl : ns.length ≤ sizeLine)
    (room : Room k callerA) (F : ∀ base : Heap, K.In base → base.Ns mainGlobals mg → (∃ mm, base.Ns sysModules mm) → FnG P w K mg base CX k fa fd [x] sp)
    (bind : ∀ (s : Shared) (u : Value), BindsTo s fd ⟨[u], []⟩ [(x, u)])
    (want : ∀ H : Hp, Only H → SqL K H a (ns.map V.int) → sp [.ref a] H (fun v _ => v = .bl true) fun _ _ _ => False)
    (noX : ∀ H e s', CX [] H s₁ (fun _ _ _ => False) e s' → False) :
    codeAny (model P w) callerA (.call (.ref fa) ⟨[.ref a], []⟩)
      (fun r s' => r = .ok (.ret (.bool true)) ∧ OldK s₁.heap s'.heap ∧ s'.os = s₁.os ∧ AllBare s'.gens) s₁ := by
  have vi := vals_ints hi
  rcases hk : K.lookup a with _ | o
  · have hH : ∀ b, (fun b => if b = a then some (HO.frz { cls := .type "list", data := .seq vs.toArray } (.lst (ns.map V.int))) else none : Hp) b ≠ none → b = a := by
      intro b z
      by_cases e : b = a
      · exact e
      · exact absurd (if_neg e) z
    refine law_coreS (H := fun b => if b = a then some (HO.frz { cls := .type "list", data := .seq vs.toArray } (.lst (ns.map V.int))) else none)
      KX ng nb bb lim sm g0 ha room F bind (want _ ?_ (.inl (.inr ⟨_, if_pos rfl⟩))) noX ?_ ?_ hH (fun _ => hk)
    all_goals first
      | (intro b
         by_cases e : b = a
         · exact .inr ⟨_, _, if_pos e⟩
         · exact .inl (if_neg e))
      | (intro b u z
         by_cases e : b = a
         · have z' := (if_pos e).symm.trans z
           cases z'
           rw [e]
           exact ⟨ha, by rw [List.length_map]; exact hl, vs, _, vi, ha⟩
         · have z' := (if_neg e).symm.trans z
           cases z')
  · have e := KX a o hk
    rw [ha] at e
    cases e
    refine law_coreS (H := fun _ => none) KX ng nb bb lim sm g0 ha room F bind (want _ (fun _ => .inl rfl) ?_) noX (fun _ => .inl rfl) ?_ (fun b z => absurd rfl z) (fun z => absurd rfl z)
    · exact .inr ⟨_, vs.toArray, _, hk, rfl, rfl, rfl, by rw [List.size_toArray, hi.length]; exact hl, by simpa using vi⟩
    · intro b u z
      cases (show (none : Option HO) = some u from z)
end
/-- the goal that the head leaves -/
theorem walkS {l : PySem.W.OpenLaw} {n k : Nat} {q : Program} {loose : List Str} {XP : (Str → Option Value) → Heap → Prop} {YP : World → Heap → Prop}
    {d : DefRec} {K : Params → PySem.W.Frag} {CX : World → CXT} {sp : World → Sp} {x : Str}
    (imp : importsNone q = true) (hn : l.most = some n) (hn2 : n ≤ sizeLine) (hdf : d.params.defaults = []) (room : Room k callerA)
    (hY : ∀ (w : World) (h : Heap), YP w h → (K w.params).In h)
    (F : ∀ (w : World) (mg : Str → Option Value) (fa : Addr) (h : Heap), (K w.params).In h → h.Ns mainGlobals mg → mg d.name = some (.ref fa) →
      ∃ fd : FuncData, (∀ (s : Shared) (u : Value), BindsTo s fd ⟨[u], []⟩ [(x, u)]) ∧
        ∀ base : Heap, (K w.params).In base → base.Ns mainGlobals mg → (∃ mm, base.Ns sysModules mm) → FnG l.prog w (K w.params) mg base (CX w) k fa fd [x] (sp w))
    (want : ∀ (w : World) (H : Hp) (a : Addr) (ns : List Int), ns.length ≤ n → Only H → SqL (K w.params) H a (ns.map V.int) →
      sp w [.ref a] H (fun v _ => v = .bl true) fun _ _ _ => False)
    (noX : ∀ (w : World) (H : Hp) (s : Shared) (e : Value) (s' : Shared), CX w [] H s (fun _ _ _ => False) e s' → False) :
    PySem.W.WalkO q loose XP YP l.row.toRowW d [] (fun f vs => PySem.call f vs) := by
  apply Att.attach_call hn hdf
  intro w s₀ s₁ mg mb fa o pm cd doc a vs ns G Y ho hd hcd hmg hobj hints hlen hg
  obtain ⟨fd, hb, hF⟩ := F w mg fa _ (hY w _ Y) G.T.g hmg
  exact law_callS (hY w _ Y) G.T.g G.T.b G.T.builtins G.T.nolimit (by obtain ⟨mm, h1, _⟩ := (G.T.seer imp).mods; exact ⟨mm, h1⟩) hg hobj hints (Nat.le_trans hlen hn2) room hF hb
    (fun H h1 h2 => want w H a ns hlen h1 h2) (fun H e s' => noX w H s₁ e s')
end GG

set_option maxHeartbeats 4000000
namespace K01
open PySem PySem.Spec PyProof.Rows L2 GG
def topS (i : Nat) : Stmt := PySem.Challenge.pw_onebetween_k01_errors_and_what_they_keep.main.body.getD i (.Pass ⟨0, 0, 0, 0⟩)
abbrev sDice : Stmt := topS 15
abbrev sRoll : Stmt := topS 16
abbrev sPick : Stmt := topS 17
theorem scDice : FnScope ["script", "spot", "cell", "left"] ["script", "spot"] (defScope sDice) := ⟨rfl, rfl, rfl, by decide +kernel, rfl, by decide +kernel, by decide +kernel⟩
theorem scRoll : FnScope ["dice", "total", "found", "one", "two"] ["dice", "total"] (defScope sRoll) := ⟨rfl, rfl, rfl, by decide +kernel, rfl, by decide +kernel, by decide +kernel⟩
theorem scPick : FnScope ["dice", "items"] ["dice", "items"] (defScope sPick) := ⟨rfl, rfl, rfl, by decide +kernel, rfl, by decide +kernel, by decide +kernel⟩
section
variable {P : Program} {w : World} {K : PySem.W.Frag} {mg : Str → Option Value} {base : Heap}
theorem ok_dice {f : Addr} {fd : FuncData} {k : Nat} (F : Fun K "_law_dice" "_law_dice" sDice f fd)
    (ml : mg "len" = none) (mi : mg "int" = none) (mx : mg "max" = none) (ma : mg "abs" = none) :
    FnOk P w K mg base CX0 (k + 1) f fd ["script", "spot"] (spDice K) := by
  refine F.ok scDice (fun vs H Q E h => ?_) (fun cdv A outer s H vs Q E hr h => ?_)
  · obtain ⟨a, ns, spot, rfl, _⟩ := h
    rfl
  · obtain ⟨a, ns, spot, rfl, hS, hsp, q⟩ := h
    refine ⟨_, pss_cons (ps_set (i := 2) scDice.nd rfl (.inl rfl)
        (pe_ifExp (pt_cmpR op_lt (pv 1) (pe_callB call_len_seq (by rfl) ml PySem.boot_len (pa_cons (pv 0) pa_nil)) (nomark _))
          (pe_callTy call_int1 (by rfl) mi (by decide +kernel) (pa_cons (pe_ix ix_list (pv 0) (pv 1) (fun _ _ => rfl)) pa_nil))
          (pe_op op_add (pe_op op_mul pe_int (pv 1)) pe_int)))
      (pss_cons (ps_set (i := 3) scDice.nd rfl (.inl rfl)
        (pe_op op_mod (pe_callB (call_max2 rfl) (by rfl) mx (by decide +kernel) (pa_cons pe_int (pa_cons (pe_op op_sub (pe_callB call_abs (by rfl) ma (by decide +kernel) (pa_cons (pv 2) pa_nil)) (pe_op op_pow pe_int pe_int)) pa_nil)))
          (pe_op op_mulW (pe_op op_pow pe_int pe_int) (pe_op op_pow pe_int pe_int))))
      (pss_one (ps_ret (pe_lst (pa_cons (pv 3) (pa_cons
        (pe_op op_add (pe_op op_add (pe_op op_add (pe_op op_mul (pe_op op_mod (pe_callB call_abs (by rfl) ma (by decide +kernel) (pa_cons (pv 2) pa_nil)) pe_int) pe_int) (pe_op op_mul pe_int (pv 1)))
          (pe_op op_mul pe_int (pe_callTy call_int1 (by rfl) mi (by decide +kernel) (pa_cons (pe_cmpR op_lt (pv 2) pe_int (nomark _)) pa_nil)))) pe_int)
        (pa_cons pe_int pa_nil))))))), ?_⟩
    refine ⟨.int spot, rfl, .ref a, rfl, a, _, rfl, .inl hS, _, _, rfl, rfl, _, rfl, ite2 (fun e => ?_) (fun e => ?_)⟩
    · have e1 := of_decide_eq_true e
      rw [List.length_map] at e1
      have e2 : spot < ns.length := by omega
      have g : (ns.map V.int)[spot]? = some (.int ns[spot]) := by
        rw [List.getElem?_map, List.getElem?_eq_getElem e2]
        rfl
      refine ⟨.ref a, rfl, .int spot, rfl, a, _, spot, .int ns[spot], rfl, rfl, hS, atI_nat g, .inl ⟨_, rfl, ?_⟩⟩
      refine ⟨_, rfl, _, rfl, _, _, rfl, rfl, ⟨by decide, by decide, by decide⟩, _, _, rfl, rfl, _, _, rfl, _, _, rfl, rfl, ⟨by decide, by decide, by decide⟩, _, _, rfl, rfl, ⟨by decide, by decide, by decide⟩, _, _, rfl, rfl, mul60, _, _, rfl, rfl, pos60, ?_⟩
      refine ⟨_, rfl, _, rfl, _, rfl, _, _, rfl, rfl, (show (0 : Int) < 1152921504606846809 by decide), _, _, rfl, rfl, .inr (by decide), _, rfl, _, _, rfl, rfl, .inl (by decide), _, _, rfl, rfl, _, rfl, _, _, rfl, rfl, .inr ⟨_, rfl, _, _, rfl, rfl, .inl (by decide), _, _, rfl, rfl, _, _, rfl, rfl, (by show 3 ≤ sizeLine; decide), fun p np => ?_⟩⟩
      exact q _ p (sameUpd np) np ⟨_, _, _, upd_same, Int.emod_nonneg _ (by have := pos60; omega)⟩
    · refine ⟨_, rfl, _, _, rfl, rfl, .inl (by decide), _, _, rfl, rfl, ?_⟩
      refine ⟨_, rfl, _, rfl, _, _, rfl, rfl, ⟨by decide, by decide, by decide⟩, _, _, rfl, rfl, _, _, rfl, _, _, rfl, rfl, ⟨by decide, by decide, by decide⟩, _, _, rfl, rfl, ⟨by decide, by decide, by decide⟩, _, _, rfl, rfl, mul60, _, _, rfl, rfl, pos60, ?_⟩
      refine ⟨_, rfl, _, rfl, _, rfl, _, _, rfl, rfl, (show (0 : Int) < 1152921504606846809 by decide), _, _, rfl, rfl, .inr (by decide), _, rfl, _, _, rfl, rfl, .inl (by decide), _, _, rfl, rfl, _, rfl, _, _, rfl, rfl, .inr ⟨_, rfl, _, _, rfl, rfl, .inl (by decide), _, _, rfl, rfl, _, _, rfl, rfl, (by show 3 ≤ sizeLine; decide), fun p np => ?_⟩⟩
      exact q _ p (sameUpd np) np ⟨_, _, _, upd_same, Int.emod_nonneg _ (by have := pos60; omega)⟩
theorem ok_roll {f : Addr} {fd : FuncData} {k : Nat} (F : Fun K "_law_roll" "_law_roll" sRoll f fd) (mi : mg "int" = none) :
    FnOk P w K mg base CX0 (k + 1) f fd ["dice", "total"] spRoll := by
  refine F.ok scRoll (fun vs H Q E h => ?_) (fun cdv A outer s H vs Q E hr h => ?_)
  · obtain ⟨a, n, rfl, _⟩ := h
    rfl
  · obtain ⟨l, n, rfl, ⟨a, b, c, hd, ha⟩, h0, h1, q⟩ := h
    have at0 : atI [V.int a, .int b, .int c] 0 = some (.int a) := rfl
    have at1 : atI [V.int a, .int b, .int c] 1 = some (.int b) := rfl
    have at2 : atI [V.int a, .int b, .int c] 2 = some (.int c) := rfl
    refine ⟨_, pss_cons (ps_if (pt_cmpR op_gt (pe_ix ix_list (pv 0) pe_int (fun _ _ => rfl)) pe_int (nomark _))
        (pss_cons (ps_set (i := 2) scRoll.nd rfl (.inl rfl) (pe_op op_mod (pe_callTy call_int1 (by rfl) mi (by decide +kernel) (pa_cons (pe_ix ix_list (pv 0) pe_int (fun _ _ => rfl)) pa_nil)) (pv 1)))
        (pss_cons (ps_asg (pe_op op_fdiv (pe_ix ix_list (pv 0) pe_int (fun _ _ => rfl)) (pv 1)) (pg_sub (pv 0) pe_int set_list))
        (pss_one (ps_ret (pv 2))))) pss_nil)
      (pss_cons (ps_asg (pe_op op_add (pe_ix ix_list (pv 0) pe_int (fun _ _ => rfl)) pe_int) (pg_sub (pv 0) pe_int set_list))
      (pss_cons (ps_set (i := 3) scRoll.nd rfl (.inl rfl) (pe_op op_mod (pe_callTy call_int1 (by rfl) mi (by decide +kernel)
          (pa_cons (pe_op op_add (pe_ix ix_list (pv 0) pe_int (fun _ _ => rfl)) (pe_op op_mul pe_int (pe_ix ix_list (pv 0) pe_int (fun _ _ => rfl)))) pa_nil)) pe_int))
      (pss_cons (ps_set (i := 4) scRoll.nd rfl (.inl rfl) (pe_op op_add (pe_op op_mul (pe_op op_mod (pe_callTy call_int1 (by rfl) mi (by decide +kernel)
          (pa_cons (pe_op op_add (pe_op op_mul (pv 3) (pv 3)) (pe_op op_mul pe_int (pe_ix ix_list (pv 0) pe_int (fun _ _ => rfl)))) pa_nil)) pe_int) pe_int) (pv 3)))
      (pss_one (ps_ret (pe_op op_mod (pe_callTy call_int1 (by rfl) mi (by decide +kernel) (pa_cons (pe_op op_fdiv (pv 4) pe_int) pa_nil)) (pv 1))))))), ?_⟩
    refine ⟨.ref l, rfl, l, _, 0, _, rfl, rfl, .of hd, at0, a, 0, rfl, rfl, _, rfl, ite2 (fun e => ?_) (fun e => ?_)⟩
    · refine ⟨.ref l, rfl, l, _, 0, _, rfl, rfl, .of hd, at0, .inl ⟨a, rfl, .int n, rfl, a, n, rfl, rfl, h0, ?_⟩⟩
      refine ⟨.ref l, rfl, l, _, 0, _, rfl, rfl, .of hd, at0, .int n, rfl, a, n, rfl, rfl, ⟨h0, h1⟩, .ref l, rfl, l, _, 0, 0, rfl, rfl, hd, rfl, ?_⟩
      refine ⟨_, rfl, q _ _ .at ⟨a / n, b, c, upd_same, Int.ediv_nonneg ha (by omega)⟩ (Int.emod_nonneg _ (by omega)) (Int.emod_lt_of_pos _ h0)⟩
    · refine ⟨.ref l, rfl, l, _, 2, _, rfl, rfl, .of hd, at2, c, 1, rfl, rfl, .ref l, rfl, l, _, 2, 2, rfl, rfl, hd, rfl, ?_⟩
      have hd' : (upd H l (.lst [.int a, .int b, .int (c + 1)])) l = some (.lst [.int a, .int b, .int (c + 1)]) := upd_same
      have at1 : atI [V.int a, .int b, .int (c + 1)] 1 = some (.int b) := rfl
      have at2 : atI [V.int a, .int b, .int (c + 1)] 2 = some (.int (c + 1)) := rfl
      have p1 : (0 : Int) < 2305843009213693669 := by decide
      have p2 : (0 : Int) < 1152921504606846779 := by decide
      refine ⟨.ref l, rfl, l, _, 1, _, rfl, rfl, .of hd', at1, .ref l, rfl, l, _, 2, _, rfl, rfl, .of hd', at2, _, _, rfl, rfl, .inl (by decide), _, _, rfl, rfl, .inl ⟨_, rfl, _, _, rfl, rfl, p1, ?_⟩⟩
      have b0 := Int.emod_nonneg (b + 86028121 * (c + 1)) (show (2305843009213693669 : Int) ≠ 0 by decide)
      have b1 := Int.emod_lt_of_pos (b + 86028121 * (c + 1)) p1
      refine ⟨_, rfl, _, rfl, _, _, rfl, rfl, .inl ⟨Int.lt_of_lt_of_le (by decide) b0, Int.lt_trans b1 (by decide)⟩, .ref l, rfl, l, _, 2, _, rfl, rfl, .of hd', at2, _, _, rfl, rfl, .inl (by decide), _, _, rfl, rfl, .inl ⟨_, rfl, _, _, rfl, rfl, p2, ?_⟩⟩
      refine ⟨_, _, rfl, rfl, .inr (by decide), _, rfl, _, _, rfl, rfl, ?_⟩
      refine ⟨_, rfl, _, _, rfl, rfl, ⟨by decide, by decide⟩, .inl ⟨_, rfl, .int n, rfl, _, n, rfl, rfl, h0, ?_⟩⟩
      exact q _ _ .at ⟨a, b, c + 1, upd_same, ha⟩ (Int.emod_nonneg _ (by omega)) (Int.emod_lt_of_pos _ h0)
theorem ok_pick {f fR : Addr} {fd fdR : FuncData} (F : Fun K "_law_pick" "_law_pick" sPick f fd) (FR : Fun K "_law_roll" "_law_roll" sRoll fR fdR)
    (bR : Binds K fdR ["dice", "total"] []) (gR : mg "_law_roll" = some (.ref fR)) (ml : mg "len" = none) (mi : mg "int" = none) :
    FnOk P w K mg base CX0 2 f fd ["dice", "items"] (spPick K) := by
  have GR : FnOk P w K mg base CX0 1 fR fdR ["dice", "total"] spRoll := ok_roll FR mi
  refine F.ok scPick (fun vs H Q E h => ?_) (fun cdv A outer s H vs Q E hr h => ?_)
  · obtain ⟨l, a, xs, rfl, _⟩ := h
    rfl
  · obtain ⟨l, a, xs, rfl, hd, ne, hx, h0, h1, q⟩ := h
    refine ⟨_, pss_one (ps_ret (pe_ix ix_seq (pv 1) (pe_call GR hr (by rfl) gR FR.kp bR .nil pass0
      (pa_cons (pv 0) (pa_cons (pe_callB call_len_seq (by rfl) ml PySem.boot_len (pa_cons (pv 1) pa_nil)) pa_nil))) (fun _ _ => rfl))), ?_⟩
    refine ⟨.ref a, rfl, .ref l, rfl, .ref a, rfl, a, xs, rfl, hx, l, xs.length, rfl, hd, by omega, by omega, fun H' r bt hd' r0 r1 => ?_⟩
    have e : xs[r.toNat]? = some xs[r.toNat] := List.getElem?_eq_getElem (by omega)
    have e2 : atI xs r = some xs[r.toNat] := by
      have := atI_nat e
      rwa [show ((r.toNat : Nat) : Int) = r by omega] at this
    rcases hx with hx | hx
    · exact .inl ⟨a, xs, r, _, rfl, rfl, bt.seqL ne hx, e2, q H' r.toNat _ bt hd' e⟩
    · exact .inr (.inl ⟨a, xs, r, _, rfl, rfl, bt.seqT ne hx, e2, q H' r.toNat _ bt hd' e⟩)
end
end K01

set_option maxHeartbeats 4000000
namespace GG
open PySem PySem.Spec PyProof.Rows L2
/-! ### a text taken once or not at all -/
def pick (z : Str) (b : Bool) : Str := if b = true then z else Str.empty
def rStrB : R2 := fun x y H Q => ∃ (z : Str) (b : Bool), x = .str z ∧ y = .int (if b = true then 1 else 0) ∧ Q (.str (pick z b)) H
theorem op_strB {X : Cx} : OpR X (binaryOp .Mult) rStrB := by
  intro pins s σ H x y v u Q I rx ry ⟨z, b, ex, ey, q⟩
  subst ex ey
  obtain ⟨t, rfl⟩ := rx
  obtain ⟨t2, rfl⟩ := ry
  cases b with
  | false =>
    refine P.mul_str_none (by decide) (by decide) ?_
    exact ⟨.str Str.empty, H, I.tok _, ⟨_, rfl⟩, q⟩
  | true =>
    refine P.mul_str (by decide) (fun _ h => by simp at h) (fun _ h => by simp at h) ?_
    rw [if_neg (by decide), if_pos (by simp)]
    exact ⟨.str z, H, I, ⟨_, rfl⟩, q⟩
theorem pick_len (z : Str) (b : Bool) : (pick z b).length ≤ z.length := by
  cases b
  · exact Nat.zero_le _
  · exact Nat.le_refl _
/-- e.fld, e the exception that the suite holds -/
theorem pe_byF {X : Cx} {C a : Addr} {fld : Str} {oe : Obj} {cls : Value} {d : Option Addr} {pn : List (Addr × Obj)} {e : Expr} {te : TE} {pos : Pos} (T : FldX X.K C fld) (hz : Zc cls d oe) (hf : ∃ vs, oe.data = .fields vs)
    (he : PE (X.suite a ((a, oe) :: pn)) e te) (hb : attributeBase e fld X.env (eval e X.env) = eval e X.env := by rfl) :
    PE (X.suite a ((a, oe) :: pn)) (.Attribute e fld pos) (tByX C fld a cls d te) := by
  constructor
  intro pins s σ H Q I h
  refine attr_of hb (thn (he.run pins s σ H _ I h) ?_)
  intro u s1 hh
  obtain ⟨x, H1, I1, rx, rfl, rfl, dd, v, rfl, ea, q⟩ := hh
  cases (show u = Value.ref a from rx)
  obtain ⟨ha, _⟩ := I1.pin (a, oe) (List.mem_append_left _ List.mem_cons_self)
  obtain ⟨vs, hd⟩ := hf
  obtain ⟨mA, hns, hr⟩ := (show ObjOk X.prog X.w H1 s1.heap dd (.xd [(fld, v)]) from I1.hok dd _ ea)
  obtain ⟨od, ho, hl⟩ := lookIn_ns hns
  have l : List.lookup fld [(fld, v)] = some v := by simp [List.lookup]
  obtain ⟨u, hu, ru⟩ := RelO.some_of (v := v) (o := mA fld) (by rw [← l]; exact hr fld)
  have nc : PySem.W.notCls oe = true := by
    unfold PySem.W.notCls
    rw [hd] <;> rfl
  have J : PySem.W.InstAt s1.heap a oe C (some od) := ⟨ha, hz.1, nc, by rw [hz.2]; exact ho⟩
  exact HandSPX.exc_get I1.kIn J T.ga T.gg T.ex (PySem.W.findObj_own T.hd T.no rfl (by rw [hl, hu])) (handed_of ru) ⟨v, H1, I1.tok _, ru, q⟩
end GG

set_option maxHeartbeats 8000000
namespace K01
open PySem PySem.Spec PyProof.Rows L2 GG
abbrev sOwn : Stmt := topS 18
abbrev sAll : Stmt := topS 19
theorem scOwn : FnScope ["error", "found"] ["error"] (defScope sOwn) := ⟨rfl, rfl, rfl, by decide +kernel, rfl, by decide +kernel, by decide +kernel⟩
theorem scAll : FnScope ["error", "found"] ["error"] (defScope sAll) := ⟨rfl, rfl, rfl, by decide +kernel, rfl, by decide +kernel, by decide +kernel⟩
/-- the row's own classes -/
structure Cs where
  (cW cK cT cQ cO cX cU cR cN cZ cM cC cB : Addr)
/-- what isinstance answers of the class D: the twelve own ones, then WebError and seven built-in ones -/
structure Bits where
  (b0 b1 b2 b3 b4 b5 b6 b7 b8 b9 b10 b11 e0 e1 e2 e3 e4 e5 e6 e7 : Bool)
def ownStr (b : Bits) : Str := (((((((((((pick "w" b.b0 ++ pick "k" b.b1) ++ pick "t" b.b2) ++ pick "q" b.b3) ++ pick "o" b.b4) ++ pick "x" b.b5) ++ pick "U" b.b6) ++ pick "R" b.b7) ++ pick "N" b.b8) ++ pick "Z" b.b9) ++ pick "M" b.b10) ++ pick "C" b.b11)
def allStr (b : Bits) : Str := (((((((((ownStr b ++ " ") ++ pick "web " b.e0) ++ pick "value " b.e1) ++ pick "key " b.e2) ++ pick "index " b.e3) ++ pick "lookup " b.e4) ++ pick "runtime " b.e5) ++ pick "overflow " b.e6) ++ pick "arithmetic " b.e7)
structure Knows (K : PySem.W.Frag) (c : Cs) (D : Addr) (b : Bits) : Prop where
  ex : ExcC K D
  k0 : PySem.W.kitOne K (.ref D) (.ref c.cW) = some b.b0
  k1 : PySem.W.kitOne K (.ref D) (.ref c.cK) = some b.b1
  k2 : PySem.W.kitOne K (.ref D) (.ref c.cT) = some b.b2
  k3 : PySem.W.kitOne K (.ref D) (.ref c.cQ) = some b.b3
  k4 : PySem.W.kitOne K (.ref D) (.ref c.cO) = some b.b4
  k5 : PySem.W.kitOne K (.ref D) (.ref c.cX) = some b.b5
  k6 : PySem.W.kitOne K (.ref D) (.ref c.cU) = some b.b6
  k7 : PySem.W.kitOne K (.ref D) (.ref c.cR) = some b.b7
  k8 : PySem.W.kitOne K (.ref D) (.ref c.cN) = some b.b8
  k9 : PySem.W.kitOne K (.ref D) (.ref c.cZ) = some b.b9
  k10 : PySem.W.kitOne K (.ref D) (.ref c.cM) = some b.b10
  k11 : PySem.W.kitOne K (.ref D) (.ref c.cC) = some b.b11
  r0 : PySem.W.kitOne K (.ref D) (.ref c.cB) = some b.e0
  r1 : PySem.W.kitOne K (.ref D) (.type "ValueError") = some b.e1
  r2 : PySem.W.kitOne K (.ref D) (.type "KeyError") = some b.e2
  r3 : PySem.W.kitOne K (.ref D) (.type "IndexError") = some b.e3
  r4 : PySem.W.kitOne K (.ref D) (.type "LookupError") = some b.e4
  r5 : PySem.W.kitOne K (.ref D) (.type "RuntimeError") = some b.e5
  r6 : PySem.W.kitOne K (.ref D) (.type "OverflowError") = some b.e6
  r7 : PySem.W.kitOne K (.ref D) (.type "ArithmeticError") = some b.e7
def spOwn (K : PySem.W.Frag) (c : Cs) : Sp := fun vs H Q _ => ∃ (a D : Addr) (d : Option Addr) (b : Bits), vs = [.ref a] ∧ Exc H a (.ref D) d ∧ Knows K c D b ∧ Q (.str (ownStr b)) H
def spAll (K : PySem.W.Frag) (c : Cs) : Sp := fun vs H Q _ => ∃ (a D : Addr) (d : Option Addr) (b : Bits), vs = [.ref a] ∧ Exc H a (.ref D) d ∧ Knows K c D b ∧ Q (.str (allStr b)) H
theorem app_len {a b : Str} {m n : Nat} (ha : a.length ≤ m) (hb : b.length ≤ n) : (a ++ b).length ≤ m + n := by
  rw [PySem.strLen_append]
  exact Nat.add_le_add ha hb
theorem app_sz {a b : Str} {m n : Nat} (ha : a.length ≤ m) (hb : b.length ≤ n) (h : m + n ≤ 1000 := by decide) : a.length + b.length ≤ sizeLine := by
  rw [sizeLine_eq]
  omega
theorem p1 (z : Str) (b : Bool) {n : Nat} (h : z.length = n) : (pick z b).length ≤ n := h ▸ pick_len z b
theorem own_len (b : Bits) : (ownStr b).length ≤ 12 := by
  unfold ownStr
  exact app_len (app_len (app_len (app_len (app_len (app_len (app_len (app_len (app_len (app_len (app_len (p1 _ _ rfl) (p1 _ _ rfl)) (p1 _ _ rfl)) (p1 _ _ rfl)) (p1 _ _ rfl)) (p1 _ _ rfl)) (p1 _ _ rfl)) (p1 _ _ rfl)) (p1 _ _ rfl)) (p1 _ _ rfl)) (p1 _ _ rfl)) (p1 _ _ rfl)
section
variable {P : Program} {w : World} {K : PySem.W.Frag} {mg : Str → Option Value} {base : Heap}
theorem ok_own {f : Addr} {fd : FuncData} {k : Nat} (c : Cs) (F : Fun K "_law_own" "_law_own" sOwn f fd) (mi : mg "int" = none) (ms : mg "isinstance" = none)
    (g0 : mg "InvalidWeb" = some (.ref c.cW)) (g1 : mg "InvalidWalk" = some (.ref c.cK)) (g2 : mg "InvalidTerm" = some (.ref c.cT)) (g3 : mg "InvalidPaper" = some (.ref c.cQ)) (g4 : mg "InvalidOperation" = some (.ref c.cO)) (g5 : mg "ParseError" = some (.ref c.cX)) (g6 : mg "UnknownName" = some (.ref c.cU)) (g7 : mg "NoWalk" = some (.ref c.cR)) (g8 : mg "InvalidNumber" = some (.ref c.cN)) (g9 : mg "NothingToUndo" = some (.ref c.cZ)) (g10 : mg "TooMany" = some (.ref c.cM)) (g11 : mg "NotLone" = some (.ref c.cC)) :
    FnOk P w K mg base CX0 (k + 1) f fd ["error"] (spOwn K c) := by
  refine F.ok scOwn (fun vs H Q E h => ?_) (fun cdv A outer s H vs Q E hr h => ?_)
  · obtain ⟨a, D, d, b, rfl, _⟩ := h
    rfl
  · obtain ⟨a, D, d, b, rfl, ex, kn, q⟩ := h
    have N := scOwn.nd
    refine ⟨_, (pss_cons (ps_set (i := 1) N rfl (.inl rfl) (pe_op op_add_str (pe_op op_strB pe_str (pe_callTy call_int1 (by rfl) mi (by decide +kernel) (pa_cons (pe_callB call_isX (by rfl) ms (by decide +kernel) (pa_cons (pv 0) (pa_cons (pe_glob (v := .ref c.cW) (by rfl) g0 rfl) pa_nil))) pa_nil))) (pe_op op_strB pe_str (pe_callTy call_int1 (by rfl) mi (by decide +kernel) (pa_cons (pe_callB call_isX (by rfl) ms (by decide +kernel) (pa_cons (pv 0) (pa_cons (pe_glob (v := .ref c.cK) (by rfl) g1 rfl) pa_nil))) pa_nil)))))
      (pss_cons (ps_set (i := 1) N rfl (.inl rfl) (pe_op op_add_str (pe_op op_add_str (pv 1) (pe_op op_strB pe_str (pe_callTy call_int1 (by rfl) mi (by decide +kernel) (pa_cons (pe_callB call_isX (by rfl) ms (by decide +kernel) (pa_cons (pv 0) (pa_cons (pe_glob (v := .ref c.cT) (by rfl) g2 rfl) pa_nil))) pa_nil)))) (pe_op op_strB pe_str (pe_callTy call_int1 (by rfl) mi (by decide +kernel) (pa_cons (pe_callB call_isX (by rfl) ms (by decide +kernel) (pa_cons (pv 0) (pa_cons (pe_glob (v := .ref c.cQ) (by rfl) g3 rfl) pa_nil))) pa_nil)))))
      (pss_cons (ps_set (i := 1) N rfl (.inl rfl) (pe_op op_add_str (pe_op op_add_str (pv 1) (pe_op op_strB pe_str (pe_callTy call_int1 (by rfl) mi (by decide +kernel) (pa_cons (pe_callB call_isX (by rfl) ms (by decide +kernel) (pa_cons (pv 0) (pa_cons (pe_glob (v := .ref c.cO) (by rfl) g4 rfl) pa_nil))) pa_nil)))) (pe_op op_strB pe_str (pe_callTy call_int1 (by rfl) mi (by decide +kernel) (pa_cons (pe_callB call_isX (by rfl) ms (by decide +kernel) (pa_cons (pv 0) (pa_cons (pe_glob (v := .ref c.cX) (by rfl) g5 rfl) pa_nil))) pa_nil)))))
      (pss_cons (ps_set (i := 1) N rfl (.inl rfl) (pe_op op_add_str (pe_op op_add_str (pv 1) (pe_op op_strB pe_str (pe_callTy call_int1 (by rfl) mi (by decide +kernel) (pa_cons (pe_callB call_isX (by rfl) ms (by decide +kernel) (pa_cons (pv 0) (pa_cons (pe_glob (v := .ref c.cU) (by rfl) g6 rfl) pa_nil))) pa_nil)))) (pe_op op_strB pe_str (pe_callTy call_int1 (by rfl) mi (by decide +kernel) (pa_cons (pe_callB call_isX (by rfl) ms (by decide +kernel) (pa_cons (pv 0) (pa_cons (pe_glob (v := .ref c.cR) (by rfl) g7 rfl) pa_nil))) pa_nil)))))
      (pss_cons (ps_set (i := 1) N rfl (.inl rfl) (pe_op op_add_str (pe_op op_add_str (pv 1) (pe_op op_strB pe_str (pe_callTy call_int1 (by rfl) mi (by decide +kernel) (pa_cons (pe_callB call_isX (by rfl) ms (by decide +kernel) (pa_cons (pv 0) (pa_cons (pe_glob (v := .ref c.cN) (by rfl) g8 rfl) pa_nil))) pa_nil)))) (pe_op op_strB pe_str (pe_callTy call_int1 (by rfl) mi (by decide +kernel) (pa_cons (pe_callB call_isX (by rfl) ms (by decide +kernel) (pa_cons (pv 0) (pa_cons (pe_glob (v := .ref c.cZ) (by rfl) g9 rfl) pa_nil))) pa_nil)))))
      (pss_cons (ps_set (i := 1) N rfl (.inl rfl) (pe_op op_add_str (pv 1) (pe_op op_strB pe_str (pe_callTy call_int1 (by rfl) mi (by decide +kernel) (pa_cons (pe_callB call_isX (by rfl) ms (by decide +kernel) (pa_cons (pv 0) (pa_cons (pe_glob (v := .ref c.cM) (by rfl) g10 rfl) pa_nil))) pa_nil)))))
      (pss_one (ps_ret (pe_op op_add_str (pv 1) (pe_op op_strB pe_str (pe_callTy call_int1 (by rfl) mi (by decide +kernel) (pa_cons (pe_callB call_isX (by rfl) ms (by decide +kernel) (pa_cons (pv 0) (pa_cons (pe_glob (v := .ref c.cC) (by rfl) g11 rfl) pa_nil))) pa_nil)))))))))))), ?_⟩
    refine ⟨_, rfl, a, D, d, _, _, _, rfl, ex, kn.ex, (fun u r => r), kn.k0, .inr ⟨_, rfl, _, _, rfl, rfl, _, rfl, a, D, d, _, _, _, rfl, ex, kn.ex, (fun u r => r), kn.k1, .inr ⟨_, rfl, _, _, rfl, rfl, _, _, rfl, rfl, app_sz (p1 _ _ rfl) (p1 _ _ rfl), ?_⟩⟩⟩
    refine ⟨_, rfl, _, rfl, a, D, d, _, _, _, rfl, ex, kn.ex, (fun u r => r), kn.k2, .inr ⟨_, rfl, _, _, rfl, rfl, _, _, rfl, rfl, app_sz (app_len (p1 _ _ rfl) (p1 _ _ rfl)) (p1 _ _ rfl), _, rfl, a, D, d, _, _, _, rfl, ex, kn.ex, (fun u r => r), kn.k3, .inr ⟨_, rfl, _, _, rfl, rfl, _, _, rfl, rfl, app_sz (app_len (app_len (p1 _ _ rfl) (p1 _ _ rfl)) (p1 _ _ rfl)) (p1 _ _ rfl), ?_⟩⟩⟩
    refine ⟨_, rfl, _, rfl, a, D, d, _, _, _, rfl, ex, kn.ex, (fun u r => r), kn.k4, .inr ⟨_, rfl, _, _, rfl, rfl, _, _, rfl, rfl, app_sz (app_len (app_len (app_len (p1 _ _ rfl) (p1 _ _ rfl)) (p1 _ _ rfl)) (p1 _ _ rfl)) (p1 _ _ rfl), _, rfl, a, D, d, _, _, _, rfl, ex, kn.ex, (fun u r => r), kn.k5, .inr ⟨_, rfl, _, _, rfl, rfl, _, _, rfl, rfl, app_sz (app_len (app_len (app_len (app_len (p1 _ _ rfl) (p1 _ _ rfl)) (p1 _ _ rfl)) (p1 _ _ rfl)) (p1 _ _ rfl)) (p1 _ _ rfl), ?_⟩⟩⟩
    refine ⟨_, rfl, _, rfl, a, D, d, _, _, _, rfl, ex, kn.ex, (fun u r => r), kn.k6, .inr ⟨_, rfl, _, _, rfl, rfl, _, _, rfl, rfl, app_sz (app_len (app_len (app_len (app_len (app_len (p1 _ _ rfl) (p1 _ _ rfl)) (p1 _ _ rfl)) (p1 _ _ rfl)) (p1 _ _ rfl)) (p1 _ _ rfl)) (p1 _ _ rfl), _, rfl, a, D, d, _, _, _, rfl, ex, kn.ex, (fun u r => r), kn.k7, .inr ⟨_, rfl, _, _, rfl, rfl, _, _, rfl, rfl, app_sz (app_len (app_len (app_len (app_len (app_len (app_len (p1 _ _ rfl) (p1 _ _ rfl)) (p1 _ _ rfl)) (p1 _ _ rfl)) (p1 _ _ rfl)) (p1 _ _ rfl)) (p1 _ _ rfl)) (p1 _ _ rfl), ?_⟩⟩⟩
    refine ⟨_, rfl, _, rfl, a, D, d, _, _, _, rfl, ex, kn.ex, (fun u r => r), kn.k8, .inr ⟨_, rfl, _, _, rfl, rfl, _, _, rfl, rfl, app_sz (app_len (app_len (app_len (app_len (app_len (app_len (app_len (p1 _ _ rfl) (p1 _ _ rfl)) (p1 _ _ rfl)) (p1 _ _ rfl)) (p1 _ _ rfl)) (p1 _ _ rfl)) (p1 _ _ rfl)) (p1 _ _ rfl)) (p1 _ _ rfl), _, rfl, a, D, d, _, _, _, rfl, ex, kn.ex, (fun u r => r), kn.k9, .inr ⟨_, rfl, _, _, rfl, rfl, _, _, rfl, rfl, app_sz (app_len (app_len (app_len (app_len (app_len (app_len (app_len (app_len (p1 _ _ rfl) (p1 _ _ rfl)) (p1 _ _ rfl)) (p1 _ _ rfl)) (p1 _ _ rfl)) (p1 _ _ rfl)) (p1 _ _ rfl)) (p1 _ _ rfl)) (p1 _ _ rfl)) (p1 _ _ rfl), ?_⟩⟩⟩
    refine ⟨_, rfl, _, rfl, a, D, d, _, _, _, rfl, ex, kn.ex, (fun u r => r), kn.k10, .inr ⟨_, rfl, _, _, rfl, rfl, _, _, rfl, rfl, app_sz (app_len (app_len (app_len (app_len (app_len (app_len (app_len (app_len (app_len (p1 _ _ rfl) (p1 _ _ rfl)) (p1 _ _ rfl)) (p1 _ _ rfl)) (p1 _ _ rfl)) (p1 _ _ rfl)) (p1 _ _ rfl)) (p1 _ _ rfl)) (p1 _ _ rfl)) (p1 _ _ rfl)) (p1 _ _ rfl), ?_⟩⟩
    exact ⟨_, rfl, _, rfl, a, D, d, _, _, _, rfl, ex, kn.ex, (fun u r => r), kn.k11, .inr ⟨_, rfl, _, _, rfl, rfl, _, _, rfl, rfl, app_sz (app_len (app_len (app_len (app_len (app_len (app_len (app_len (app_len (app_len (app_len (p1 _ _ rfl) (p1 _ _ rfl)) (p1 _ _ rfl)) (p1 _ _ rfl)) (p1 _ _ rfl)) (p1 _ _ rfl)) (p1 _ _ rfl)) (p1 _ _ rfl)) (p1 _ _ rfl)) (p1 _ _ rfl)) (p1 _ _ rfl)) (p1 _ _ rfl), q⟩⟩
theorem ok_all {f fO : Addr} {fd fdO : FuncData} {k : Nat} (c : Cs) (F : Fun K "_law_all" "_law_all" sAll f fd) (bO : Binds K fdO ["error"] []) (GO : FnOk P w K mg base CX0 k fO fdO ["error"] (spOwn K c)) (gO : mg "_law_own" = some (.ref fO)) (kO : PySem.W.keepIn K (.ref fO) = true) (mi : mg "int" = none) (ms : mg "isinstance" = none)
    (gB : mg "WebError" = some (.ref c.cB)) (m1 : mg "ValueError" = none) (m2 : mg "KeyError" = none) (m3 : mg "IndexError" = none) (m4 : mg "LookupError" = none) (m5 : mg "RuntimeError" = none) (m6 : mg "OverflowError" = none) (m7 : mg "ArithmeticError" = none) :
    FnOk P w K mg base CX0 (k + 1) f fd ["error"] (spAll K c) := by
  refine F.ok scAll (fun vs H Q E h => ?_) (fun cdv A outer s H vs Q E hr h => ?_)
  · obtain ⟨a, D, d, b, rfl, _⟩ := h
    rfl
  · obtain ⟨a, D, d, b, rfl, ex, kn, q⟩ := h
    have N := scAll.nd
    refine ⟨_, (pss_cons (ps_set (i := 1) N rfl (.inl rfl) (pe_op op_add_str (pe_op op_add_str (pe_call GO hr (by rfl) gO kO bO .nil pass0 (pa_cons (pv 0) pa_nil)) pe_str) (pe_op op_strB pe_str (pe_callTy call_int1 (by rfl) mi (by decide +kernel) (pa_cons (pe_callB call_isX (by rfl) ms (by decide +kernel) (pa_cons (pv 0) (pa_cons (pe_glob (v := .ref c.cB) (by rfl) gB rfl) pa_nil))) pa_nil)))))
      (pss_cons (ps_set (i := 1) N rfl (.inl rfl) (pe_op op_add_str (pe_op op_add_str (pv 1) (pe_op op_strB pe_str (pe_callTy call_int1 (by rfl) mi (by decide +kernel) (pa_cons (pe_callB call_isX (by rfl) ms (by decide +kernel) (pa_cons (pv 0) (pa_cons (pe_bltn (v := .ty "ValueError") (by rfl) m1 (by decide +kernel) rfl) pa_nil))) pa_nil)))) (pe_op op_strB pe_str (pe_callTy call_int1 (by rfl) mi (by decide +kernel) (pa_cons (pe_callB call_isX (by rfl) ms (by decide +kernel) (pa_cons (pv 0) (pa_cons (pe_bltn (v := .ty "KeyError") (by rfl) m2 (by decide +kernel) rfl) pa_nil))) pa_nil)))))
      (pss_cons (ps_set (i := 1) N rfl (.inl rfl) (pe_op op_add_str (pe_op op_add_str (pv 1) (pe_op op_strB pe_str (pe_callTy call_int1 (by rfl) mi (by decide +kernel) (pa_cons (pe_callB call_isX (by rfl) ms (by decide +kernel) (pa_cons (pv 0) (pa_cons (pe_bltn (v := .ty "IndexError") (by rfl) m3 (by decide +kernel) rfl) pa_nil))) pa_nil)))) (pe_op op_strB pe_str (pe_callTy call_int1 (by rfl) mi (by decide +kernel) (pa_cons (pe_callB call_isX (by rfl) ms (by decide +kernel) (pa_cons (pv 0) (pa_cons (pe_bltn (v := .ty "LookupError") (by rfl) m4 (by decide +kernel) rfl) pa_nil))) pa_nil)))))
      (pss_cons (ps_set (i := 1) N rfl (.inl rfl) (pe_op op_add_str (pv 1) (pe_op op_strB pe_str (pe_callTy call_int1 (by rfl) mi (by decide +kernel) (pa_cons (pe_callB call_isX (by rfl) ms (by decide +kernel) (pa_cons (pv 0) (pa_cons (pe_bltn (v := .ty "RuntimeError") (by rfl) m5 (by decide +kernel) rfl) pa_nil))) pa_nil)))))
      (pss_cons (ps_set (i := 1) N rfl (.inl rfl) (pe_op op_add_str (pv 1) (pe_op op_strB pe_str (pe_callTy call_int1 (by rfl) mi (by decide +kernel) (pa_cons (pe_callB call_isX (by rfl) ms (by decide +kernel) (pa_cons (pv 0) (pa_cons (pe_bltn (v := .ty "OverflowError") (by rfl) m6 (by decide +kernel) rfl) pa_nil))) pa_nil)))))
      (pss_one (ps_ret (pe_op op_add_str (pv 1) (pe_op op_strB pe_str (pe_callTy call_int1 (by rfl) mi (by decide +kernel) (pa_cons (pe_callB call_isX (by rfl) ms (by decide +kernel) (pa_cons (pv 0) (pa_cons (pe_bltn (v := .ty "ArithmeticError") (by rfl) m7 (by decide +kernel) rfl) pa_nil))) pa_nil))))))))))), ?_⟩
    refine ⟨_, rfl, a, D, d, b, rfl, ex, kn, _, _, rfl, rfl, app_sz (n := 1) (own_len b) (Nat.le_refl _), _, rfl, a, D, d, _, _, _, rfl, ex, kn.ex, (fun u r => r), kn.r0, .inr ⟨_, rfl, _, _, rfl, rfl, _, _, rfl, rfl, app_sz (app_len (n := 1) (own_len b) (Nat.le_refl _)) (p1 _ _ rfl), ?_⟩⟩
    refine ⟨_, rfl, _, rfl, a, D, d, _, _, _, rfl, ex, kn.ex, (fun u r => r), kn.r1, .inr ⟨_, rfl, _, _, rfl, rfl, _, _, rfl, rfl, app_sz (app_len (app_len (n := 1) (own_len b) (Nat.le_refl _)) (p1 _ _ rfl)) (p1 _ _ rfl), _, rfl, a, D, d, _, _, _, rfl, ex, kn.ex, (fun u r => r), kn.r2, .inr ⟨_, rfl, _, _, rfl, rfl, _, _, rfl, rfl, app_sz (app_len (app_len (app_len (n := 1) (own_len b) (Nat.le_refl _)) (p1 _ _ rfl)) (p1 _ _ rfl)) (p1 _ _ rfl), ?_⟩⟩⟩
    refine ⟨_, rfl, _, rfl, a, D, d, _, _, _, rfl, ex, kn.ex, (fun u r => r), kn.r3, .inr ⟨_, rfl, _, _, rfl, rfl, _, _, rfl, rfl, app_sz (app_len (app_len (app_len (app_len (n := 1) (own_len b) (Nat.le_refl _)) (p1 _ _ rfl)) (p1 _ _ rfl)) (p1 _ _ rfl)) (p1 _ _ rfl), _, rfl, a, D, d, _, _, _, rfl, ex, kn.ex, (fun u r => r), kn.r4, .inr ⟨_, rfl, _, _, rfl, rfl, _, _, rfl, rfl, app_sz (app_len (app_len (app_len (app_len (app_len (n := 1) (own_len b) (Nat.le_refl _)) (p1 _ _ rfl)) (p1 _ _ rfl)) (p1 _ _ rfl)) (p1 _ _ rfl)) (p1 _ _ rfl), ?_⟩⟩⟩
    refine ⟨_, rfl, _, rfl, a, D, d, _, _, _, rfl, ex, kn.ex, (fun u r => r), kn.r5, .inr ⟨_, rfl, _, _, rfl, rfl, _, _, rfl, rfl, app_sz (app_len (app_len (app_len (app_len (app_len (app_len (n := 1) (own_len b) (Nat.le_refl _)) (p1 _ _ rfl)) (p1 _ _ rfl)) (p1 _ _ rfl)) (p1 _ _ rfl)) (p1 _ _ rfl)) (p1 _ _ rfl), ?_⟩⟩
    refine ⟨_, rfl, _, rfl, a, D, d, _, _, _, rfl, ex, kn.ex, (fun u r => r), kn.r6, .inr ⟨_, rfl, _, _, rfl, rfl, _, _, rfl, rfl, app_sz (app_len (app_len (app_len (app_len (app_len (app_len (app_len (n := 1) (own_len b) (Nat.le_refl _)) (p1 _ _ rfl)) (p1 _ _ rfl)) (p1 _ _ rfl)) (p1 _ _ rfl)) (p1 _ _ rfl)) (p1 _ _ rfl)) (p1 _ _ rfl), ?_⟩⟩
    exact ⟨_, rfl, _, rfl, a, D, d, _, _, _, rfl, ex, kn.ex, (fun u r => r), kn.r7, .inr ⟨_, rfl, _, _, rfl, rfl, _, _, rfl, rfl, app_sz (app_len (app_len (app_len (app_len (app_len (app_len (app_len (app_len (n := 1) (own_len b) (Nat.le_refl _)) (p1 _ _ rfl)) (p1 _ _ rfl)) (p1 _ _ rfl)) (p1 _ _ rfl)) (p1 _ _ rfl)) (p1 _ _ rfl)) (p1 _ _ rfl)) (p1 _ _ rfl), q⟩⟩
end
end K01

set_option maxHeartbeats 8000000
namespace K01
open PySem PySem.Spec PyProof.Rows L2 GG
abbrev sMsg : Stmt := topS 20
abbrev sKept : Stmt := topS 21
theorem scMsg : FnScope ["found"] [] (defScope sMsg) := ⟨rfl, rfl, rfl, by decide +kernel, rfl, by decide +kernel, by decide +kernel⟩
theorem scKept : FnScope ["told", "index", "parse", "unknown", "walk", "number", "undo", "limit", "lone", "found"] ["told", "index"] (defScope sKept) := ⟨rfl, rfl, rfl, by decide +kernel, rfl, by decide +kernel, by decide +kernel⟩
abbrev chainVE : List Value := [.type "ValueError", .type "Exception", .type "BaseException", .type "object"]
def bits_cW : Bits := ⟨true, false, false, false, false, false, false, false, false, false, false, false, true, true, false, false, false, false, false, false⟩
def bits_cK : Bits := ⟨false, true, false, false, false, false, false, false, false, false, false, false, true, true, false, false, false, false, false, false⟩
def bits_cT : Bits := ⟨false, false, true, false, false, false, false, false, false, false, false, false, true, true, false, false, false, false, false, false⟩
def bits_cQ : Bits := ⟨false, false, false, true, false, false, false, false, false, false, false, false, true, true, false, false, false, false, false, false⟩
def bits_cO : Bits := ⟨false, false, false, false, true, false, false, false, false, false, false, false, true, true, false, false, false, false, false, false⟩
def bits_cX : Bits := ⟨false, false, false, false, false, true, false, false, false, false, false, false, true, true, false, false, false, false, false, false⟩
def bits_cU : Bits := ⟨false, false, false, false, false, false, true, false, false, false, false, false, false, false, true, false, true, false, false, false⟩
def bits_cR : Bits := ⟨false, false, false, false, false, false, false, true, false, false, false, false, false, false, false, false, true, false, false, false⟩
def bits_cN : Bits := ⟨false, false, false, false, false, false, false, false, true, false, false, false, false, false, false, true, true, false, false, false⟩
def bits_cZ : Bits := ⟨false, false, false, false, false, false, false, false, false, true, false, false, false, false, false, false, false, true, false, false⟩
def bits_cM : Bits := ⟨false, false, false, false, false, false, false, false, false, false, true, false, false, false, false, false, false, false, true, true⟩
def bits_cC : Bits := ⟨false, false, false, false, false, false, false, false, false, false, false, true, false, false, false, false, false, false, false, true⟩
def bits_cB : Bits := ⟨false, false, false, false, false, false, false, false, false, false, false, false, true, true, false, false, false, false, false, false⟩
theorem txt_cW : allStr bits_cW = "w web value " := by decide +kernel
theorem txt_cK : allStr bits_cK = "k web value " := by decide +kernel
theorem txt_cT : allStr bits_cT = "t web value " := by decide +kernel
theorem txt_cQ : allStr bits_cQ = "q web value " := by decide +kernel
theorem txt_cO : allStr bits_cO = "o web value " := by decide +kernel
theorem txt_cX : allStr bits_cX = "x web value " := by decide +kernel
theorem txt_cU : allStr bits_cU = "U key lookup " := by decide +kernel
theorem txt_cR : allStr bits_cR = "R lookup " := by decide +kernel
theorem txt_cN : allStr bits_cN = "N index lookup " := by decide +kernel
theorem txt_cZ : allStr bits_cZ = "Z runtime " := by decide +kernel
theorem txt_cM : allStr bits_cM = "M overflow arithmetic " := by decide +kernel
theorem txt_cC : allStr bits_cC = "C arithmetic " := by decide +kernel
theorem txt_cB : allStr bits_cB = " web value " := by decide +kernel
/-- what the row's head has written -/
structure Txt (K : PySem.W.Frag) (mg : Str → Option Value) (c : Cs) : Prop where
  g_cW : mg "InvalidWeb" = some (.ref c.cW)
  k_cW : PySem.W.keepIn K (.ref c.cW) = true
  n_cW : Knows K c c.cW bits_cW
  x_cW : PySem.W.excIn K c.cW chainVE "ValueError.__new__" = true
  g_cK : mg "InvalidWalk" = some (.ref c.cK)
  k_cK : PySem.W.keepIn K (.ref c.cK) = true
  n_cK : Knows K c c.cK bits_cK
  x_cK : PySem.W.excIn K c.cK chainVE "ValueError.__new__" = true
  g_cT : mg "InvalidTerm" = some (.ref c.cT)
  k_cT : PySem.W.keepIn K (.ref c.cT) = true
  n_cT : Knows K c c.cT bits_cT
  x_cT : PySem.W.excIn K c.cT chainVE "ValueError.__new__" = true
  g_cQ : mg "InvalidPaper" = some (.ref c.cQ)
  k_cQ : PySem.W.keepIn K (.ref c.cQ) = true
  n_cQ : Knows K c c.cQ bits_cQ
  x_cQ : PySem.W.excIn K c.cQ chainVE "ValueError.__new__" = true
  g_cO : mg "InvalidOperation" = some (.ref c.cO)
  k_cO : PySem.W.keepIn K (.ref c.cO) = true
  n_cO : Knows K c c.cO bits_cO
  x_cO : PySem.W.excIn K c.cO chainVE "ValueError.__new__" = true
  g_cX : mg "ParseError" = some (.ref c.cX)
  k_cX : PySem.W.keepIn K (.ref c.cX) = true
  n_cX : Knows K c c.cX bits_cX
  m_cX : PySem.GX.Makes K "line" c.cX
  f_cX : FldX K c.cX "line"
  g_cU : mg "UnknownName" = some (.ref c.cU)
  k_cU : PySem.W.keepIn K (.ref c.cU) = true
  n_cU : Knows K c c.cU bits_cU
  m_cU : PySem.GX.Makes K "word" c.cU
  f_cU : FldX K c.cU "word"
  g_cR : mg "NoWalk" = some (.ref c.cR)
  k_cR : PySem.W.keepIn K (.ref c.cR) = true
  n_cR : Knows K c c.cR bits_cR
  m_cR : PySem.GX.Makes K "ends" c.cR
  f_cR : FldX K c.cR "ends"
  g_cN : mg "InvalidNumber" = some (.ref c.cN)
  k_cN : PySem.W.keepIn K (.ref c.cN) = true
  n_cN : Knows K c c.cN bits_cN
  m_cN : PySem.GX.Makes K "value" c.cN
  f_cN : FldX K c.cN "value"
  g_cZ : mg "NothingToUndo" = some (.ref c.cZ)
  k_cZ : PySem.W.keepIn K (.ref c.cZ) = true
  n_cZ : Knows K c c.cZ bits_cZ
  m_cZ : PySem.GX.Makes K "many" c.cZ
  f_cZ : FldX K c.cZ "many"
  g_cM : mg "TooMany" = some (.ref c.cM)
  k_cM : PySem.W.keepIn K (.ref c.cM) = true
  n_cM : Knows K c c.cM bits_cM
  m_cM : PySem.GX.Makes K "limit" c.cM
  f_cM : FldX K c.cM "limit"
  g_cC : mg "NotLone" = some (.ref c.cC)
  k_cC : PySem.W.keepIn K (.ref c.cC) = true
  n_cC : Knows K c c.cC bits_cC
  m_cC : PySem.GX.Makes K "reason" c.cC
  f_cC : FldX K c.cC "reason"
  g_cB : mg "WebError" = some (.ref c.cB)
  k_cB : PySem.W.keepIn K (.ref c.cB) = true
  n_cB : Knows K c c.cB bits_cB
  x_cB : PySem.W.excIn K c.cB chainVE "ValueError.__new__" = true
abbrev msgs : List Str := ["w web value ", "k web value ", "t web value ", "q web value ", "o web value ", " web value "]
def spMsg : Sp := fun vs H Q _ => vs = [] ∧ ∀ H' p, Same H H' → H p = none → H' p = some (.lst (msgs.map V.str)) → Q (.ref p) H'
def spKept : Sp := fun vs H Q _ => ∃ told index, vs = [told, index] ∧ ∀ H' p a1 a2 a3 a4 a5 a6 a7, Same H H' → H' p = some (.lst [.ref a1, .ref a2, .ref a3, .ref a4, .ref a5, .ref a6, .ref a7]) →
  H' a1 = some (.tup [.str "x web value ", index]) → H' a2 = some (.tup [.str "U key lookup ", told]) → H' a3 = some (.tup [.str "R lookup ", told]) → H' a4 = some (.tup [.str "N index lookup ", told]) →
  H' a5 = some (.tup [.str "Z runtime ", told]) → H' a6 = some (.tup [.str "M overflow arithmetic ", told]) → H' a7 = some (.tup [.str "C arithmetic ", told]) → Q (.ref p) H'
section
variable {P : Program} {w : World} {K : PySem.W.Frag} {mg : Str → Option Value} {base : Heap}
theorem ok_msg {f fA : Addr} {fd fdA : FuncData} {k : Nat} (c : Cs) (T : Txt K mg c) (F : Fun K "_law_messages" "_law_messages" sMsg f fd) (bA : Binds K fdA ["error"] []) (GA : FnOk P w K mg base CX0 k fA fdA ["error"] (spAll K c))
    (gA : mg "_law_all" = some (.ref fA)) (kA : PySem.W.keepIn K (.ref fA) = true) :
    FnOk P w K mg base CX0 (k + 1) f fd [] spMsg := by
  refine F.ok scMsg (fun vs H Q E h => ?_) (fun cdv A outer s H vs Q E hr h => ?_)
  · obtain ⟨rfl, _⟩ := h
    rfl
  · obtain ⟨rfl, q⟩ := h
    have N := scMsg.nd
    refine ⟨_, pss_cons (ps_set (i := 0) N rfl (.inl rfl) (pe_lst (pa_cons (pe_call GA hr (by rfl) gA kA bA .nil pass0 (pa_cons (pe_exc1 PySem.F.excBase_ValueError T.x_cW T.g_cW T.k_cW (by rfl) pe_str) pa_nil)) (pa_cons (pe_call GA hr (by rfl) gA kA bA .nil pass0 (pa_cons (pe_exc1 PySem.F.excBase_ValueError T.x_cK T.g_cK T.k_cK (by rfl) pe_str) pa_nil)) (pa_cons (pe_call GA hr (by rfl) gA kA bA .nil pass0 (pa_cons (pe_exc1 PySem.F.excBase_ValueError T.x_cT T.g_cT T.k_cT (by rfl) pe_str) pa_nil)) pa_nil)))))
      (pss_cons (ps_set (i := 0) N rfl (.inl rfl) (pe_op op_cat (pv 0) (pe_lst (pa_cons (pe_call GA hr (by rfl) gA kA bA .nil pass0 (pa_cons (pe_exc1 PySem.F.excBase_ValueError T.x_cQ T.g_cQ T.k_cQ (by rfl) pe_str) pa_nil)) pa_nil))))
      (pss_one (ps_ret (pe_op op_cat (pv 0) (pe_lst (pa_cons (pe_call GA hr (by rfl) gA kA bA .nil pass0 (pa_cons (pe_exc1 PySem.F.excBase_ValueError T.x_cO T.g_cO T.k_cO (by rfl) pe_str) pa_nil)) (pa_cons (pe_call GA hr (by rfl) gA kA bA .nil pass0 (pa_cons (pe_exc1 PySem.F.excBase_ValueError T.x_cB T.g_cB T.k_cB (by rfl) pe_str) pa_nil)) pa_nil))))))), ?_⟩
    intro a0 n0
    refine ⟨a0, c.cW, none, bits_cW, rfl, exc_exO upd_same, T.n_cW, ?_⟩
    rw [txt_cW]
    intro a1 n1
    refine ⟨a1, c.cK, none, bits_cK, rfl, exc_exO upd_same, T.n_cK, ?_⟩
    rw [txt_cK]
    intro a2 n2
    refine ⟨a2, c.cT, none, bits_cT, rfl, exc_exO upd_same, T.n_cT, ?_⟩
    rw [txt_cT]
    refine ⟨(by show 3 ≤ sizeLine; decide), fun l1 m1 => ⟨_, rfl, ?_⟩⟩
    intro a3 n3
    refine ⟨a3, c.cQ, none, bits_cQ, rfl, exc_exO upd_same, T.n_cQ, ?_⟩
    rw [txt_cQ]
    refine ⟨(by show 1 ≤ sizeLine; decide), fun l2 m2 => ?_⟩
    have e1 := sameUpd (o := .lst [.str "q web value "]) m2 _ _ (sameUpd (o := ExO (.ref c.cQ) a3) n3 _ _ (upd_same (H := upd (upd (upd H a0 (ExO (.ref c.cW) a0)) a1 (ExO (.ref c.cK) a1)) a2 (ExO (.ref c.cT) a2)) (a := l1) (o := .lst [.str "w web value ", .str "k web value ", .str "t web value "])))
    refine ⟨l1, l2, _, _, rfl, rfl, e1, upd_same, (by show 4 ≤ sizeLine; decide), fun l3 m3 => ⟨_, rfl, ?_⟩⟩
    intro a4 n4
    refine ⟨a4, c.cO, none, bits_cO, rfl, exc_exO upd_same, T.n_cO, ?_⟩
    rw [txt_cO]
    intro a5 n5
    refine ⟨a5, c.cB, none, bits_cB, rfl, exc_exO upd_same, T.n_cB, ?_⟩
    rw [txt_cB]
    refine ⟨(by show 2 ≤ sizeLine; decide), fun l4 m4 => ?_⟩
    refine ⟨l3, l4, _, _, rfl, rfl, sameUpd m4 _ _ (sameUpd n5 _ _ (sameUpd n4 _ _ upd_same)), upd_same, (by show 6 ≤ sizeLine; decide), fun l5 m5 => ?_⟩
    have sm := ((((((((((sameUpd n0).trans (sameUpd n1)).trans (sameUpd n2)).trans (sameUpd m1)).trans (sameUpd n3)).trans (sameUpd m2)).trans (sameUpd m3)).trans (sameUpd n4)).trans (sameUpd n5)).trans (sameUpd (o := .lst [.str "o web value ", .str " web value "]) m4))
    refine q _ l5 (sm.trans (sameUpd m5)) (sm.free m5) ?_
    rw [upd_same]
    rfl
theorem ok_kept {f fA : Addr} {fd fdA : FuncData} {k : Nat} (c : Cs) (T : Txt K mg c) (F : Fun K "_law_kept" "_law_kept" sKept f fd) (bA : Binds K fdA ["error"] []) (GA : FnOk P w K mg base CX0 (k + 1) fA fdA ["error"] (spAll K c))
    (gA : mg "_law_all" = some (.ref fA)) (kA : PySem.W.keepIn K (.ref fA) = true) :
    FnOk P w K mg base CX0 (k + 2) f fd ["told", "index"] spKept := by
  refine F.ok scKept (fun vs H Q E h => ?_) (fun cdv A outer s H vs Q E hr h => ?_)
  · obtain ⟨told, index, rfl, _⟩ := h
    rfl
  · obtain ⟨told, index, rfl, q⟩ := h
    have N := scKept.nd
    refine ⟨_, pss_cons (ps_par3 (i := 2) (j := 3) (l := 4) rfl N rfl rfl rfl (by decide) (by decide) (by decide) rfl rfl rfl (pa_cons (pe_newX T.m_cX T.g_cX T.k_cX hr (pa_cons (pv 1) pa_nil)) (pa_cons (pe_newX T.m_cU T.g_cU T.k_cU hr (pa_cons (pv 0) pa_nil)) (pa_cons (pe_newX T.m_cR T.g_cR T.k_cR hr (pa_cons (pv 0) pa_nil)) pa_nil))) (by rfl))
      (pss_cons (ps_par3 (i := 5) (j := 6) (l := 7) rfl N rfl rfl rfl (by decide) (by decide) (by decide) rfl rfl rfl (pa_cons (pe_newX T.m_cN T.g_cN T.k_cN hr (pa_cons (pv 0) pa_nil)) (pa_cons (pe_newX T.m_cZ T.g_cZ T.k_cZ hr (pa_cons (pv 0) pa_nil)) (pa_cons (pe_newX T.m_cM T.g_cM T.k_cM hr (pa_cons (pv 0) pa_nil)) pa_nil))) (by rfl))
      (pss_cons (ps_set (i := 8) N rfl (.inl rfl) (pe_newX T.m_cC T.g_cC T.k_cC hr (pa_cons (pv 0) pa_nil)))
      (pss_cons (ps_set (i := 9) N rfl (.inl rfl) (pe_lst (pa_cons (pe_tup (pa_cons (pe_call GA hr (by rfl) gA kA bA .nil pass0 (pa_cons (pv 2) pa_nil)) (pa_cons (pe_fldX T.f_cX (pv 2)) pa_nil))) (pa_cons (pe_tup (pa_cons (pe_call GA hr (by rfl) gA kA bA .nil pass0 (pa_cons (pv 3) pa_nil)) (pa_cons (pe_fldX T.f_cU (pv 3)) pa_nil))) (pa_cons (pe_tup (pa_cons (pe_call GA hr (by rfl) gA kA bA .nil pass0 (pa_cons (pv 4) pa_nil)) (pa_cons (pe_fldX T.f_cR (pv 4)) pa_nil))) pa_nil)))))
      (pss_cons (ps_set (i := 9) N rfl (.inl rfl) (pe_op op_cat (pv 9) (pe_lst (pa_cons (pe_tup (pa_cons (pe_call GA hr (by rfl) gA kA bA .nil pass0 (pa_cons (pv 5) pa_nil)) (pa_cons (pe_fldX T.f_cN (pv 5)) pa_nil))) (pa_cons (pe_tup (pa_cons (pe_call GA hr (by rfl) gA kA bA .nil pass0 (pa_cons (pv 6) pa_nil)) (pa_cons (pe_fldX T.f_cZ (pv 6)) pa_nil))) (pa_cons (pe_tup (pa_cons (pe_call GA hr (by rfl) gA kA bA .nil pass0 (pa_cons (pv 7) pa_nil)) (pa_cons (pe_fldX T.f_cM (pv 7)) pa_nil))) pa_nil))))))
      (pss_one (ps_ret (pe_op op_cat (pv 9) (pe_lst (pa_cons (pe_tup (pa_cons (pe_call GA hr (by rfl) gA kA bA .nil pass0 (pa_cons (pv 8) pa_nil)) (pa_cons (pe_fldX T.f_cC (pv 8)) pa_nil))) pa_nil))))))))), ?_⟩
    refine ⟨_, rfl, _, rfl, fun x0 d0 H0 s0 u0 w0 c0 t0 => ?_⟩
    refine ⟨_, rfl, _, rfl, fun x1 d1 H1 s1 u1 w1 c1 t1 => ?_⟩
    refine ⟨_, rfl, _, rfl, fun x2 d2 H2 s2 u2 w2 c2 t2 => ?_⟩
    refine ⟨_, _, _, rfl, ?_⟩
    refine ⟨_, rfl, _, rfl, fun x3 d3 H3 s3 u3 w3 c3 t3 => ?_⟩
    refine ⟨_, rfl, _, rfl, fun x4 d4 H4 s4 u4 w4 c4 t4 => ?_⟩
    refine ⟨_, rfl, _, rfl, fun x5 d5 H5 s5 u5 w5 c5 t5 => ?_⟩
    refine ⟨_, _, _, rfl, ?_⟩
    refine ⟨_, rfl, _, rfl, fun x6 d6 H6 s6 u6 w6 c6 t6 => ?_⟩
    have s06 := (((((s0.trans s1).trans s2).trans s3).trans s4).trans s5).trans s6
    have z0 : Same H6 H6 := .refl H6
    refine ⟨_, rfl, x0, c.cX, some d0, bits_cX, rfl, c0.same ((((((s1.trans s2).trans s3).trans s4).trans s5).trans s6).trans z0), T.n_cX, ?_⟩
    rw [txt_cX]
    refine ⟨_, rfl, x0, d0, _, rfl, c0.same ((((((s1.trans s2).trans s3).trans s4).trans s5).trans s6).trans z0), ((((((s1.trans s2).trans s3).trans s4).trans s5).trans s6).trans z0) _ _ t0, (by show 2 ≤ sizeLine; decide), fun q0 r0 => ?_⟩
    have y1 : Same H6 (upd H6 q0 (.tup [.str "x web value ", index])) := sameUpd r0
    have w1 : upd H6 q0 (.tup [.str "x web value ", index]) q0 = some (.tup [.str "x web value ", index]) := upd_same
    generalize upd H6 q0 (.tup [.str "x web value ", index]) = G1 at y1 w1 ⊢
    have z1 : Same H6 G1 := z0.trans y1
    refine ⟨_, rfl, x1, c.cU, some d1, bits_cU, rfl, c1.same (((((s2.trans s3).trans s4).trans s5).trans s6).trans z1), T.n_cU, ?_⟩
    rw [txt_cU]
    refine ⟨_, rfl, x1, d1, _, rfl, c1.same (((((s2.trans s3).trans s4).trans s5).trans s6).trans z1), (((((s2.trans s3).trans s4).trans s5).trans s6).trans z1) _ _ t1, (by show 2 ≤ sizeLine; decide), fun q1 r1 => ?_⟩
    have y2 : Same G1 (upd G1 q1 (.tup [.str "U key lookup ", told])) := sameUpd r1
    have w2 : upd G1 q1 (.tup [.str "U key lookup ", told]) q1 = some (.tup [.str "U key lookup ", told]) := upd_same
    generalize upd G1 q1 (.tup [.str "U key lookup ", told]) = G2 at y2 w2 ⊢
    have z2 : Same H6 G2 := z1.trans y2
    refine ⟨_, rfl, x2, c.cR, some d2, bits_cR, rfl, c2.same ((((s3.trans s4).trans s5).trans s6).trans z2), T.n_cR, ?_⟩
    rw [txt_cR]
    refine ⟨_, rfl, x2, d2, _, rfl, c2.same ((((s3.trans s4).trans s5).trans s6).trans z2), ((((s3.trans s4).trans s5).trans s6).trans z2) _ _ t2, (by show 2 ≤ sizeLine; decide), fun q2 r2 => ?_⟩
    have y3 : Same G2 (upd G2 q2 (.tup [.str "R lookup ", told])) := sameUpd r2
    have w3 : upd G2 q2 (.tup [.str "R lookup ", told]) q2 = some (.tup [.str "R lookup ", told]) := upd_same
    generalize upd G2 q2 (.tup [.str "R lookup ", told]) = G3 at y3 w3 ⊢
    have z3 : Same H6 G3 := z2.trans y3
    refine ⟨(by show 3 ≤ sizeLine; decide), fun l1 m1 => ?_⟩
    have y4 : Same G3 (upd G3 l1 (.lst [.ref q0, .ref q1, .ref q2])) := sameUpd m1
    have w4 : upd G3 l1 (.lst [.ref q0, .ref q1, .ref q2]) l1 = some (.lst [.ref q0, .ref q1, .ref q2]) := upd_same
    generalize upd G3 l1 (.lst [.ref q0, .ref q1, .ref q2]) = G4 at y4 w4 ⊢
    have z4 : Same H6 G4 := z3.trans y4
    refine ⟨_, rfl, ?_⟩
    refine ⟨_, rfl, x3, c.cN, some d3, bits_cN, rfl, c3.same (((s4.trans s5).trans s6).trans z4), T.n_cN, ?_⟩
    rw [txt_cN]
    refine ⟨_, rfl, x3, d3, _, rfl, c3.same (((s4.trans s5).trans s6).trans z4), (((s4.trans s5).trans s6).trans z4) _ _ t3, (by show 2 ≤ sizeLine; decide), fun q3 r3 => ?_⟩
    have y5 : Same G4 (upd G4 q3 (.tup [.str "N index lookup ", told])) := sameUpd r3
    have w5 : upd G4 q3 (.tup [.str "N index lookup ", told]) q3 = some (.tup [.str "N index lookup ", told]) := upd_same
    generalize upd G4 q3 (.tup [.str "N index lookup ", told]) = G5 at y5 w5 ⊢
    have z5 : Same H6 G5 := z4.trans y5
    refine ⟨_, rfl, x4, c.cZ, some d4, bits_cZ, rfl, c4.same ((s5.trans s6).trans z5), T.n_cZ, ?_⟩
    rw [txt_cZ]
    refine ⟨_, rfl, x4, d4, _, rfl, c4.same ((s5.trans s6).trans z5), ((s5.trans s6).trans z5) _ _ t4, (by show 2 ≤ sizeLine; decide), fun q4 r4 => ?_⟩
    have y6 : Same G5 (upd G5 q4 (.tup [.str "Z runtime ", told])) := sameUpd r4
    have w6 : upd G5 q4 (.tup [.str "Z runtime ", told]) q4 = some (.tup [.str "Z runtime ", told]) := upd_same
    generalize upd G5 q4 (.tup [.str "Z runtime ", told]) = G6 at y6 w6 ⊢
    have z6 : Same H6 G6 := z5.trans y6
    refine ⟨_, rfl, x5, c.cM, some d5, bits_cM, rfl, c5.same (s6.trans z6), T.n_cM, ?_⟩
    rw [txt_cM]
    refine ⟨_, rfl, x5, d5, _, rfl, c5.same (s6.trans z6), (s6.trans z6) _ _ t5, (by show 2 ≤ sizeLine; decide), fun q5 r5 => ?_⟩
    have y7 : Same G6 (upd G6 q5 (.tup [.str "M overflow arithmetic ", told])) := sameUpd r5
    have w7 : upd G6 q5 (.tup [.str "M overflow arithmetic ", told]) q5 = some (.tup [.str "M overflow arithmetic ", told]) := upd_same
    generalize upd G6 q5 (.tup [.str "M overflow arithmetic ", told]) = G7 at y7 w7 ⊢
    have z7 : Same H6 G7 := z6.trans y7
    refine ⟨(by show 3 ≤ sizeLine; decide), fun l2 m2 => ?_⟩
    have y8 : Same G7 (upd G7 l2 (.lst [.ref q3, .ref q4, .ref q5])) := sameUpd m2
    have w8 : upd G7 l2 (.lst [.ref q3, .ref q4, .ref q5]) l2 = some (.lst [.ref q3, .ref q4, .ref q5]) := upd_same
    generalize upd G7 l2 (.lst [.ref q3, .ref q4, .ref q5]) = G8 at y8 w8 ⊢
    have z8 : Same H6 G8 := z7.trans y8
    refine ⟨l1, l2, _, _, rfl, rfl, (y8 _ _ (y7 _ _ (y6 _ _ (y5 _ _ w4)))), w8, (by show 6 ≤ sizeLine; decide), fun l3 m3 => ?_⟩
    have y9 : Same G8 (upd G8 l3 (.lst ([.ref q0, .ref q1, .ref q2] ++ [.ref q3, .ref q4, .ref q5]))) := sameUpd m3
    have w9 : upd G8 l3 (.lst ([.ref q0, .ref q1, .ref q2] ++ [.ref q3, .ref q4, .ref q5])) l3 = some (.lst ([.ref q0, .ref q1, .ref q2] ++ [.ref q3, .ref q4, .ref q5])) := upd_same
    generalize upd G8 l3 (.lst ([.ref q0, .ref q1, .ref q2] ++ [.ref q3, .ref q4, .ref q5])) = G9 at y9 w9 ⊢
    have z9 : Same H6 G9 := z8.trans y9
    refine ⟨_, rfl, ?_⟩
    refine ⟨_, rfl, x6, c.cC, some d6, bits_cC, rfl, c6.same ((Same.refl H6).trans z9), T.n_cC, ?_⟩
    rw [txt_cC]
    refine ⟨_, rfl, x6, d6, _, rfl, c6.same ((Same.refl H6).trans z9), ((Same.refl H6).trans z9) _ _ t6, (by show 2 ≤ sizeLine; decide), fun q6 r6 => ?_⟩
    have y10 : Same G9 (upd G9 q6 (.tup [.str "C arithmetic ", told])) := sameUpd r6
    have w10 : upd G9 q6 (.tup [.str "C arithmetic ", told]) q6 = some (.tup [.str "C arithmetic ", told]) := upd_same
    generalize upd G9 q6 (.tup [.str "C arithmetic ", told]) = G10 at y10 w10 ⊢
    have z10 : Same H6 G10 := z9.trans y10
    refine ⟨(by show 1 ≤ sizeLine; decide), fun l4 m4 => ?_⟩
    have y11 : Same G10 (upd G10 l4 (.lst [.ref q6])) := sameUpd m4
    have w11 : upd G10 l4 (.lst [.ref q6]) l4 = some (.lst [.ref q6]) := upd_same
    generalize upd G10 l4 (.lst [.ref q6]) = G11 at y11 w11 ⊢
    have z11 : Same H6 G11 := z10.trans y11
    refine ⟨l3, l4, _, _, rfl, rfl, (y11 _ _ (y10 _ _ w9)), w11, (by show 7 ≤ sizeLine; decide), fun l5 m5 => ?_⟩
    have y12 : Same G11 (upd G11 l5 (.lst (([.ref q0, .ref q1, .ref q2] ++ [.ref q3, .ref q4, .ref q5]) ++ [.ref q6]))) := sameUpd m5
    have w12 : upd G11 l5 (.lst (([.ref q0, .ref q1, .ref q2] ++ [.ref q3, .ref q4, .ref q5]) ++ [.ref q6])) l5 = some (.lst (([.ref q0, .ref q1, .ref q2] ++ [.ref q3, .ref q4, .ref q5]) ++ [.ref q6])) := upd_same
    generalize upd G11 l5 (.lst (([.ref q0, .ref q1, .ref q2] ++ [.ref q3, .ref q4, .ref q5]) ++ [.ref q6])) = G12 at y12 w12 ⊢
    have z12 : Same H6 G12 := z11.trans y12
    exact q _ l5 q0 q1 q2 q3 q4 q5 q6 (s06.trans z12) w12 (y12 _ _ (y11 _ _ (y10 _ _ (y9 _ _ (y8 _ _ (y7 _ _ (y6 _ _ (y5 _ _ (y4 _ _ (y3 _ _ (y2 _ _ w1)))))))))))
      (y12 _ _ (y11 _ _ (y10 _ _ (y9 _ _ (y8 _ _ (y7 _ _ (y6 _ _ (y5 _ _ (y4 _ _ (y3 _ _ w2))))))))))
      (y12 _ _ (y11 _ _ (y10 _ _ (y9 _ _ (y8 _ _ (y7 _ _ (y6 _ _ (y5 _ _ (y4 _ _ w3)))))))))
      (y12 _ _ (y11 _ _ (y10 _ _ (y9 _ _ (y8 _ _ (y7 _ _ (y6 _ _ w5)))))))
      (y12 _ _ (y11 _ _ (y10 _ _ (y9 _ _ (y8 _ _ (y7 _ _ w6))))))
      (y12 _ _ (y11 _ _ (y10 _ _ (y9 _ _ (y8 _ _ w7)))))
      (y12 _ _ (y11 _ _ w10))
end
end K01

set_option maxHeartbeats 4000000
namespace GG
open PySem PySem.Spec PyProof.Rows L2
/-! ### a def that is handed the exception which an except suite holds -/
structure FnP (P : Program) (w : World) (K : PySem.W.Frag) (mg : Str → Option Value) (base : Heap) (CX : CXT) (k : Nat) (f : Addr) (fd : FuncData) (ps : List Str) (sp : Sp) (p : Addr × Obj) : Prop where
  lens : ∀ vs H Q E, sp vs H Q E → vs.length = ps.length
  go : ∀ (A : Around) (outer : List Env) (s : Shared) (H : Hp) (ar : Args) (us : List Value) (vs : List V) (Q : VK) (E : XK),
    L2H.RoomH k A → L2H.PinOk outer H s p → Env0 P w K mg base A outer s H → BindsTo s fd ar (ps.zip us) → Vals vs us → sp vs H Q E → codeAny (model P w) A (.call (.ref f) ar) (CR CX outer P w H s Q E) s
section
variable {P : Program} {w : World} {K : PySem.W.Frag} {mg : Str → Option Value} {base : Heap} {CX : CXT} {k : Nat} {f : Addr} {fd : FuncData} {ps : List Str} {sp : Sp} {p : Addr × Obj}
theorem fnP_of {x qual : Str} {st : Stmt} {N : List Str} (F : Fun K x qual st f fd) (S : FnScope N ps (defScope st))
    (lens : ∀ vs H Q E, sp vs H Q E → vs.length = ps.length)
    (hb : ∀ (cdv : Value) (A : Around) (outer : List Env) (s : Shared) (H : Hp) (vs : List V) (Q : VK) (E : XK),
      L2H.RoomH k (A.deeper (envOfC qual (defScope st) s.heap.objs.size f cdv)) → sp vs H Q E →
      ∃ t, PSs (L2H.cxH CX P w K mg base N qual (defScope st) f cdv A outer s H E p) (defBody st) t ∧ t { nx := fun _ H' => Q .non H', rt := Q } (start N vs) H) :
    FnP P w K mg base CX (k + 1) f fd ps sp p := by
  obtain ⟨oc, od, kV, doc, pm, an, cdv, ct, osl, rfl, lk, hcd⟩ := F.ex
  refine ⟨lens, ?_⟩
  intro A outer s H ar us vs Q E room pin en bd vl hs
  have inK : K.In s.heap := en.mod.kin.keeps (fun b o z => (en.bs b o z).left)
  have noL : s.heap.NoLimit := en.mod.nolimit.keeps (fun b o z => (en.bs b o z).left)
  have kinds : ∀ y ∈ ps.zip us, (defScope st).names.lookup y.1 = some .local ∨
      ((defScope st).names.lookup y.1 = some .cell ∧
        ((cellsFrom (s.heap.objs.size + 1) (defScope st).names []).lookup y.1).isSome = true) := by
    intro ⟨n, v⟩ hy
    cases S.par n (List.of_mem_zip hy).left with
    | inl q => exact Or.inl q
    | inr q => exact Or.inr ⟨q, PySem.W.cellsFrom_some _ _ _ (Or.inl q)⟩
  refine codeAny_call_function room.depth (inK _ _ lk) rfl S.co S.gen rfl
    (PySem.W.codeRec_of inK hcd) (bd _ _ _ _ ?_)
  refine wpAny_newFunctionEnv_cells S.kind kinds (fun env he s1 ic => ?_)
  subst he
  refine ⟨noL.keeps ic.toInCall.keep, codeAny_func ?_⟩
  obtain ⟨t, ht, hq⟩ := hb cdv A outer s H vs Q E (room.deeper _) hs
  have J := L2H.inv_startH (CX := CX) (P := P) (E := E) S pin en (lens _ _ _ _ hs) vl ic
  refine wpAny_mono (ht.run [] s1 (start N vs) H _ J hq) (fun fl s2 ends => ?_) (fun _ _ z => z)
  cases fl with
  | next =>
    obtain ⟨σ2, H2, I2, q2⟩ := ends
    exact ⟨V.non, H2, I2.os, I2.bare, I2.base, I2.hok, rfl, q2⟩
  | ret u =>
    obtain ⟨v, σ2, H2, I2, rv, q2⟩ := ends
    exact ⟨v, H2, I2.os, I2.bare, I2.base, I2.hok, rv, q2⟩
  | brk => exact ends.elim (fun _ z => z.elim (fun _ z => z.right.elim))
  | cont => exact ends.elim (fun _ z => z.elim (fun _ z => z.right.elim))
end
section
variable {X : Cx} {CX : CXT} {k : Nat} {f : Addr} {fd : FuncData} {ps : List Str} {sp : Sp} {x : Str} {p pos : Pos} {a : Addr} {oe : Obj} {pn : List (Addr × Obj)} {e : Expr} {t : TA}
/-- f(e) in the suite -/
theorem pe_callP (F : FnP X.prog X.w X.K X.mg X.base CX k f fd ps sp (a, oe)) (noX : ∀ (l : List Env) (H : Hp) (s : Shared) (e : Value) (s' : Shared), CX l H s (fun _ _ _ => False) e s' → False) (gF : a ∉ frs X.stack)
    (hr : L2H.RoomH k (X.suite a ((a, oe) :: pn)).A) (hg : Gl (X.suite a ((a, oe) :: pn)) x) (hm : X.mg x = some (.ref f)) (kp : PySem.W.keepIn X.K (.ref f) = true) (bd : L2.Binds X.K fd ps [])
    (ha : PA (X.suite a ((a, oe) :: pn)) (e :: []) t) (hdb : (x == ("__debug__" : Str)) = false := by decide)
    (hs : starEach [e] X.env = (false, eval e X.env) :: starEach [] X.env := by rfl) (hpl : (backTo pos (starEach [] X.env)).any (·.1) = false := by rfl) :
    PE (X.suite a ((a, oe) :: pn)) (.Call (.Name x p) [e] [] pos) (tCall sp [] (fun _ _ _ => False) t) := by
  constructor
  intro pins s σ H Q I h
  apply wpAny_Call_Name_kw
  refine ld_glob I hg hm ?_ hdb
  refine PySem.W.callWith_K (h₀ := X.base) I.ok.mod.kin kp ?_ hs hpl
  refine thn (ha.run pos pins s σ H _ I h) ?_
  intro us s1 ⟨vs, H1, I1, r, q⟩
  refine ⟨I1.kIn, ?_⟩
  replace q : sp (vs ++ []) H1 Q fun _ _ _ => False := q
  rw [List.append_nil] at q
  obtain ⟨at_, none_, _, _, nc⟩ := I1.pin (a, oe) (List.mem_append_left _ List.mem_cons_self)
  have ln : (us ++ []).length = ps.length := by
    rw [List.append_nil, ← r.length]
    exact F.lens _ _ _ _ q
  have bu := bd s1 us I1.kIn ln
  rw [List.append_nil] at bu
  have run := F.go _ _ s1 H1 ⟨us, []⟩ us vs _ _ hr ⟨at_, none_, gF, nc⟩ I1.env0 bu r q
  refine wpAny_call (codeAny_mono run fun res s2 z => ?_)
  cases res with
  | error e => exact (noX _ _ _ _ _ z).elim
  | ok fl =>
    cases fl with
    | next => exact z.elim
    | brk => exact z.elim
    | cont => exact z.elim
    | ret u2 => exact I1.after z
/-- isinstance(e, c), e the pinned exception -/
theorem call_isP {D : Addr} (C : ExcC X.K D) (hp : (a, oe) ∈ X.pn) (hz : Zc (.ref D) none oe) (hf : ∃ vs, oe.data = .fields vs) : CallR X (.builtin "isinstance") (rIsE X.K D a) := by
  intro pins s σ H xs us Q I r h
  obtain ⟨c, cv, b, rfl, hcv, e, q⟩ := h
  obtain ⟨u1, u2, rfl, r1, r2⟩ : ∃ u1 u2, us = [u1, u2] ∧ RelV (.ref a) u1 ∧ RelV c u2 := by
    cases r with
    | cons r1 r' =>
      cases r' with
      | cons r2 r'' =>
        cases r''
        exact ⟨_, _, rfl, r1, r2⟩
  cases (show u1 = Value.ref a from r1)
  cases hcv _ r2
  obtain ⟨at_, _⟩ := I.pin (a, oe) (List.mem_append_left _ hp)
  obtain ⟨vs, hv⟩ := hf
  have nc : PySem.W.notCls oe = true := by
    unfold PySem.W.notCls
    rw [hv] <;> rfl
  have J : PySem.W.InstAt s.heap a oe D none := ⟨at_, hz.1, nc, by rw [hz.2]; trivial⟩
  exact PySem.W.kia_one (PySem.GX.kit_exc C) I.kIn ⟨oe, none, J⟩ e (fun z => nomatch z) fun tk => ⟨.bl b, H, I.kept (t' := tk) fun _ _ z => z, rfl, q⟩
end
end GG

set_option maxHeartbeats 8000000
namespace GG
open PySem PySem.Spec PyProof.Rows L2
mutual
theorem Rn.same {H H' : Hp} (s : Same H H') : ∀ (d : PyData) (v : V), Rn H v d → Rn H' v d
  | .none, _, h => by
    cases h
    exact .non
  | .bool b, _, h => by
    cases h
    exact .bl b
  | .int i, _, h => by
    cases h
    exact .int i
  | .str x, _, h => by
    cases h
    exact .str x
  | .list ds, _, h => by
    cases h with
    | lst a b => exact .lst (s _ _ a) (Rn.sameAll s ds _ b)
  | .tuple ds, _, h => by
    cases h with
    | tup a b => exact .tup (s _ _ a) (Rn.sameAll s ds _ b)
  | .dict _, _, h => by
    cases h with
    | dct a => exact .dct (s _ _ a)
    | dct0 a => exact .dct0 (s _ _ a)
theorem Rn.sameAll {H H' : Hp} (s : Same H H') : ∀ (ds : List PyData) (vs : List V), RnAll H vs ds → RnAll H' vs ds
  | [], _, h => by
    cases h
    exact .nil
  | d :: ds, _, h => by
    cases h with
    | cons a b => exact .cons (Rn.same s d _ a) (Rn.sameAll s ds _ b)
end
/-- data that is shown in few letters -/
structure Shw (H : Hp) (v : V) (d : PyData) : Prop where
  rn : Rn H v d
  sh : d.showable = true
  dp : d.depth ≤ 30
  sz : d.shown.length ≤ 100
theorem Shw.same {H H' : Hp} {v : V} {d : PyData} (x : Shw H v d) (s : Same H H') : Shw H' v d := ⟨Rn.same s d v x.rn, x.sh, x.dp, x.sz⟩
end GG
namespace K01
open PySem PySem.Spec PyProof.Rows L2 GG
abbrev sCaught : Stmt := topS 22
theorem scCaught : FnScope ["told", "way", "e"] ["told", "way"] (defScope sCaught) := ⟨rfl, rfl, rfl, by decide +kernel, rfl, by decide +kernel, by decide +kernel⟩
structure TxtE (K : PySem.W.Frag) (c : Cs) : Prop where
  tb : PySem.W.exmOne K (.ref c.cT) (.ref c.cB) = some true
  cb : PySem.W.exmOne K (.ref c.cC) (.ref c.cB) = some false
  cc : PySem.W.exmOne K (.ref c.cC) (.ref c.cC) = some true
  rb : PySem.W.exmOne K (.ref c.cR) (.ref c.cB) = some false
  rc : PySem.W.exmOne K (.ref c.cR) (.ref c.cC) = some false
  rr : PySem.W.exmOne K (.ref c.cR) (.ref c.cR) = some true
  tS : PySem.W.subIn K (.ref c.cT) (.type "BaseException") = some true
  cS : PySem.W.subIn K (.ref c.cC) (.type "BaseException") = some true
  rS : PySem.W.subIn K (.ref c.cR) (.type "BaseException") = some true
  tT : PySem.W.typeIn K (.ref c.cT) = some (.type "type")
  cT : PySem.W.typeIn K (.ref c.cC) = some (.type "type")
  rT : PySem.W.typeIn K (.ref c.cR) = some (.type "type")
def caught (d : PyData) (way : Int) : Str := if way = 0 then "base t" else if way = 1 then "lone " ++ d.shown else "walk " ++ d.shown
def spCaught : Sp := fun vs H Q _ => ∃ told way d, vs = [told, .int way] ∧ 0 ≤ way ∧ way ≤ 2 ∧ Shw H told d ∧ ∀ H', Same H H' → Q (.str (caught d way)) H'
def spOwnP (K : PySem.W.Frag) (c : Cs) (a : Addr) (cls : Value) (d : Option Addr) : Sp := fun vs H Q _ => vs = [.ref a] ∧ ∃ (D : Addr) (b : Bits), cls = .ref D ∧ d = none ∧ Knows K c D b ∧ Q (.str (ownStr b)) H
theorem own_T : ownStr bits_cT = "t" := by decide +kernel
section
variable {P : Program} {w : World} {K : PySem.W.Frag} {mg : Str → Option Value} {base : Heap}
theorem ok_ownP {f : Addr} {fd : FuncData} {k : Nat} (c : Cs) (F : Fun K "_law_own" "_law_own" sOwn f fd) (mi : mg "int" = none) (ms : mg "isinstance" = none)
    (g0 : mg "InvalidWeb" = some (.ref c.cW)) (g1 : mg "InvalidWalk" = some (.ref c.cK)) (g2 : mg "InvalidTerm" = some (.ref c.cT)) (g3 : mg "InvalidPaper" = some (.ref c.cQ)) (g4 : mg "InvalidOperation" = some (.ref c.cO)) (g5 : mg "ParseError" = some (.ref c.cX)) (g6 : mg "UnknownName" = some (.ref c.cU)) (g7 : mg "NoWalk" = some (.ref c.cR)) (g8 : mg "InvalidNumber" = some (.ref c.cN)) (g9 : mg "NothingToUndo" = some (.ref c.cZ)) (g10 : mg "TooMany" = some (.ref c.cM)) (g11 : mg "NotLone" = some (.ref c.cC))
    {a : Addr} {oe : Obj} {cls : Value} {d : Option Addr} (hz0 : Zc cls d oe) (hf : ∃ vs, oe.data = .fields vs) :
    FnP P w K mg base CX0 (k + 1) f fd ["error"] (spOwnP K c a cls d) (a, oe) := by
  refine fnP_of F scOwn (fun vs H Q E h => ?_) (fun cdv A outer s H vs Q E hr h => ?_)
  · obtain ⟨rfl, _⟩ := h
    rfl
  · obtain ⟨rfl, D, b, rfl, rfl, kn, q⟩ := h
    have N := scOwn.nd
    have hz : Zc (.ref D) none oe := hz0
    refine ⟨_, (pss_cons (ps_set (i := 1) N rfl (.inl rfl) (pe_op op_add_str (pe_op op_strB pe_str (pe_callTy call_int1 (by rfl) mi (by decide +kernel) (pa_cons (pe_callB (call_isP kn.ex List.mem_cons_self hz hf) (by rfl) ms (by decide +kernel) (pa_cons (pv 0) (pa_cons (pe_glob (v := .ref c.cW) (by rfl) g0 rfl) pa_nil))) pa_nil))) (pe_op op_strB pe_str (pe_callTy call_int1 (by rfl) mi (by decide +kernel) (pa_cons (pe_callB (call_isP kn.ex List.mem_cons_self hz hf) (by rfl) ms (by decide +kernel) (pa_cons (pv 0) (pa_cons (pe_glob (v := .ref c.cK) (by rfl) g1 rfl) pa_nil))) pa_nil)))))
      (pss_cons (ps_set (i := 1) N rfl (.inl rfl) (pe_op op_add_str (pe_op op_add_str (pv 1) (pe_op op_strB pe_str (pe_callTy call_int1 (by rfl) mi (by decide +kernel) (pa_cons (pe_callB (call_isP kn.ex List.mem_cons_self hz hf) (by rfl) ms (by decide +kernel) (pa_cons (pv 0) (pa_cons (pe_glob (v := .ref c.cT) (by rfl) g2 rfl) pa_nil))) pa_nil)))) (pe_op op_strB pe_str (pe_callTy call_int1 (by rfl) mi (by decide +kernel) (pa_cons (pe_callB (call_isP kn.ex List.mem_cons_self hz hf) (by rfl) ms (by decide +kernel) (pa_cons (pv 0) (pa_cons (pe_glob (v := .ref c.cQ) (by rfl) g3 rfl) pa_nil))) pa_nil)))))
      (pss_cons (ps_set (i := 1) N rfl (.inl rfl) (pe_op op_add_str (pe_op op_add_str (pv 1) (pe_op op_strB pe_str (pe_callTy call_int1 (by rfl) mi (by decide +kernel) (pa_cons (pe_callB (call_isP kn.ex List.mem_cons_self hz hf) (by rfl) ms (by decide +kernel) (pa_cons (pv 0) (pa_cons (pe_glob (v := .ref c.cO) (by rfl) g4 rfl) pa_nil))) pa_nil)))) (pe_op op_strB pe_str (pe_callTy call_int1 (by rfl) mi (by decide +kernel) (pa_cons (pe_callB (call_isP kn.ex List.mem_cons_self hz hf) (by rfl) ms (by decide +kernel) (pa_cons (pv 0) (pa_cons (pe_glob (v := .ref c.cX) (by rfl) g5 rfl) pa_nil))) pa_nil)))))
      (pss_cons (ps_set (i := 1) N rfl (.inl rfl) (pe_op op_add_str (pe_op op_add_str (pv 1) (pe_op op_strB pe_str (pe_callTy call_int1 (by rfl) mi (by decide +kernel) (pa_cons (pe_callB (call_isP kn.ex List.mem_cons_self hz hf) (by rfl) ms (by decide +kernel) (pa_cons (pv 0) (pa_cons (pe_glob (v := .ref c.cU) (by rfl) g6 rfl) pa_nil))) pa_nil)))) (pe_op op_strB pe_str (pe_callTy call_int1 (by rfl) mi (by decide +kernel) (pa_cons (pe_callB (call_isP kn.ex List.mem_cons_self hz hf) (by rfl) ms (by decide +kernel) (pa_cons (pv 0) (pa_cons (pe_glob (v := .ref c.cR) (by rfl) g7 rfl) pa_nil))) pa_nil)))))
      (pss_cons (ps_set (i := 1) N rfl (.inl rfl) (pe_op op_add_str (pe_op op_add_str (pv 1) (pe_op op_strB pe_str (pe_callTy call_int1 (by rfl) mi (by decide +kernel) (pa_cons (pe_callB (call_isP kn.ex List.mem_cons_self hz hf) (by rfl) ms (by decide +kernel) (pa_cons (pv 0) (pa_cons (pe_glob (v := .ref c.cN) (by rfl) g8 rfl) pa_nil))) pa_nil)))) (pe_op op_strB pe_str (pe_callTy call_int1 (by rfl) mi (by decide +kernel) (pa_cons (pe_callB (call_isP kn.ex List.mem_cons_self hz hf) (by rfl) ms (by decide +kernel) (pa_cons (pv 0) (pa_cons (pe_glob (v := .ref c.cZ) (by rfl) g9 rfl) pa_nil))) pa_nil)))))
      (pss_cons (ps_set (i := 1) N rfl (.inl rfl) (pe_op op_add_str (pv 1) (pe_op op_strB pe_str (pe_callTy call_int1 (by rfl) mi (by decide +kernel) (pa_cons (pe_callB (call_isP kn.ex List.mem_cons_self hz hf) (by rfl) ms (by decide +kernel) (pa_cons (pv 0) (pa_cons (pe_glob (v := .ref c.cM) (by rfl) g10 rfl) pa_nil))) pa_nil)))))
      (pss_one (ps_ret (pe_op op_add_str (pv 1) (pe_op op_strB pe_str (pe_callTy call_int1 (by rfl) mi (by decide +kernel) (pa_cons (pe_callB (call_isP kn.ex List.mem_cons_self hz hf) (by rfl) ms (by decide +kernel) (pa_cons (pv 0) (pa_cons (pe_glob (v := .ref c.cC) (by rfl) g11 rfl) pa_nil))) pa_nil)))))))))))), ?_⟩
    refine ⟨_, rfl, _, _, _, rfl, (fun u r => r), kn.k0, .inr ⟨_, rfl, _, _, rfl, rfl, _, rfl, _, _, _, rfl, (fun u r => r), kn.k1, .inr ⟨_, rfl, _, _, rfl, rfl, _, _, rfl, rfl, app_sz (p1 _ _ rfl) (p1 _ _ rfl), ?_⟩⟩⟩
    refine ⟨_, rfl, _, rfl, _, _, _, rfl, (fun u r => r), kn.k2, .inr ⟨_, rfl, _, _, rfl, rfl, _, _, rfl, rfl, app_sz (app_len (p1 _ _ rfl) (p1 _ _ rfl)) (p1 _ _ rfl), _, rfl, _, _, _, rfl, (fun u r => r), kn.k3, .inr ⟨_, rfl, _, _, rfl, rfl, _, _, rfl, rfl, app_sz (app_len (app_len (p1 _ _ rfl) (p1 _ _ rfl)) (p1 _ _ rfl)) (p1 _ _ rfl), ?_⟩⟩⟩
    refine ⟨_, rfl, _, rfl, _, _, _, rfl, (fun u r => r), kn.k4, .inr ⟨_, rfl, _, _, rfl, rfl, _, _, rfl, rfl, app_sz (app_len (app_len (app_len (p1 _ _ rfl) (p1 _ _ rfl)) (p1 _ _ rfl)) (p1 _ _ rfl)) (p1 _ _ rfl), _, rfl, _, _, _, rfl, (fun u r => r), kn.k5, .inr ⟨_, rfl, _, _, rfl, rfl, _, _, rfl, rfl, app_sz (app_len (app_len (app_len (app_len (p1 _ _ rfl) (p1 _ _ rfl)) (p1 _ _ rfl)) (p1 _ _ rfl)) (p1 _ _ rfl)) (p1 _ _ rfl), ?_⟩⟩⟩
    refine ⟨_, rfl, _, rfl, _, _, _, rfl, (fun u r => r), kn.k6, .inr ⟨_, rfl, _, _, rfl, rfl, _, _, rfl, rfl, app_sz (app_len (app_len (app_len (app_len (app_len (p1 _ _ rfl) (p1 _ _ rfl)) (p1 _ _ rfl)) (p1 _ _ rfl)) (p1 _ _ rfl)) (p1 _ _ rfl)) (p1 _ _ rfl), _, rfl, _, _, _, rfl, (fun u r => r), kn.k7, .inr ⟨_, rfl, _, _, rfl, rfl, _, _, rfl, rfl, app_sz (app_len (app_len (app_len (app_len (app_len (app_len (p1 _ _ rfl) (p1 _ _ rfl)) (p1 _ _ rfl)) (p1 _ _ rfl)) (p1 _ _ rfl)) (p1 _ _ rfl)) (p1 _ _ rfl)) (p1 _ _ rfl), ?_⟩⟩⟩
    refine ⟨_, rfl, _, rfl, _, _, _, rfl, (fun u r => r), kn.k8, .inr ⟨_, rfl, _, _, rfl, rfl, _, _, rfl, rfl, app_sz (app_len (app_len (app_len (app_len (app_len (app_len (app_len (p1 _ _ rfl) (p1 _ _ rfl)) (p1 _ _ rfl)) (p1 _ _ rfl)) (p1 _ _ rfl)) (p1 _ _ rfl)) (p1 _ _ rfl)) (p1 _ _ rfl)) (p1 _ _ rfl), _, rfl, _, _, _, rfl, (fun u r => r), kn.k9, .inr ⟨_, rfl, _, _, rfl, rfl, _, _, rfl, rfl, app_sz (app_len (app_len (app_len (app_len (app_len (app_len (app_len (app_len (p1 _ _ rfl) (p1 _ _ rfl)) (p1 _ _ rfl)) (p1 _ _ rfl)) (p1 _ _ rfl)) (p1 _ _ rfl)) (p1 _ _ rfl)) (p1 _ _ rfl)) (p1 _ _ rfl)) (p1 _ _ rfl), ?_⟩⟩⟩
    refine ⟨_, rfl, _, rfl, _, _, _, rfl, (fun u r => r), kn.k10, .inr ⟨_, rfl, _, _, rfl, rfl, _, _, rfl, rfl, app_sz (app_len (app_len (app_len (app_len (app_len (app_len (app_len (app_len (app_len (p1 _ _ rfl) (p1 _ _ rfl)) (p1 _ _ rfl)) (p1 _ _ rfl)) (p1 _ _ rfl)) (p1 _ _ rfl)) (p1 _ _ rfl)) (p1 _ _ rfl)) (p1 _ _ rfl)) (p1 _ _ rfl)) (p1 _ _ rfl), ?_⟩⟩
    exact ⟨_, rfl, _, rfl, _, _, _, rfl, (fun u r => r), kn.k11, .inr ⟨_, rfl, _, _, rfl, rfl, _, _, rfl, rfl, app_sz (app_len (app_len (app_len (app_len (app_len (app_len (app_len (app_len (app_len (app_len (p1 _ _ rfl) (p1 _ _ rfl)) (p1 _ _ rfl)) (p1 _ _ rfl)) (p1 _ _ rfl)) (p1 _ _ rfl)) (p1 _ _ rfl)) (p1 _ _ rfl)) (p1 _ _ rfl)) (p1 _ _ rfl)) (p1 _ _ rfl)) (p1 _ _ rfl), q⟩⟩
theorem ok_caught {f fO : Addr} {fd fdO : FuncData} (c : Cs) (T : Txt K mg c) (U : TxtE K c) (F : Fun K "_law_caught" "_law_caught" sCaught f fd) (bO : Binds K fdO ["error"] [])
    (GO : ∀ (a : Addr) (oe : Obj) (cls : Value) (d : Option Addr), Zc cls d oe → (∃ vs, oe.data = .fields vs) → FnP P w K mg base CX0 1 fO fdO ["error"] (spOwnP K c a cls d) (a, oe)) (gO : mg "_law_own" = some (.ref fO)) (kO : PySem.W.keepIn K (.ref fO) = true) (mp : mg "repr" = none) (sm : ∃ mm, base.Ns sysModules mm) :
    FnG P w K mg base CX0 4 f fd ["told", "way"] spCaught := by
  refine fnG0 (k := 3) F scCaught (fun vs H Q E h => ?_) (fun cdv A outer s H vs Q E gd hr h => ?_)
  · obtain ⟨told, way, d, rfl, _⟩ := h
    rfl
  · obtain ⟨told, way, d, rfl, w0, w1, sw, q⟩ := h
    have N := scCaught.nd
    have hr1 := hr.mono (show 1 ≤ 3 by decide)
    let Y : Cx := (cxOf CX0 P w K mg base ["told", "way", "e"] "_law_caught" (defScope sCaught) f cdv A outer s H E).nox
    have un : A.units + 3 + 16 * 3 + 200 < cLine := hr.un
    have dep : A.depth + 1 + 3 * 3 + 5 < recursionLimit := hr.dp
    refine ⟨_, pss_one (ps_tryB (X := Y) rfl rfl L2.takes0 (fun W pn xe tk _ =>
        pss_cons (ps_if (pt_cmpR op_eq (pv 1) pe_int (nomark _)) (pss_one (ps_raise rfl tk (pmk_own PySem.F.excBase_ValueError T.x_cT T.g_cT T.k_cT (raises_own U.tS U.tT) rfl))) pss_nil)
        (pss_cons (ps_if (pt_cmpR op_eq (pv 1) pe_int (nomark _)) (pss_one (ps_raiseM rfl T.m_cC T.g_cC T.k_cC U.cS U.cT hr1 tk (pa_cons (pv 0) pa_nil))) pss_nil)
        (pss_one (ps_raiseM rfl T.m_cR T.g_cR T.k_cR U.rS U.rT hr1 tk (pa_cons (pv 0) pa_nil)))))
      (.named (x := "WebError") (i := 2) (c := .ref c.cB) N rfl rfl ⟨rfl, by decide, .inl T.g_cB⟩ (fun a oe cls d pn hz hf gB gF => pss_one (ps_ret (pe_op op_add_str pe_str
          (pe_callP (X := Y) (GO a oe cls d hz hf) (fun _ _ _ _ _ h => h) gF ⟨(show A.depth + 1 + 3 * 1 + 5 < recursionLimit by omega), (show A.units + 3 + 16 * 1 + 200 < cLine by omega)⟩ (by rfl) gO kO bO (pa_cons (pv 2) pa_nil)))))
      (.named (x := "NotLone") (i := 2) (c := .ref c.cC) N rfl rfl ⟨rfl, by decide, .inl T.g_cC⟩ (fun a oe cls d pn hz hf gB gF => pss_one (ps_ret (pe_op op_add_str pe_str
          (pe_callB (X := Y.suite a ((a, oe) :: pn)) (call_reprN (X := Y.suite a ((a, oe) :: pn)) gd (show A.units + 3 + 64 < cLine by omega) sm) (by rfl) mp (by decide +kernel) (pa_cons (pe_byF T.f_cC hz hf (pv 2)) pa_nil)))))
      (.named (x := "NoWalk") (i := 2) (c := .ref c.cR) N rfl rfl ⟨rfl, by decide, .inl T.g_cR⟩ (fun a oe cls d pn hz hf gB gF => pss_one (ps_ret (pe_op op_add_str pe_str
          (pe_callB (X := Y.suite a ((a, oe) :: pn)) (call_reprN (X := Y.suite a ((a, oe) :: pn)) gd (show A.units + 3 + 64 < cLine by omega) sm) (by rfl) mp (by decide +kernel) (pa_cons (pe_byF T.f_cR hz hf (pv 2)) pa_nil))))) .nil)))), ?_⟩
    have sz1 : ((("lone " : String) : Str)).length = 5 := by decide
    have sz2 : ((("walk " : String) : Str)).length = 5 := by decide
    have sl := sizeLine_eq
    have szd := sw.sz
    have cases3 : way = 0 ∨ way = 1 ∨ way = 2 := by omega
    rcases cases3 with rfl | rfl | rfl
    · refine ⟨_, rfl, rfl, _, rfl, iteT ?_⟩
      refine ⟨true, U.tb, fun _ a _ => ?_, fun z => by cases z⟩
      refine ⟨_, rfl, rfl, _, bits_cT, rfl, rfl, T.n_cT, _, _, rfl, rfl, ?_, ?_⟩
      · rw [own_T]
        decide
      · rw [own_T]
        exact q _ (.refl H)
    · refine ⟨_, rfl, rfl, _, rfl, iteF ?_⟩
      refine ⟨_, rfl, rfl, _, rfl, iteT ?_⟩
      refine ⟨_, rfl, _, rfl, fun dx nd => ⟨false, U.cb, (fun z => by cases z), fun _ => ⟨true, U.cc, fun _ a _ => ?_, fun z => by cases z⟩⟩⟩
      have sw2 := sw.same (sameUpd (o := .xd [("reason", told)]) nd)
      refine ⟨_, rfl, rfl, rfl, dx, told, rfl, upd_same, told, d, rfl, sw2.rn, sw2.sh, Nat.le_trans sw2.dp (by decide), by omega, _, _, rfl, rfl, by omega, ?_⟩
      exact q _ (sameUpd nd)
    · refine ⟨_, rfl, rfl, _, rfl, iteF ?_⟩
      refine ⟨_, rfl, rfl, _, rfl, iteF ?_⟩
      refine ⟨_, rfl, _, rfl, fun dx nd => ⟨false, U.rb, (fun z => by cases z), fun _ => ⟨false, U.rc, (fun z => by cases z), fun _ => ⟨true, U.rr, fun _ a _ => ?_, fun z => by cases z⟩⟩⟩⟩
      have sw2 := sw.same (sameUpd (o := .xd [("ends", told)]) nd)
      refine ⟨_, rfl, rfl, rfl, dx, told, rfl, upd_same, told, d, rfl, sw2.rn, sw2.sh, Nat.le_trans sw2.dp (by decide), by omega, _, _, rfl, rfl, by omega, ?_⟩
      exact q _ (sameUpd nd)
end
end K01

set_option maxHeartbeats 8000000
namespace K01
open PySem PySem.Spec PyProof.Rows L2 GG
abbrev sRight : Stmt := topS 23
theorem scRight : FnScope ["told", "index", "letters", "due", "letter", "way"] ["told", "index"] (defScope sRight) := ⟨rfl, rfl, rfl, by decide +kernel, rfl, by decide +kernel, by decide +kernel⟩
def kD (dt di : PyData) : PyData := .list [.tuple [.str "x web value ", di], .tuple [.str "U key lookup ", dt], .tuple [.str "R lookup ", dt], .tuple [.str "N index lookup ", dt], .tuple [.str "Z runtime ", dt], .tuple [.str "M overflow arithmetic ", dt], .tuple [.str "C arithmetic ", dt]]
theorem kD_ok {dt di : PyData} (t1 : dt.showable = true) (t2 : dt.depth ≤ 30) (t3 : dt.shown.length ≤ 100) (i1 : di.showable = true) (i2 : di.depth ≤ 30) (i3 : di.shown.length ≤ 100) :
    (kD dt di).showable = true ∧ (kD dt di).depth ≤ 40 ∧ (kD dt di).shown.length ≤ sizeLine := by
  refine ⟨?_, ?_, ?_⟩
  · simp only [kD, PyData.showable, PyData.showableAll, t1, i1]
    rfl
  · simp only [kD, PyData.depth, PyData.depthAll]
    omega
  · have tup : ∀ (s : Str) (d : PyData), d.shown.length ≤ 100 → (PyData.shown (.str s)).length ≤ 100 → (PyData.tuple [.str s, d]).shown.length ≤ 207 := by
      intro s d h1 h2
      have e := tupleText_len_le (PyData.shownAll [.str s, d])
      have e2 : (PyData.tuple [.str s, d]).shown = tupleText (PyData.shownAll [.str s, d]) := by rw [PyData.shown]
      rw [e2]
      simp only [PyData.shownAll, List.map_cons, List.map_nil, List.sum_cons, List.sum_nil, List.length_cons, List.length_nil] at e ⊢
      omega
    have e := listText_len_le (PyData.shownAll [.tuple [.str "x web value ", di], .tuple [.str "U key lookup ", dt], .tuple [.str "R lookup ", dt], .tuple [.str "N index lookup ", dt], .tuple [.str "Z runtime ", dt], .tuple [.str "M overflow arithmetic ", dt], .tuple [.str "C arithmetic ", dt]])
    have e2 : (kD dt di).shown = listText (PyData.shownAll [.tuple [.str "x web value ", di], .tuple [.str "U key lookup ", dt], .tuple [.str "R lookup ", dt], .tuple [.str "N index lookup ", dt], .tuple [.str "Z runtime ", dt], .tuple [.str "M overflow arithmetic ", dt], .tuple [.str "C arithmetic ", dt]]) := by
      unfold kD
      rw [PyData.shown]
    rw [e2, sizeLine_eq]
    have a1 := tup "x web value " di i3 (by decide +kernel)
    have a2 := tup "U key lookup " dt t3 (by decide +kernel)
    have a3 := tup "R lookup " dt t3 (by decide +kernel)
    have a4 := tup "N index lookup " dt t3 (by decide +kernel)
    have a5 := tup "Z runtime " dt t3 (by decide +kernel)
    have a6 := tup "M overflow arithmetic " dt t3 (by decide +kernel)
    have a7 := tup "C arithmetic " dt t3 (by decide +kernel)
    simp only [PyData.shownAll, List.map_cons, List.map_nil, List.sum_cons, List.sum_nil, List.length_cons, List.length_nil] at e ⊢
    omega
/-- what the three ways of catching tell -/
abbrev threeD (d : PyData) : PyData := .list [.str "base t", .str ("lone " ++ d.shown), .str ("walk " ++ d.shown)]
def spRight : Sp := fun vs H Q _ => ∃ told index dt di, vs = [told, index] ∧ Shw H told dt ∧ Shw H index di ∧ SeqAt.shaped (threeD dt) = true ∧ ∀ H', Same H H' → Q (.bl true) H'
abbrev lets : List Str := ["w", "k", "t", "q", "o"]
abbrev msgD : PyData := .list [.str "w web value ", .str "k web value ", .str "t web value ", .str "q web value ", .str "o web value ", .str " web value "]
abbrev msgE : PyData := .list [.str ("w" ++ " web value "), .str ("k" ++ " web value "), .str ("t" ++ " web value "), .str ("q" ++ " web value "), .str ("o" ++ " web value "), .str " web value "]
theorem msg_eq : SeqAt.shaped msgD = true ∧ SeqAt.shaped msgE = true ∧ PyData.eqv msgD msgE = true := by decide +kernel
theorem let_len : ∀ x ∈ lets, x.length = 1 := by decide +kernel
theorem webv_len : ((" web value " : String) : Str).length = 11 := by decide +kernel
theorem neS {a b : Str} (h : a = b) : (!decide (V.str a = V.str b)) = false := by
  subst h
  rw [decide_eq_true rfl]
  rfl
section
variable {P : Program} {w : World} {K : PySem.W.Frag} {mg : Str → Option Value} {base : Heap}
theorem ok_right {f fM fK fC : Addr} {fd fdM fdK fdC : FuncData} (F : Fun K "_law_right" "_law_right" sRight f fd) (bM : Binds K fdM [] []) (bK : Binds K fdK ["told", "index"] []) (bC : Binds K fdC ["told", "way"] [])
    (GM : FnOk P w K mg base CX0 3 fM fdM [] spMsg) (GK : FnOk P w K mg base CX0 4 fK fdK ["told", "index"] spKept) (GC : FnG P w K mg base CX0 4 fC fdC ["told", "way"] spCaught)
    (gM : mg "_law_messages" = some (.ref fM)) (gK : mg "_law_kept" = some (.ref fK)) (gC : mg "_law_caught" = some (.ref fC)) (kM : PySem.W.keepIn K (.ref fM) = true) (kK : PySem.W.keepIn K (.ref fK) = true) (kC : PySem.W.keepIn K (.ref fC) = true)
    (mp : mg "repr" = none) (mr : mg "range" = none) (sm : ∃ mm, base.Ns sysModules mm) :
    FnG P w K mg base CX0 5 f fd ["told", "index"] spRight := by
  refine fnG0 (k := 4) F scRight (fun vs H Q E h => ?_) (fun cdv A outer s H vs Q E gd hr h => ?_)
  · obtain ⟨told, index, dt, di, rfl, _⟩ := h
    rfl
  · obtain ⟨told, index, dt, di, rfl, st, si, s3, q⟩ := h
    have N := scRight.nd
    have hr3 := hr.mono (show 3 ≤ 4 by decide)
    have un := hr.units
    refine ⟨_, pss_cons (ps_set (i := 2) N rfl (.inl rfl) (pe_lst (pa_cons pe_str (pa_cons pe_str (pa_cons pe_str (pa_cons pe_str (pa_cons pe_str pa_nil)))))))
      (pss_cons (ps_if (pt_cmpR (op_neD un) (pe_call0 GM hr3 (by rfl) gM kM bM .nil pass0) (pe_op op_cat
          (pe_lc (own := [("letter", 4)]) (g := gName 4) (tt := tYes) rfl N (pi_list (pv 2)) (blkOk_by (own := [("letter", 4)]) (N := ["told", "index", "letters", "due", "letter", "way"]) (sc := defScope sRight) (by decide +kernel))
            (fun _ _ _ _ _ => pg_name (i := 4) N rfl (Or.inl rfl)) (fun _ _ _ _ _ => pts_nil) (fun _ _ _ _ _ => pe_op op_add_str (pv 4) pe_str))
          (pe_lst (pa_cons pe_str pa_nil))) (nomark _))
        (pss_one (ps_ret pe_bl)) pss_nil)
      (pss_cons (ps_set (i := 3) N rfl (.inl rfl) (pe_lst (pa_cons (pe_tup (pa_cons pe_str (pa_cons (pv 1) pa_nil))) (pa_cons (pe_tup (pa_cons pe_str (pa_cons (pv 0) pa_nil))) (pa_cons (pe_tup (pa_cons pe_str (pa_cons (pv 0) pa_nil)))
          (pa_cons (pe_tup (pa_cons pe_str (pa_cons (pv 0) pa_nil))) pa_nil))))))
      (pss_cons (ps_set (i := 3) N rfl (.inl rfl) (pe_op op_cat (pv 3) (pe_lst (pa_cons (pe_tup (pa_cons pe_str (pa_cons (pv 0) pa_nil))) (pa_cons (pe_tup (pa_cons pe_str (pa_cons (pv 0) pa_nil))) (pa_cons (pe_tup (pa_cons pe_str (pa_cons (pv 0) pa_nil))) pa_nil))))))
      (pss_cons (ps_if (pt_cmpR op_ne (pe_callB (call_reprN gd un sm) (by rfl) mp (by decide +kernel) (pa_cons (pe_call GK hr (by rfl) gK kK bK .nil pass0 (pa_cons (pv 0) (pa_cons (pv 1) pa_nil))) pa_nil))
          (pe_callB (call_reprN gd un sm) (by rfl) mp (by decide +kernel) (pa_cons (pv 3) pa_nil)) (nomark _))
        (pss_one (ps_ret pe_bl)) pss_nil)
      (pss_one (ps_ret (pe_cmpR (op_eqD un)
          (pe_lc (own := [("way", 5)]) (g := gName 5) (tt := tYes) rfl N (pi_range1 (by rfl) mr (pa_cons pe_int pa_nil)) (blkOk_by (own := [("way", 5)]) (N := ["told", "index", "letters", "due", "letter", "way"]) (sc := defScope sRight) (by decide +kernel))
            (fun _ _ _ _ _ => pg_name (i := 5) N rfl (Or.inl rfl)) (fun _ _ _ _ _ => pts_nil) (fun _ _ _ _ _ => pe_callG GC gd hr (by rfl) gC kC bC .nil pass0 (pa_cons (pv 0) (pa_cons (pv 5) pa_nil))))
          (pe_lst (pa_cons pe_str (pa_cons (pe_op op_add_str pe_str (pe_callB (call_reprN gd un sm) (by rfl) mp (by decide +kernel) (pa_cons (pv 0) pa_nil)))
            (pa_cons (pe_op op_add_str pe_str (pe_callB (call_reprN gd un sm) (by rfl) mp (by decide +kernel) (pa_cons (pv 0) pa_nil))) pa_nil)))) (nomark _)))))))), ?_⟩
    refine ⟨(by show 5 ≤ sizeLine; decide), fun l nl => ?_⟩
    have y1 : Same H (upd H l (.lst [.str "w", .str "k", .str "t", .str "q", .str "o"])) := sameUpd nl
    have w1 : upd H l (.lst [.str "w", .str "k", .str "t", .str "q", .str "o"]) l = some (.lst [.str "w", .str "k", .str "t", .str "q", .str "o"]) := upd_same
    generalize upd H l (.lst [.str "w", .str "k", .str "t", .str "q", .str "o"]) = G1 at y1 w1 ⊢
    refine ⟨rfl, fun G2 p sp np wp => ?_⟩
    have y2 := sp
    refine ⟨_, rfl, l, rfl, ⟨_, .of (y2 _ _ w1)⟩, fun D nD => ?_⟩
    refine lc_list (K := K) (a := l) (xs := lets.map V.str) (fun k H2 => Same G2 H2 ∧ H2 D = some (.lst ((lets.take k).map fun x => V.str (x ++ " web value ")))) ⟨sameUpd nD, upd_same⟩
      (fun k H2 _ hP => .of (hP.1 _ _ (y2 _ _ w1))) (fun k v H2 hv hP => ?_) (fun G3 hP => ?_)
    · obtain ⟨s2, hD⟩ := hP
      rw [List.getElem?_map] at hv
      obtain ⟨x, hx, rfl⟩ := Option.map_eq_some_iff.mp hv
      have lx := let_len x (List.mem_of_getElem? hx)
      have lw := webv_len
      refine ⟨rfl, _, rfl, _, _, rfl, rfl, (by rw [lx, lw]; decide), _, hD, ?_, fun b o e => ?_, ?_⟩
      · rw [List.length_map, List.length_take]
        exact Nat.lt_of_le_of_lt (Nat.min_le_right _ _) (small1000 (show 5 ≤ 1000 by decide))
      · rw [upd_ne (ne_of_none e nD)]
        exact s2 b o e
      · rw [upd_same, List.take_add_one, hx, List.map_append]
        rfl
    obtain ⟨s3', hD⟩ := hP
    have y3 := s3'
    refine ⟨(by show 1 ≤ sizeLine; decide), fun c nc => ?_⟩
    have y4 : Same G3 (upd G3 c (.lst [.str " web value "])) := sameUpd nc
    have w4 : upd G3 c (.lst [.str " web value "]) c = some (.lst [.str " web value "]) := upd_same
    generalize upd G3 c (.lst [.str " web value "]) = G4 at y4 w4 ⊢
    refine ⟨D, c, _, _, rfl, rfl, (y4 _ _ hD), w4, (by show 6 ≤ sizeLine; decide), fun e ne => ?_⟩
    refine ⟨msgD, msgE, .lst (.of (sameUpd ne _ _ (y4 _ _ (y3 _ _ wp)))) (.cons (.str _) (.cons (.str _) (.cons (.str _) (.cons (.str _) (.cons (.str _) (.cons (.str _) .nil)))))), .lst (.of (by rw [upd_same]; rfl)) (.cons (.str _) (.cons (.str _) (.cons (.str _) (.cons (.str _) (.cons (.str _) (.cons (.str _) .nil)))))), msg_eq.1, msg_eq.2.1, _, rfl, iteFo (by rw [msg_eq.2.2]; rfl) ?_⟩
    have ye := sameUpd (o := .lst (List.map (fun x => V.str (x ++ " web value ")) (lets.take (lets.map V.str).length) ++ [.str " web value "])) ne
    generalize upd G4 e (.lst (List.map (fun x => V.str (x ++ " web value ")) (lets.take (lets.map V.str).length) ++ [.str " web value "])) = G5 at ye ⊢
    have y5 := ye
    refine ⟨_, rfl, (by show 2 ≤ sizeLine; decide), fun t0 m0 => ?_⟩
    have y6 : Same G5 (upd G5 t0 (.tup [.str "x web value ", index])) := sameUpd m0
    have w6 : upd G5 t0 (.tup [.str "x web value ", index]) t0 = some (.tup [.str "x web value ", index]) := upd_same
    generalize upd G5 t0 (.tup [.str "x web value ", index]) = G6 at y6 w6 ⊢
    refine ⟨_, rfl, (by show 2 ≤ sizeLine; decide), fun t1 m1 => ?_⟩
    have y7 : Same G6 (upd G6 t1 (.tup [.str "U key lookup ", told])) := sameUpd m1
    have w7 : upd G6 t1 (.tup [.str "U key lookup ", told]) t1 = some (.tup [.str "U key lookup ", told]) := upd_same
    generalize upd G6 t1 (.tup [.str "U key lookup ", told]) = G7 at y7 w7 ⊢
    refine ⟨_, rfl, (by show 2 ≤ sizeLine; decide), fun t2 m2 => ?_⟩
    have y8 : Same G7 (upd G7 t2 (.tup [.str "R lookup ", told])) := sameUpd m2
    have w8 : upd G7 t2 (.tup [.str "R lookup ", told]) t2 = some (.tup [.str "R lookup ", told]) := upd_same
    generalize upd G7 t2 (.tup [.str "R lookup ", told]) = G8 at y8 w8 ⊢
    refine ⟨_, rfl, (by show 2 ≤ sizeLine; decide), fun t3 m3 => ?_⟩
    have y9 : Same G8 (upd G8 t3 (.tup [.str "N index lookup ", told])) := sameUpd m3
    have w9 : upd G8 t3 (.tup [.str "N index lookup ", told]) t3 = some (.tup [.str "N index lookup ", told]) := upd_same
    generalize upd G8 t3 (.tup [.str "N index lookup ", told]) = G9 at y9 w9 ⊢
    refine ⟨(by show 4 ≤ sizeLine; decide), fun d1 k1 => ?_⟩
    have y10 : Same G9 (upd G9 d1 (.lst [.ref t0, .ref t1, .ref t2, .ref t3])) := sameUpd k1
    have w10 : upd G9 d1 (.lst [.ref t0, .ref t1, .ref t2, .ref t3]) d1 = some (.lst [.ref t0, .ref t1, .ref t2, .ref t3]) := upd_same
    generalize upd G9 d1 (.lst [.ref t0, .ref t1, .ref t2, .ref t3]) = G10 at y10 w10 ⊢
    refine ⟨_, rfl, ?_⟩
    refine ⟨_, rfl, (by show 2 ≤ sizeLine; decide), fun t4 m4 => ?_⟩
    have y11 : Same G10 (upd G10 t4 (.tup [.str "Z runtime ", told])) := sameUpd m4
    have w11 : upd G10 t4 (.tup [.str "Z runtime ", told]) t4 = some (.tup [.str "Z runtime ", told]) := upd_same
    generalize upd G10 t4 (.tup [.str "Z runtime ", told]) = G11 at y11 w11 ⊢
    refine ⟨_, rfl, (by show 2 ≤ sizeLine; decide), fun t5 m5 => ?_⟩
    have y12 : Same G11 (upd G11 t5 (.tup [.str "M overflow arithmetic ", told])) := sameUpd m5
    have w12 : upd G11 t5 (.tup [.str "M overflow arithmetic ", told]) t5 = some (.tup [.str "M overflow arithmetic ", told]) := upd_same
    generalize upd G11 t5 (.tup [.str "M overflow arithmetic ", told]) = G12 at y12 w12 ⊢
    refine ⟨_, rfl, (by show 2 ≤ sizeLine; decide), fun t6 m6 => ?_⟩
    have y13 : Same G12 (upd G12 t6 (.tup [.str "C arithmetic ", told])) := sameUpd m6
    have w13 : upd G12 t6 (.tup [.str "C arithmetic ", told]) t6 = some (.tup [.str "C arithmetic ", told]) := upd_same
    generalize upd G12 t6 (.tup [.str "C arithmetic ", told]) = G13 at y13 w13 ⊢
    refine ⟨(by show 3 ≤ sizeLine; decide), fun d2 k2 => ?_⟩
    have y14 : Same G13 (upd G13 d2 (.lst [.ref t4, .ref t5, .ref t6])) := sameUpd k2
    have w14 : upd G13 d2 (.lst [.ref t4, .ref t5, .ref t6]) d2 = some (.lst [.ref t4, .ref t5, .ref t6]) := upd_same
    generalize upd G13 d2 (.lst [.ref t4, .ref t5, .ref t6]) = G14 at y14 w14 ⊢
    refine ⟨d1, d2, _, _, rfl, rfl, (y14 _ _ (y13 _ _ (y12 _ _ (y11 _ _ w10)))), w14, (by show 7 ≤ sizeLine; decide), fun d3 k3 => ?_⟩
    have y15 : Same G14 (upd G14 d3 (.lst ([.ref t0, .ref t1, .ref t2, .ref t3] ++ [.ref t4, .ref t5, .ref t6]))) := sameUpd k3
    have w15 : upd G14 d3 (.lst ([.ref t0, .ref t1, .ref t2, .ref t3] ++ [.ref t4, .ref t5, .ref t6])) d3 = some (.lst ([.ref t0, .ref t1, .ref t2, .ref t3] ++ [.ref t4, .ref t5, .ref t6])) := upd_same
    generalize upd G14 d3 (.lst ([.ref t0, .ref t1, .ref t2, .ref t3] ++ [.ref t4, .ref t5, .ref t6])) = G15 at y15 w15 ⊢
    refine ⟨_, rfl, _, rfl, told, index, rfl, fun GK r a1 a2 a3 a4 a5 a6 a7 sk hr0 h1 h2 h3 h4 h5 h6 h7 => ?_⟩
    have y16 := sk
    have stK := st.same (((((((((((((((y1.trans y2).trans y3).trans y4).trans y5).trans y6).trans y7).trans y8).trans y9).trans y10).trans y11).trans y12).trans y13).trans y14).trans y15).trans y16)
    have siK := si.same (((((((((((((((y1.trans y2).trans y3).trans y4).trans y5).trans y6).trans y7).trans y8).trans y9).trans y10).trans y11).trans y12).trans y13).trans y14).trans y15).trans y16)
    obtain ⟨o1, o2, o3⟩ := kD_ok st.sh st.dp st.sz si.sh si.dp si.sz
    have pr : ∀ {a : Addr} {s : Str} {v : V} {d : PyData}, GK a = some (.tup [.str s, v]) → Rn GK v d → Rn GK (.ref a) (.tuple [.str s, d]) := fun h r => .tup h (.cons (.str _) (.cons r .nil))
    refine ⟨_, kD dt di, rfl, .lst hr0 (.cons (pr h1 siK.rn) (.cons (pr h2 stK.rn) (.cons (pr h3 stK.rn) (.cons (pr h4 stK.rn) (.cons (pr h5 stK.rn) (.cons (pr h6 stK.rn) (.cons (pr h7 stK.rn) .nil))))))), o1, o2, o3, ?_⟩
    refine ⟨_, rfl, _, kD dt di, rfl, .lst (y16 _ _ w15) ((.cons (pr (y16 _ _ (y15 _ _ (y14 _ _ (y13 _ _ (y12 _ _ (y11 _ _ (y10 _ _ (y9 _ _ (y8 _ _ (y7 _ _ w6)))))))))) siK.rn) (.cons (pr (y16 _ _ (y15 _ _ (y14 _ _ (y13 _ _ (y12 _ _ (y11 _ _ (y10 _ _ (y9 _ _ (y8 _ _ w7))))))))) stK.rn) (.cons (pr (y16 _ _ (y15 _ _ (y14 _ _ (y13 _ _ (y12 _ _ (y11 _ _ (y10 _ _ (y9 _ _ w8)))))))) stK.rn) (.cons (pr (y16 _ _ (y15 _ _ (y14 _ _ (y13 _ _ (y12 _ _ (y11 _ _ (y10 _ _ w9))))))) stK.rn) (.cons (pr (y16 _ _ (y15 _ _ (y14 _ _ (y13 _ _ (y12 _ _ w11))))) stK.rn) (.cons (pr (y16 _ _ (y15 _ _ (y14 _ _ (y13 _ _ w12)))) stK.rn) (.cons (pr (y16 _ _ (y15 _ _ (y14 _ _ w13))) stK.rn) .nil)))))))), o1, o2, o3, rfl, _, rfl, iteFo (neS rfl) ?_⟩
    refine ⟨3, rfl, by decide, by decide, fun W nW => ?_⟩
    refine lc_range (lo := 0) (n := 3) (fun k H2 => Same GK H2 ∧ H2 W = some (.lst ((List.range k).map fun (j : Nat) => V.str (caught dt (0 + (j : Int)))))) ⟨sameUpd nW, upd_same⟩ (fun k H2 hk hP => ?_) (fun GZ hP => ?_)
    · obtain ⟨s2, hW⟩ := hP
      refine ⟨rfl, _, rfl, _, rfl, told, 0 + (k : Int), dt, rfl, by omega, by omega, stK.same s2, fun H3 sC => ⟨_, sC _ _ hW, ?_, fun b o e => ?_, ?_⟩⟩
      · rw [List.length_map, List.length_range]
        exact small1000 (by omega)
      · rw [upd_ne (ne_of_none e nW)]
        exact sC _ _ (s2 b o e)
      · rw [upd_same, List.range_succ, List.map_append]
        rfl
    obtain ⟨sZ, hW⟩ := hP
    have y17 := sZ
    have stZ := stK.same sZ
    have z1 : ((("lone " : String) : Str)).length = 5 := by decide
    have z2 : ((("walk " : String) : Str)).length = 5 := by decide
    have sl := sizeLine_eq
    have szd := st.sz
    refine ⟨_, rfl, told, dt, rfl, stZ.rn, stZ.sh, Nat.le_trans stZ.dp (by decide), by omega, _, _, rfl, rfl, by omega, ?_⟩
    refine ⟨_, rfl, told, dt, rfl, stZ.rn, stZ.sh, Nat.le_trans stZ.dp (by decide), by omega, _, _, rfl, rfl, by omega, (by show 3 ≤ sizeLine; decide), fun z nz => ?_⟩
    refine ⟨threeD dt, threeD dt, .lst (.of (sameUpd nz _ _ hW)) (.cons (.str _) (.cons (.str _) (.cons (.str _) .nil))), .lst (.of upd_same) (.cons (.str _) (.cons (.str _) (.cons (.str _) .nil))), s3, s3, ?_⟩
    rw [SeqAt.eqv_refl _ (SeqAt.canLay_of_shaped s3)]
    exact q _ (((((((((((((((((y1.trans y2).trans y3).trans y4).trans y5).trans y6).trans y7).trans y8).trans y9).trans y10).trans y11).trans y12).trans y13).trans y14).trans y15).trans y16).trans y17).trans (sameUpd nz))
end
end K01

set_option maxHeartbeats 16000000
namespace K01
open PySem PySem.Spec PyProof.Rows L2 GG
abbrev sLaw : Stmt := topS 24
theorem scLaw : FnScope ["script", "spot", "dice", "some", "index", "turn"] ["script"] (defScope sLaw) := ⟨rfl, rfl, rfl, by decide +kernel, rfl, by decide +kernel, by decide +kernel⟩
def spLaw (K : PySem.W.Frag) : Sp := fun vs H Q _ => ∃ (a : Addr) (ns : List Int), vs = [.ref a] ∧ SqL K H a (ns.map V.int) ∧ ns.length ≤ 63 ∧ ∀ H', Q (.bl true) H'
theorem seqL_but {K : PySem.W.Frag} {H H' : Hp} {a p : Addr} {xs : List V} (e : But p H H') (n : H p = none) (h : SqL K H a xs) : SqL K H' a xs := by
  rcases h with (h | ⟨o, h⟩) | h
  · exact .inl (.inl (e _ _ (ne_of_none h n) h))
  · exact .inl (.inr ⟨o, e _ _ (ne_of_none h n) h⟩)
  · exact .inr h
theorem rng_b (L : Int) : -(2 ^ 62) ≤ (if (if L < 4 then L else 4) > 1 then (if L < 4 then L else 4) else 1) ∧ (if (if L < 4 then L else 4) > 1 then (if L < 4 then L else 4) else 1) < 2 ^ 62 ∧
    (if (if L < 4 then L else 4) > 1 then (if L < 4 then L else 4) else 1).toNat ≤ 4 := by
  refine ⟨?_, ?_, ?_⟩ <;> (repeat' split) <;> omega
theorem shw_of {H : Hp} {v : V} {d : PyData} (r : Rn H v d) (h : d.showable = true ∧ d.depth ≤ 30 ∧ d.shown.length ≤ 100) : Shw H v d := ⟨r, h.1, h.2.1, h.2.2⟩
theorem shw_non {H : Hp} : Shw H .non .none := shw_of .non (by decide +kernel)
theorem shw_int {H : Hp} {i : Int} (h : i.natAbs < 10 ^ 12) : Shw H (.int i) (.int i) :=
  ⟨.int i, decide_eq_true (PySem.Flt.log2_lt_of (by decide) (Nat.lt_trans h (by decide +kernel))), Nat.zero_le _, Nat.le_trans (PyData.shown_int_le h) (by decide)⟩
section
variable {P : Program} {w : World} {K : PySem.W.Frag} {mg : Str → Option Value} {base : Heap}
theorem ok_law {f fD fR fK fG : Addr} {fd fdD fdR fdK fdG : FuncData} (F : Fun K "law" "law" sLaw f fd)
    (bD : Binds K fdD ["script", "spot"] []) (bR : Binds K fdR ["dice", "total"] []) (bK : Binds K fdK ["dice", "items"] []) (bG : Binds K fdG ["told", "index"] [])
    (GD : FnOk P w K mg base CX0 1 fD fdD ["script", "spot"] (spDice K)) (GR : FnOk P w K mg base CX0 1 fR fdR ["dice", "total"] spRoll)
    (GK : FnOk P w K mg base CX0 2 fK fdK ["dice", "items"] (spPick K)) (GG' : FnG P w K mg base CX0 5 fG fdG ["told", "index"] spRight)
    (gD : mg "_law_dice" = some (.ref fD)) (gR : mg "_law_roll" = some (.ref fR)) (gK : mg "_law_pick" = some (.ref fK)) (gG : mg "_law_right" = some (.ref fG))
    (kD : PySem.W.keepIn K (.ref fD) = true) (kR : PySem.W.keepIn K (.ref fR) = true) (kK : PySem.W.keepIn K (.ref fK) = true) (kG : PySem.W.keepIn K (.ref fG) = true)
    (mr : mg "range" = none) (mx : mg "max" = none) (mn : mg "min" = none) (ml : mg "len" = none) :
    FnG P w K mg base CX0 6 f fd ["script"] (spLaw K) := by
  refine fnG0 (k := 5) F scLaw (fun vs H Q E h => ?_) (fun cdv A outer s H vs Q E gd hr h => ?_)
  · obtain ⟨a, ns, rfl, _⟩ := h
    rfl
  · obtain ⟨a, ns, rfl, hS, hlen, q⟩ := h
    have hr1 := hr.mono (show 1 ≤ 5 by decide)
    have hr2 := hr.mono (show 2 ≤ 5 by decide)
    have N := scLaw.nd
    refine ⟨_, pss_cons (ps_for PassesOwn.never rfl (pi_range1 (by rfl) mr (pa_cons (pe_callB (call_max2 rfl) (by rfl) mx (by decide +kernel) (pa_cons pe_int (pa_cons
          (pe_callB (call_min2 rfl) (by rfl) mn (by decide +kernel) (pa_cons pe_int (pa_cons (pe_callB call_len_seq (by rfl) ml PySem.boot_len (pa_cons (pv 0) pa_nil)) pa_nil))) pa_nil))) pa_nil))
          (pg_name (i := 1) N rfl (.inl rfl))
        (pss_cons (ps_set (i := 2) N rfl (.inl rfl) (pe_call GD hr1 (by rfl) gD kD bD .nil pass0 (pa_cons (pv 0) (pa_cons (pv 1) pa_nil))))
        (pss_cons (ps_set (i := 3) N rfl (.inl rfl) (pe_lst (pa_cons pe_non (pa_cons pe_bl (pa_cons pe_int (pa_cons pe_str (pa_cons pe_str (pa_cons (pe_tup (pa_cons pe_int (pa_cons pe_int pa_nil))) (pa_cons (pe_lst (pa_cons pe_int pa_nil))
            (pa_cons (pe_disp (pps_cons pe_int pe_int pps_nil) (by rfl) (by rfl) (fun z => by cases z) (by decide))
            (pa_cons (pe_tup (pa_cons (pe_tup pa_nil) (pa_cons (pe_tup (pa_cons pe_str (pa_cons pe_int pa_nil))) pa_nil)))
            (pa_cons (pe_tup (pa_cons pe_int (pa_cons pe_int pa_nil))) (pa_cons pe_str (pa_cons (pe_op op_pow pe_int pe_int) pa_nil))))))))))))))
        (pss_cons (ps_set (i := 4) N rfl (.inl rfl) (pe_call GK hr2 (by rfl) gK kK bK .nil pass0 (pa_cons (pv 2) (pa_cons (pe_lst (pa_cons pe_non (pa_cons pe_int (pa_cons pe_int (pa_cons
            (pe_call GR hr1 (by rfl) gR kR bR .nil pass0 (pa_cons (pv 2) (pa_cons pe_int pa_nil))) pa_nil))))) pa_nil))))
        (pss_one (ps_for PassesOwn.never rfl (pi_range1 (by rfl) mr (pa_cons pe_int pa_nil)) (pg_name (i := 5) N rfl (.inl rfl))
          (pss_one (ps_if (pt_not (pt_val (pe_callG GG' gd hr (by rfl) gG kG bG .nil pass0 (pa_cons (pe_call GK hr2 (by rfl) gK kK bK .nil pass0 (pa_cons (pv 2) (pa_cons (pv 3) pa_nil))) (pa_cons (pv 4) pa_nil)))))
            (pss_one (ps_ret pe_bl)) pss_nil))))))))
      (pss_one (ps_ret pe_bl)), ?_⟩
    have hM := rng_b (ns.map V.int).length
    refine ⟨.ref a, rfl, a, _, rfl, .inl hS, _, _, rfl, _, _, rfl, _, rfl, hM.1, hM.2.1, ?_⟩
    refine for_range (lo := 0) (fun i σ H1 => ∃ y1 y2 y3 y4 y5, σ = [some (.ref a), y1, y2, y3, y4, y5] ∧ SqL K H1 a (ns.map V.int))
      ⟨_, _, _, _, _, rfl, hS⟩ (fun i σ H1 hi hP => ?_) (fun σ H1 hP => q _)
    obtain ⟨y1, y2, y3, y4, y5, rfl, hS1⟩ := hP
    refine ⟨.ref a, rfl, _, rfl, a, ns, i, by rw [Int.zero_add]; rfl, hS1, by omega, fun H2 p s2 np d2 => ?_⟩
    refine ⟨(by show 2 ≤ sizeLine; decide), fun a1 n1 => ?_⟩
    have e1 : Same H2 (upd H2 a1 (.tup [.int 4, .int 6])) := sameUpd n1
    have w1 : upd H2 a1 (.tup [.int 4, .int 6]) a1 = some (.tup [.int 4, .int 6]) := upd_same
    generalize upd H2 a1 (.tup [.int 4, .int 6]) = G1 at e1 w1 ⊢
    have p1 := (d2.ne n1).symm
    have q1 := d2.same e1
    refine ⟨(by show 1 ≤ sizeLine; decide), fun a2 n2 => ?_⟩
    have e2 : Same G1 (upd G1 a2 (.lst [.int 7])) := sameUpd n2
    have w2 : upd G1 a2 (.lst [.int 7]) a2 = some (.lst [.int 7]) := upd_same
    generalize upd G1 a2 (.lst [.int 7]) = G2 at e2 w2 ⊢
    have p2 := (q1.ne n2).symm
    have q2 := q1.same e2
    refine fun a3 n3 => ⟨upd_same, [(.inl 7, .int 7)], rfl, by decide, ?_⟩
    have e3 : Same G2 (upd (upd G2 a3 (.dK [])) a3 (.dK (mergeK [] [(.inl 7, .int 7)]))) := sameUpd2 n3
    have w3 : upd (upd G2 a3 (.dK [])) a3 (.dK (mergeK [] [(.inl 7, .int 7)])) a3 = some (.dK (mergeK [] [(.inl 7, .int 7)])) := upd_same
    generalize upd (upd G2 a3 (.dK [])) a3 (.dK (mergeK [] [(.inl 7, .int 7)])) = G3 at e3 w3 ⊢
    have p3 := (q2.ne n3).symm
    have q3 := q2.same e3
    refine ⟨(by show 0 ≤ sizeLine; decide), fun a4 n4 => ?_⟩
    have e4 : Same G3 (upd G3 a4 (.tup [])) := sameUpd n4
    have w4 : upd G3 a4 (.tup []) a4 = some (.tup []) := upd_same
    generalize upd G3 a4 (.tup []) = G4 at e4 w4 ⊢
    have p4 := (q3.ne n4).symm
    have q4 := q3.same e4
    refine ⟨(by show 2 ≤ sizeLine; decide), fun a5 n5 => ?_⟩
    have e5 : Same G4 (upd G4 a5 (.tup [.str "a", .int 1])) := sameUpd n5
    have w5 : upd G4 a5 (.tup [.str "a", .int 1]) a5 = some (.tup [.str "a", .int 1]) := upd_same
    generalize upd G4 a5 (.tup [.str "a", .int 1]) = G5 at e5 w5 ⊢
    have p5 := (q4.ne n5).symm
    have q5 := q4.same e5
    refine ⟨(by show 2 ≤ sizeLine; decide), fun a6 n6 => ?_⟩
    have e6 : Same G5 (upd G5 a6 (.tup [.ref a4, .ref a5])) := sameUpd n6
    have w6 : upd G5 a6 (.tup [.ref a4, .ref a5]) a6 = some (.tup [.ref a4, .ref a5]) := upd_same
    generalize upd G5 a6 (.tup [.ref a4, .ref a5]) = G6 at e6 w6 ⊢
    have p6 := (q5.ne n6).symm
    have q6 := q5.same e6
    refine ⟨(by show 2 ≤ sizeLine; decide), fun a7 n7 => ?_⟩
    have e7 : Same G6 (upd G6 a7 (.tup [.int 0, .int 3])) := sameUpd n7
    have w7 : upd G6 a7 (.tup [.int 0, .int 3]) a7 = some (.tup [.int 0, .int 3]) := upd_same
    generalize upd G6 a7 (.tup [.int 0, .int 3]) = G7 at e7 w7 ⊢
    have p7 := (q6.ne n7).symm
    have q7 := q6.same e7
    refine ⟨_, _, rfl, rfl, ⟨by decide, by decide, by decide⟩, (by show 12 ≤ sizeLine; decide), fun a8 n8 => ?_⟩
    have e8 : Same G7 (upd G7 a8 (.lst [.non, .bl true, .int 0, .str "7", .str "", .ref a1, .ref a2, .ref a3, .ref a6, .ref a7, .str "*ab", .int (10 ^ (60 : Int).toNat)])) := sameUpd n8
    have w8 : upd G7 a8 (.lst [.non, .bl true, .int 0, .str "7", .str "", .ref a1, .ref a2, .ref a3, .ref a6, .ref a7, .str "*ab", .int (10 ^ (60 : Int).toNat)]) a8 = some (.lst [.non, .bl true, .int 0, .str "7", .str "", .ref a1, .ref a2, .ref a3, .ref a6, .ref a7, .str "*ab", .int (10 ^ (60 : Int).toNat)]) := upd_same
    generalize upd G7 a8 (.lst [.non, .bl true, .int 0, .str "7", .str "", .ref a1, .ref a2, .ref a3, .ref a6, .ref a7, .str "*ab", .int (10 ^ (60 : Int).toNat)]) = G8 at e8 w8 ⊢
    have p8 := (q7.ne n8).symm
    have q8 := q7.same e8
    have f1 := (e8 _ _ (e7 _ _ (e6 _ _ (e5 _ _ (e4 _ _ (e3 _ _ (e2 _ _ w1)))))))
    have f2 := (e8 _ _ (e7 _ _ (e6 _ _ (e5 _ _ (e4 _ _ (e3 _ _ w2))))))
    have f3 := (e8 _ _ (e7 _ _ (e6 _ _ (e5 _ _ (e4 _ _ w3)))))
    have f4 := (e8 _ _ (e7 _ _ (e6 _ _ (e5 _ _ w4))))
    have f5 := (e8 _ _ (e7 _ _ (e6 _ _ w5)))
    have f6 := (e8 _ _ (e7 _ _ w6))
    have f7 := (e8 _ _ w7)
    have f8 := w8
    have sG := (((((((e1.trans e2).trans e3).trans e4).trans e5).trans e6).trans e7).trans e8)
    refine ⟨.ref p, rfl, .ref p, rfl, p, 100000, rfl, q8, by decide, by decide, fun H4 r b4 d4 r0 r1 => ⟨(by show 4 ≤ sizeLine; decide), fun l nl => ?_⟩⟩
    refine ⟨p, l, _, rfl, d4.new nl, (d4.ne nl).symm, .inl (.of upd_same), (by show 0 < 4; decide), (by show 4 ≤ 1000; decide), fun H5 j vi b5 d5 hv => ?_⟩
    obtain ⟨di, sI⟩ : ∃ di, ∀ Hx, Shw Hx vi di := by
      have m := List.mem_of_getElem? hv
      simp only [List.mem_cons, List.mem_nil_iff, or_false] at m
      rcases m with rfl | rfl | rfl | rfl
      · exact ⟨_, fun _ => shw_non⟩
      · exact ⟨_, fun _ => shw_int (by decide)⟩
      · exact ⟨_, fun _ => shw_int (by decide)⟩
      · exact ⟨_, fun _ => shw_int (by omega)⟩
    have c5 : But p G8 H5 := (b4.new nl).trans b5
    refine ⟨3, rfl, by decide, by decide, ?_⟩
    refine for_range (lo := 0) (n := 3) (fun j σ H6 => ∃ y1 y5, σ = [some (.ref a), y1, some (.ref p), some (.ref a8), some vi, y5] ∧ But p G8 H6 ∧ Dice H6 p)
      ⟨_, _, rfl, c5, d5⟩ (fun j σ H6 hj hP => ?_) (fun σ H6 hP => ?_)
    · obtain ⟨y1, y5, rfl, c6, d6⟩ := hP
      refine ⟨.ref p, rfl, _, rfl, p, a8, _, rfl, d6, p8, .inl (.of (c6 _ _ p8 f8)), (by show 0 < 12; decide), (by show 12 ≤ 1000; decide), fun H7 j2 v b7 d7 hv7 => ?_⟩
      have c7 := c6.trans b7
      obtain ⟨d, sd, s3⟩ : ∃ d, Shw H7 v d ∧ SeqAt.shaped (threeD d) = true := by
        have m := List.mem_of_getElem? hv7
        simp only [List.mem_cons, List.mem_nil_iff, or_false] at m
        have g1 := c7 _ _ p1 f1
        have g2 := c7 _ _ p2 f2
        have g3 := c7 _ _ p3 f3
        have g4 := c7 _ _ p4 f4
        have g5 := c7 _ _ p5 f5
        have g6 := c7 _ _ p6 f6
        have g7 := c7 _ _ p7 f7
        rcases m with rfl | rfl | rfl | rfl | rfl | rfl | rfl | rfl | rfl | rfl | rfl | rfl
        · exact ⟨.none, shw_of .non (by decide +kernel), by decide +kernel⟩
        · exact ⟨.bool true, shw_of (.bl _) (by decide +kernel), by decide +kernel⟩
        · exact ⟨.int 0, shw_of (.int _) (by decide +kernel), by decide +kernel⟩
        · exact ⟨.str "7", shw_of (.str _) (by decide +kernel), by decide +kernel⟩
        · exact ⟨.str "", shw_of (.str _) (by decide +kernel), by decide +kernel⟩
        · exact ⟨.tuple [.int 4, .int 6], shw_of (.tup g1 (.cons (.int _) (.cons (.int _) .nil))) (by decide +kernel), by decide +kernel⟩
        · exact ⟨.list [.int 7], shw_of (.lst g2 (.cons (.int _) .nil)) (by decide +kernel), by decide +kernel⟩
        · exact ⟨.dict [(.int 7, .int 7)], shw_of (.dct g3) (by decide +kernel), by decide +kernel⟩
        · exact ⟨.tuple [.tuple [], .tuple [.str "a", .int 1]], shw_of (.tup g6 (.cons (.tup g4 .nil) (.cons (.tup g5 (.cons (.str _) (.cons (.int _) .nil))) .nil))) (by decide +kernel), by decide +kernel⟩
        · exact ⟨.tuple [.int 0, .int 3], shw_of (.tup g7 (.cons (.int _) (.cons (.int _) .nil))) (by decide +kernel), by decide +kernel⟩
        · exact ⟨.str "*ab", shw_of (.str _) (by decide +kernel), by decide +kernel⟩
        · exact ⟨.int (10 ^ 60), shw_of (.int _) (by decide +kernel), by decide +kernel⟩
      refine ⟨_, rfl, v, vi, d, di, rfl, sd, sI _, s3, fun H8 s8 => ⟨true, rfl, iteF ?_⟩⟩
      exact ⟨_, _, rfl, c7.same s8, d7.same s8⟩
    · obtain ⟨y1, y5, rfl, c6, d6⟩ := hP
      exact ⟨_, _, _, _, _, rfl, seqL_but ((But.ofSame (s2.trans sG)).trans c6) np hS1⟩
end
end K01

set_option maxHeartbeats 4000000
namespace K01
def clsBody : PySem.Stmt → List PySem.Stmt
  | .ClassDef _ _ _ b _ _ _ _ _ _ _ => b
  | _ => []
section
open PySem PySem.Spec PyProof.Rows GG PySem.W PySem.Calls PySem.HandSPX
def sInit_cX : Stmt := (clsBody (topS 7)).getD 0 (.Pass ⟨0, 0, 0, 0⟩)
theorem init_cX {K : Frag} {B newId : String} {C fI : Addr} (T : PySem.GX.OwnY K "line" [.type "ValueError", .type "Exception", .type "BaseException", .type "object"] B newId C fI) {oc : Value} {od an : Option Addr} {doc pm cdv ct : Value} {osl : Array (Option Value)}
    (ho : K.lookup fI = some ⟨oc, od, .func (fnOf "__init__" "ParseError.__init__" (L2.defArgs sInit_cX) (L2.defBody sInit_cX) (L2.defScope sInit_cX) .none .none doc pm an cdv ct), osl⟩)
    (hcd : codeIn K cdv "ParseError.__init__" = true) : PySem.GX.InitOk K "line" C fI := by
  intro prog w A R s x t0 v X lim hx hnx deep hq
  obtain ⟨cd, hcl, hov, hdi⟩ := T.over
  refine Att.call_fn (binds := [("self", .ref x), ("line", v)]) X lim ho hcd deep (BindsTo.of_eq (by first | rfl | with_unfolding_all rfl)) (by first | rfl | decide | with_unfolding_all rfl) (fun s₁ IC => ?_) rfl rfl rfl
  obtain ⟨h₁, tk₁, rfl⟩ := IC.toInCall.same
  have grown : ∀ b o, s.heap.get? b = some o → h₁.get? b = some o := IC.toInCall.keep
  have frame := IC.toInCall.ns
  have K₁ : K.In h₁ := X.keeps grown
  have there := grown _ _ hx
  show wpAny _ _ (execs _ _) _ _ _
  refine wpAny_execs_cons (plainObj_wpAny_Assign_Attribute ?_)
  refine PySem.GX.loadLoc (v := v) frame (by first | rfl | with_unfolding_all rfl | kernel_rfl) (PySem.GX.loadLoc (v := .ref x) frame (by first | rfl | with_unfolding_all rfl | kernel_rfl) ?_)
  refine set_plain K₁ (ox := excO C t0) (od := none) ⟨there, rfl, rfl, trivial⟩ T.sa ?_
  refine PySem.GX.osaX PySem.F.store_ValueError K₁ there hcl hov hdi T.noN (fun h₃ tk₃ dx k₃ dn dne hx₃ hn₃ => ?_)
  show wpAny _ _ (execs _ _) _ _ _
  have room : s.heap.objs.size < h₁.objs.size := frame.lt
  exact wpAny_execs_nil (hq h₃ tk₃ dx ⟨fun b o hb e => k₃ b o hb (grown b o e), hx₃, Nat.le_of_lt (Nat.lt_of_lt_of_le room dn), dne, hn₃⟩)
def sInit_cU : Stmt := (clsBody (topS 8)).getD 0 (.Pass ⟨0, 0, 0, 0⟩)
theorem init_cU {K : Frag} {B newId : String} {C fI : Addr} (T : PySem.GX.OwnY K "word" [.type "KeyError", .type "LookupError", .type "Exception", .type "BaseException", .type "object"] B newId C fI) {oc : Value} {od an : Option Addr} {doc pm cdv ct : Value} {osl : Array (Option Value)}
    (ho : K.lookup fI = some ⟨oc, od, .func (fnOf "__init__" "UnknownName.__init__" (L2.defArgs sInit_cU) (L2.defBody sInit_cU) (L2.defScope sInit_cU) .none .none doc pm an cdv ct), osl⟩)
    (hcd : codeIn K cdv "UnknownName.__init__" = true) : PySem.GX.InitOk K "word" C fI := by
  intro prog w A R s x t0 v X lim hx hnx deep hq
  obtain ⟨cd, hcl, hov, hdi⟩ := T.over
  refine Att.call_fn (binds := [("self", .ref x), ("word", v)]) X lim ho hcd deep (BindsTo.of_eq (by first | rfl | with_unfolding_all rfl)) (by first | rfl | decide | with_unfolding_all rfl) (fun s₁ IC => ?_) rfl rfl rfl
  obtain ⟨h₁, tk₁, rfl⟩ := IC.toInCall.same
  have grown : ∀ b o, s.heap.get? b = some o → h₁.get? b = some o := IC.toInCall.keep
  have frame := IC.toInCall.ns
  have K₁ : K.In h₁ := X.keeps grown
  have there := grown _ _ hx
  show wpAny _ _ (execs _ _) _ _ _
  refine wpAny_execs_cons (plainObj_wpAny_Assign_Attribute ?_)
  refine PySem.GX.loadLoc (v := v) frame (by first | rfl | with_unfolding_all rfl | kernel_rfl) (PySem.GX.loadLoc (v := .ref x) frame (by first | rfl | with_unfolding_all rfl | kernel_rfl) ?_)
  refine set_plain K₁ (ox := excO C t0) (od := none) ⟨there, rfl, rfl, trivial⟩ T.sa ?_
  refine PySem.GX.osaX PySem.F.store_KeyError K₁ there hcl hov hdi T.noN (fun h₃ tk₃ dx k₃ dn dne hx₃ hn₃ => ?_)
  show wpAny _ _ (execs _ _) _ _ _
  have room : s.heap.objs.size < h₁.objs.size := frame.lt
  exact wpAny_execs_nil (hq h₃ tk₃ dx ⟨fun b o hb e => k₃ b o hb (grown b o e), hx₃, Nat.le_of_lt (Nat.lt_of_lt_of_le room dn), dne, hn₃⟩)
def sInit_cR : Stmt := (clsBody (topS 9)).getD 0 (.Pass ⟨0, 0, 0, 0⟩)
theorem init_cR {K : Frag} {B newId : String} {C fI : Addr} (T : PySem.GX.OwnY K "ends" [.type "LookupError", .type "Exception", .type "BaseException", .type "object"] B newId C fI) {oc : Value} {od an : Option Addr} {doc pm cdv ct : Value} {osl : Array (Option Value)}
    (ho : K.lookup fI = some ⟨oc, od, .func (fnOf "__init__" "NoWalk.__init__" (L2.defArgs sInit_cR) (L2.defBody sInit_cR) (L2.defScope sInit_cR) .none .none doc pm an cdv ct), osl⟩)
    (hcd : codeIn K cdv "NoWalk.__init__" = true) : PySem.GX.InitOk K "ends" C fI := by
  intro prog w A R s x t0 v X lim hx hnx deep hq
  obtain ⟨cd, hcl, hov, hdi⟩ := T.over
  refine Att.call_fn (binds := [("self", .ref x), ("ends", v)]) X lim ho hcd deep (BindsTo.of_eq (by first | rfl | with_unfolding_all rfl)) (by first | rfl | decide | with_unfolding_all rfl) (fun s₁ IC => ?_) rfl rfl rfl
  obtain ⟨h₁, tk₁, rfl⟩ := IC.toInCall.same
  have grown : ∀ b o, s.heap.get? b = some o → h₁.get? b = some o := IC.toInCall.keep
  have frame := IC.toInCall.ns
  have K₁ : K.In h₁ := X.keeps grown
  have there := grown _ _ hx
  show wpAny _ _ (execs _ _) _ _ _
  refine wpAny_execs_cons (plainObj_wpAny_Assign_Attribute ?_)
  refine PySem.GX.loadLoc (v := v) frame (by first | rfl | with_unfolding_all rfl | kernel_rfl) (PySem.GX.loadLoc (v := .ref x) frame (by first | rfl | with_unfolding_all rfl | kernel_rfl) ?_)
  refine set_plain K₁ (ox := excO C t0) (od := none) ⟨there, rfl, rfl, trivial⟩ T.sa ?_
  refine PySem.GX.osaX PySem.F.store_LookupError K₁ there hcl hov hdi T.noN (fun h₃ tk₃ dx k₃ dn dne hx₃ hn₃ => ?_)
  show wpAny _ _ (execs _ _) _ _ _
  have room : s.heap.objs.size < h₁.objs.size := frame.lt
  exact wpAny_execs_nil (hq h₃ tk₃ dx ⟨fun b o hb e => k₃ b o hb (grown b o e), hx₃, Nat.le_of_lt (Nat.lt_of_lt_of_le room dn), dne, hn₃⟩)
def sInit_cN : Stmt := (clsBody (topS 10)).getD 0 (.Pass ⟨0, 0, 0, 0⟩)
theorem init_cN {K : Frag} {B newId : String} {C fI : Addr} (T : PySem.GX.OwnY K "value" [.type "IndexError", .type "LookupError", .type "Exception", .type "BaseException", .type "object"] B newId C fI) {oc : Value} {od an : Option Addr} {doc pm cdv ct : Value} {osl : Array (Option Value)}
    (ho : K.lookup fI = some ⟨oc, od, .func (fnOf "__init__" "InvalidNumber.__init__" (L2.defArgs sInit_cN) (L2.defBody sInit_cN) (L2.defScope sInit_cN) .none .none doc pm an cdv ct), osl⟩)
    (hcd : codeIn K cdv "InvalidNumber.__init__" = true) : PySem.GX.InitOk K "value" C fI := by
  intro prog w A R s x t0 v X lim hx hnx deep hq
  obtain ⟨cd, hcl, hov, hdi⟩ := T.over
  refine Att.call_fn (binds := [("self", .ref x), ("value", v)]) X lim ho hcd deep (BindsTo.of_eq (by first | rfl | with_unfolding_all rfl)) (by first | rfl | decide | with_unfolding_all rfl) (fun s₁ IC => ?_) rfl rfl rfl
  obtain ⟨h₁, tk₁, rfl⟩ := IC.toInCall.same
  have grown : ∀ b o, s.heap.get? b = some o → h₁.get? b = some o := IC.toInCall.keep
  have frame := IC.toInCall.ns
  have K₁ : K.In h₁ := X.keeps grown
  have there := grown _ _ hx
  show wpAny _ _ (execs _ _) _ _ _
  refine wpAny_execs_cons (plainObj_wpAny_Assign_Attribute ?_)
  refine PySem.GX.loadLoc (v := v) frame (by first | rfl | with_unfolding_all rfl | kernel_rfl) (PySem.GX.loadLoc (v := .ref x) frame (by first | rfl | with_unfolding_all rfl | kernel_rfl) ?_)
  refine set_plain K₁ (ox := excO C t0) (od := none) ⟨there, rfl, rfl, trivial⟩ T.sa ?_
  refine PySem.GX.osaX PySem.F.store_IndexError K₁ there hcl hov hdi T.noN (fun h₃ tk₃ dx k₃ dn dne hx₃ hn₃ => ?_)
  show wpAny _ _ (execs _ _) _ _ _
  have room : s.heap.objs.size < h₁.objs.size := frame.lt
  exact wpAny_execs_nil (hq h₃ tk₃ dx ⟨fun b o hb e => k₃ b o hb (grown b o e), hx₃, Nat.le_of_lt (Nat.lt_of_lt_of_le room dn), dne, hn₃⟩)
def sInit_cZ : Stmt := (clsBody (topS 11)).getD 0 (.Pass ⟨0, 0, 0, 0⟩)
theorem init_cZ {K : Frag} {B newId : String} {C fI : Addr} (T : PySem.GX.OwnY K "many" [.type "RuntimeError", .type "Exception", .type "BaseException", .type "object"] B newId C fI) {oc : Value} {od an : Option Addr} {doc pm cdv ct : Value} {osl : Array (Option Value)}
    (ho : K.lookup fI = some ⟨oc, od, .func (fnOf "__init__" "NothingToUndo.__init__" (L2.defArgs sInit_cZ) (L2.defBody sInit_cZ) (L2.defScope sInit_cZ) .none .none doc pm an cdv ct), osl⟩)
    (hcd : codeIn K cdv "NothingToUndo.__init__" = true) : PySem.GX.InitOk K "many" C fI := by
  intro prog w A R s x t0 v X lim hx hnx deep hq
  obtain ⟨cd, hcl, hov, hdi⟩ := T.over
  refine Att.call_fn (binds := [("self", .ref x), ("many", v)]) X lim ho hcd deep (BindsTo.of_eq (by first | rfl | with_unfolding_all rfl)) (by first | rfl | decide | with_unfolding_all rfl) (fun s₁ IC => ?_) rfl rfl rfl
  obtain ⟨h₁, tk₁, rfl⟩ := IC.toInCall.same
  have grown : ∀ b o, s.heap.get? b = some o → h₁.get? b = some o := IC.toInCall.keep
  have frame := IC.toInCall.ns
  have K₁ : K.In h₁ := X.keeps grown
  have there := grown _ _ hx
  show wpAny _ _ (execs _ _) _ _ _
  refine wpAny_execs_cons (plainObj_wpAny_Assign_Attribute ?_)
  refine PySem.GX.loadLoc (v := v) frame (by first | rfl | with_unfolding_all rfl | kernel_rfl) (PySem.GX.loadLoc (v := .ref x) frame (by first | rfl | with_unfolding_all rfl | kernel_rfl) ?_)
  refine set_plain K₁ (ox := excO C t0) (od := none) ⟨there, rfl, rfl, trivial⟩ T.sa ?_
  refine PySem.GX.osaX PySem.F.store_RuntimeError K₁ there hcl hov hdi T.noN (fun h₃ tk₃ dx k₃ dn dne hx₃ hn₃ => ?_)
  show wpAny _ _ (execs _ _) _ _ _
  have room : s.heap.objs.size < h₁.objs.size := frame.lt
  exact wpAny_execs_nil (hq h₃ tk₃ dx ⟨fun b o hb e => k₃ b o hb (grown b o e), hx₃, Nat.le_of_lt (Nat.lt_of_lt_of_le room dn), dne, hn₃⟩)
def sInit_cM : Stmt := (clsBody (topS 12)).getD 0 (.Pass ⟨0, 0, 0, 0⟩)
theorem init_cM {K : Frag} {B newId : String} {C fI : Addr} (T : PySem.GX.OwnY K "limit" [.type "OverflowError", .type "ArithmeticError", .type "Exception", .type "BaseException", .type "object"] B newId C fI) {oc : Value} {od an : Option Addr} {doc pm cdv ct : Value} {osl : Array (Option Value)}
    (ho : K.lookup fI = some ⟨oc, od, .func (fnOf "__init__" "TooMany.__init__" (L2.defArgs sInit_cM) (L2.defBody sInit_cM) (L2.defScope sInit_cM) .none .none doc pm an cdv ct), osl⟩)
    (hcd : codeIn K cdv "TooMany.__init__" = true) : PySem.GX.InitOk K "limit" C fI := by
  intro prog w A R s x t0 v X lim hx hnx deep hq
  obtain ⟨cd, hcl, hov, hdi⟩ := T.over
  refine Att.call_fn (binds := [("self", .ref x), ("limit", v)]) X lim ho hcd deep (BindsTo.of_eq (by first | rfl | with_unfolding_all rfl)) (by first | rfl | decide | with_unfolding_all rfl) (fun s₁ IC => ?_) rfl rfl rfl
  obtain ⟨h₁, tk₁, rfl⟩ := IC.toInCall.same
  have grown : ∀ b o, s.heap.get? b = some o → h₁.get? b = some o := IC.toInCall.keep
  have frame := IC.toInCall.ns
  have K₁ : K.In h₁ := X.keeps grown
  have there := grown _ _ hx
  show wpAny _ _ (execs _ _) _ _ _
  refine wpAny_execs_cons (plainObj_wpAny_Assign_Attribute ?_)
  refine PySem.GX.loadLoc (v := v) frame (by first | rfl | with_unfolding_all rfl | kernel_rfl) (PySem.GX.loadLoc (v := .ref x) frame (by first | rfl | with_unfolding_all rfl | kernel_rfl) ?_)
  refine set_plain K₁ (ox := excO C t0) (od := none) ⟨there, rfl, rfl, trivial⟩ T.sa ?_
  refine PySem.GX.osaX PySem.F.store_OverflowError K₁ there hcl hov hdi T.noN (fun h₃ tk₃ dx k₃ dn dne hx₃ hn₃ => ?_)
  show wpAny _ _ (execs _ _) _ _ _
  have room : s.heap.objs.size < h₁.objs.size := frame.lt
  exact wpAny_execs_nil (hq h₃ tk₃ dx ⟨fun b o hb e => k₃ b o hb (grown b o e), hx₃, Nat.le_of_lt (Nat.lt_of_lt_of_le room dn), dne, hn₃⟩)
def sInit_cC : Stmt := (clsBody (topS 13)).getD 0 (.Pass ⟨0, 0, 0, 0⟩)
theorem init_cC {K : Frag} {B newId : String} {C fI : Addr} (T : PySem.GX.OwnY K "reason" [.type "ArithmeticError", .type "Exception", .type "BaseException", .type "object"] B newId C fI) {oc : Value} {od an : Option Addr} {doc pm cdv ct : Value} {osl : Array (Option Value)}
    (ho : K.lookup fI = some ⟨oc, od, .func (fnOf "__init__" "NotLone.__init__" (L2.defArgs sInit_cC) (L2.defBody sInit_cC) (L2.defScope sInit_cC) .none .none doc pm an cdv ct), osl⟩)
    (hcd : codeIn K cdv "NotLone.__init__" = true) : PySem.GX.InitOk K "reason" C fI := by
  intro prog w A R s x t0 v X lim hx hnx deep hq
  obtain ⟨cd, hcl, hov, hdi⟩ := T.over
  refine Att.call_fn (binds := [("self", .ref x), ("reason", v)]) X lim ho hcd deep (BindsTo.of_eq (by first | rfl | with_unfolding_all rfl)) (by first | rfl | decide | with_unfolding_all rfl) (fun s₁ IC => ?_) rfl rfl rfl
  obtain ⟨h₁, tk₁, rfl⟩ := IC.toInCall.same
  have grown : ∀ b o, s.heap.get? b = some o → h₁.get? b = some o := IC.toInCall.keep
  have frame := IC.toInCall.ns
  have K₁ : K.In h₁ := X.keeps grown
  have there := grown _ _ hx
  show wpAny _ _ (execs _ _) _ _ _
  refine wpAny_execs_cons (plainObj_wpAny_Assign_Attribute ?_)
  refine PySem.GX.loadLoc (v := v) frame (by first | rfl | with_unfolding_all rfl | kernel_rfl) (PySem.GX.loadLoc (v := .ref x) frame (by first | rfl | with_unfolding_all rfl | kernel_rfl) ?_)
  refine set_plain K₁ (ox := excO C t0) (od := none) ⟨there, rfl, rfl, trivial⟩ T.sa ?_
  refine PySem.GX.osaX PySem.F.store_ArithmeticError K₁ there hcl hov hdi T.noN (fun h₃ tk₃ dx k₃ dn dne hx₃ hn₃ => ?_)
  show wpAny _ _ (execs _ _) _ _ _
  have room : s.heap.objs.size < h₁.objs.size := frame.lt
  exact wpAny_execs_nil (hq h₃ tk₃ dx ⟨fun b o hb e => k₃ b o hb (grown b o e), hx₃, Nat.le_of_lt (Nat.lt_of_lt_of_le room dn), dne, hn₃⟩)
end
open PySem PySem.Spec PyProof.Rows L2 GG
def kitsOk (K : PySem.W.Frag) (c : Cs) (D : Addr) (b : Bits) : Bool :=
  decide (PySem.W.kitOne K (.ref D) (.ref c.cW) = some b.b0) &&
    decide (PySem.W.kitOne K (.ref D) (.ref c.cK) = some b.b1) &&
    decide (PySem.W.kitOne K (.ref D) (.ref c.cT) = some b.b2) &&
    decide (PySem.W.kitOne K (.ref D) (.ref c.cQ) = some b.b3) &&
    decide (PySem.W.kitOne K (.ref D) (.ref c.cO) = some b.b4) &&
    decide (PySem.W.kitOne K (.ref D) (.ref c.cX) = some b.b5) &&
    decide (PySem.W.kitOne K (.ref D) (.ref c.cU) = some b.b6) &&
    decide (PySem.W.kitOne K (.ref D) (.ref c.cR) = some b.b7) &&
    decide (PySem.W.kitOne K (.ref D) (.ref c.cN) = some b.b8) &&
    decide (PySem.W.kitOne K (.ref D) (.ref c.cZ) = some b.b9) &&
    decide (PySem.W.kitOne K (.ref D) (.ref c.cM) = some b.b10) &&
    decide (PySem.W.kitOne K (.ref D) (.ref c.cC) = some b.b11) &&
    decide (PySem.W.kitOne K (.ref D) (.ref c.cB) = some b.e0) &&
    decide (PySem.W.kitOne K (.ref D) (.type "ValueError") = some b.e1) &&
    decide (PySem.W.kitOne K (.ref D) (.type "KeyError") = some b.e2) &&
    decide (PySem.W.kitOne K (.ref D) (.type "IndexError") = some b.e3) &&
    decide (PySem.W.kitOne K (.ref D) (.type "LookupError") = some b.e4) &&
    decide (PySem.W.kitOne K (.ref D) (.type "RuntimeError") = some b.e5) &&
    decide (PySem.W.kitOne K (.ref D) (.type "OverflowError") = some b.e6) &&
    decide (PySem.W.kitOne K (.ref D) (.type "ArithmeticError") = some b.e7)
theorem knows_of {K : PySem.W.Frag} {c : Cs} {D : Addr} {b : Bits} (ex : ExcC K D) (h : kitsOk K c D b = true) : Knows K c D b := by
  unfold kitsOk at h
  simp only [Bool.and_eq_true, decide_eq_true_eq] at h
  obtain ⟨⟨⟨⟨⟨⟨⟨⟨⟨⟨⟨⟨⟨⟨⟨⟨⟨⟨⟨h0, h1⟩, h2⟩, h3⟩, h4⟩, h5⟩, h6⟩, h7⟩, h8⟩, h9⟩, h10⟩, h11⟩, h12⟩, h13⟩, h14⟩, h15⟩, h16⟩, h17⟩, h18⟩, h19⟩ := h
  exact ⟨ex, h0, h1, h2, h3, h4, h5, h6, h7, h8, h9, h10, h11, h12, h13, h14, h15, h16, h17, h18, h19⟩
theorem all_mk {l : PySem.W.OpenLaw} {w : World} {K : PySem.W.Frag} {h : Heap} {mg : Str → Option Value} {f__law_dice f__law_roll f__law_pick f__law_own f__law_all f__law_messages f__law_kept f__law_caught f__law_right f_law fa acW acK acT acQ acO acX acU acR acN acZ acM acC acB icX icU icR icN icZ icM icC : Addr}
    (X : K.In h) (G : h.Ns mainGlobals mg) (hfa : mg "law" = some (.ref fa))
    {od0 an0 : Option Addr} {sl0 : Array (Option Value)} {oc0 kV0 dc0 pm0 cd0 ct0 : Value}
    (a0 : PySem.W.nsIn K mainGlobals "_law_dice" = some (some (.ref f__law_dice)))
    (l0 : K.lookup f__law_dice = some ⟨oc0, od0, .func (PySem.W.fnOf "_law_dice" "_law_dice" (defArgs sDice) (defBody sDice) (defScope sDice) .none kV0 dc0 pm0 an0 cd0 ct0), sl0⟩)
    (c0 : PySem.W.codeIn K cd0 "_law_dice" = true)
    (k0 : PySem.W.keepIn K (.ref f__law_dice) = true)
    {od1 an1 : Option Addr} {sl1 : Array (Option Value)} {oc1 kV1 dc1 pm1 cd1 ct1 : Value}
    (a1 : PySem.W.nsIn K mainGlobals "_law_roll" = some (some (.ref f__law_roll)))
    (l1 : K.lookup f__law_roll = some ⟨oc1, od1, .func (PySem.W.fnOf "_law_roll" "_law_roll" (defArgs sRoll) (defBody sRoll) (defScope sRoll) .none kV1 dc1 pm1 an1 cd1 ct1), sl1⟩)
    (c1 : PySem.W.codeIn K cd1 "_law_roll" = true)
    (k1 : PySem.W.keepIn K (.ref f__law_roll) = true)
    {od2 an2 : Option Addr} {sl2 : Array (Option Value)} {oc2 kV2 dc2 pm2 cd2 ct2 : Value}
    (a2 : PySem.W.nsIn K mainGlobals "_law_pick" = some (some (.ref f__law_pick)))
    (l2 : K.lookup f__law_pick = some ⟨oc2, od2, .func (PySem.W.fnOf "_law_pick" "_law_pick" (defArgs sPick) (defBody sPick) (defScope sPick) .none kV2 dc2 pm2 an2 cd2 ct2), sl2⟩)
    (c2 : PySem.W.codeIn K cd2 "_law_pick" = true)
    (k2 : PySem.W.keepIn K (.ref f__law_pick) = true)
    {od3 an3 : Option Addr} {sl3 : Array (Option Value)} {oc3 kV3 dc3 pm3 cd3 ct3 : Value}
    (a3 : PySem.W.nsIn K mainGlobals "_law_own" = some (some (.ref f__law_own)))
    (l3 : K.lookup f__law_own = some ⟨oc3, od3, .func (PySem.W.fnOf "_law_own" "_law_own" (defArgs sOwn) (defBody sOwn) (defScope sOwn) .none kV3 dc3 pm3 an3 cd3 ct3), sl3⟩)
    (c3 : PySem.W.codeIn K cd3 "_law_own" = true)
    (k3 : PySem.W.keepIn K (.ref f__law_own) = true)
    {od4 an4 : Option Addr} {sl4 : Array (Option Value)} {oc4 kV4 dc4 pm4 cd4 ct4 : Value}
    (a4 : PySem.W.nsIn K mainGlobals "_law_all" = some (some (.ref f__law_all)))
    (l4 : K.lookup f__law_all = some ⟨oc4, od4, .func (PySem.W.fnOf "_law_all" "_law_all" (defArgs sAll) (defBody sAll) (defScope sAll) .none kV4 dc4 pm4 an4 cd4 ct4), sl4⟩)
    (c4 : PySem.W.codeIn K cd4 "_law_all" = true)
    (k4 : PySem.W.keepIn K (.ref f__law_all) = true)
    {od5 an5 : Option Addr} {sl5 : Array (Option Value)} {oc5 kV5 dc5 pm5 cd5 ct5 : Value}
    (a5 : PySem.W.nsIn K mainGlobals "_law_messages" = some (some (.ref f__law_messages)))
    (l5 : K.lookup f__law_messages = some ⟨oc5, od5, .func (PySem.W.fnOf "_law_messages" "_law_messages" (defArgs sMsg) (defBody sMsg) (defScope sMsg) .none kV5 dc5 pm5 an5 cd5 ct5), sl5⟩)
    (c5 : PySem.W.codeIn K cd5 "_law_messages" = true)
    (k5 : PySem.W.keepIn K (.ref f__law_messages) = true)
    {od6 an6 : Option Addr} {sl6 : Array (Option Value)} {oc6 kV6 dc6 pm6 cd6 ct6 : Value}
    (a6 : PySem.W.nsIn K mainGlobals "_law_kept" = some (some (.ref f__law_kept)))
    (l6 : K.lookup f__law_kept = some ⟨oc6, od6, .func (PySem.W.fnOf "_law_kept" "_law_kept" (defArgs sKept) (defBody sKept) (defScope sKept) .none kV6 dc6 pm6 an6 cd6 ct6), sl6⟩)
    (c6 : PySem.W.codeIn K cd6 "_law_kept" = true)
    (k6 : PySem.W.keepIn K (.ref f__law_kept) = true)
    {od7 an7 : Option Addr} {sl7 : Array (Option Value)} {oc7 kV7 dc7 pm7 cd7 ct7 : Value}
    (a7 : PySem.W.nsIn K mainGlobals "_law_caught" = some (some (.ref f__law_caught)))
    (l7 : K.lookup f__law_caught = some ⟨oc7, od7, .func (PySem.W.fnOf "_law_caught" "_law_caught" (defArgs sCaught) (defBody sCaught) (defScope sCaught) .none kV7 dc7 pm7 an7 cd7 ct7), sl7⟩)
    (c7 : PySem.W.codeIn K cd7 "_law_caught" = true)
    (k7 : PySem.W.keepIn K (.ref f__law_caught) = true)
    {od8 an8 : Option Addr} {sl8 : Array (Option Value)} {oc8 kV8 dc8 pm8 cd8 ct8 : Value}
    (a8 : PySem.W.nsIn K mainGlobals "_law_right" = some (some (.ref f__law_right)))
    (l8 : K.lookup f__law_right = some ⟨oc8, od8, .func (PySem.W.fnOf "_law_right" "_law_right" (defArgs sRight) (defBody sRight) (defScope sRight) .none kV8 dc8 pm8 an8 cd8 ct8), sl8⟩)
    (c8 : PySem.W.codeIn K cd8 "_law_right" = true)
    (k8 : PySem.W.keepIn K (.ref f__law_right) = true)
    {od9 an9 : Option Addr} {sl9 : Array (Option Value)} {oc9 kV9 dc9 pm9 cd9 ct9 : Value}
    (a9 : PySem.W.nsIn K mainGlobals "law" = some (some (.ref f_law)))
    (l9 : K.lookup f_law = some ⟨oc9, od9, .func (PySem.W.fnOf "law" "law" (defArgs sLaw) (defBody sLaw) (defScope sLaw) .none kV9 dc9 pm9 an9 cd9 ct9), sl9⟩)
    (c9 : PySem.W.codeIn K cd9 "law" = true)
    (k9 : PySem.W.keepIn K (.ref f_law) = true)
    (z_int : PySem.W.nsIn K mainGlobals "int" = some none)
    (z_isinstance : PySem.W.nsIn K mainGlobals "isinstance" = some none)
    (z_len : PySem.W.nsIn K mainGlobals "len" = some none)
    (z_max : PySem.W.nsIn K mainGlobals "max" = some none)
    (z_min : PySem.W.nsIn K mainGlobals "min" = some none)
    (z_abs : PySem.W.nsIn K mainGlobals "abs" = some none)
    (z_range : PySem.W.nsIn K mainGlobals "range" = some none)
    (z_repr : PySem.W.nsIn K mainGlobals "repr" = some none)
    (z_ValueError : PySem.W.nsIn K mainGlobals "ValueError" = some none)
    (z_KeyError : PySem.W.nsIn K mainGlobals "KeyError" = some none)
    (z_IndexError : PySem.W.nsIn K mainGlobals "IndexError" = some none)
    (z_LookupError : PySem.W.nsIn K mainGlobals "LookupError" = some none)
    (z_RuntimeError : PySem.W.nsIn K mainGlobals "RuntimeError" = some none)
    (z_OverflowError : PySem.W.nsIn K mainGlobals "OverflowError" = some none)
    (z_ArithmeticError : PySem.W.nsIn K mainGlobals "ArithmeticError" = some none)
    (g_cW : PySem.W.nsIn K mainGlobals "InvalidWeb" = some (some (.ref acW)))
    (kp_cW : PySem.W.keepIn K (.ref acW) = true)
    (ga_cW : PySem.W.findIn K (.ref acW) "__getattribute__" = some (some (.builtin "BaseException.__getattribute__")))
    (gg_cW : PySem.W.findIn K (.ref acW) "__getattr__" = some none)
    (sb_cW : PySem.W.subIn K (.ref acW) (.type "BaseException") = some true)
    (hd_cW : PySem.W.hasDictIn K acW = true)
    (cl_cW : PySem.W.findIn K (.ref acW) "__class__" = some (some (.builtin "object.__class__")))
    (mo_cW : PySem.W.mroIn K acW (.type "object") = some true)
    (ty_cW : PySem.W.typeIn K (.ref acW) = some (.type "type"))
    (ei_cW : PySem.W.excIn K acW chainVE "ValueError.__new__" = true)
    (g_cK : PySem.W.nsIn K mainGlobals "InvalidWalk" = some (some (.ref acK)))
    (kp_cK : PySem.W.keepIn K (.ref acK) = true)
    (ga_cK : PySem.W.findIn K (.ref acK) "__getattribute__" = some (some (.builtin "BaseException.__getattribute__")))
    (gg_cK : PySem.W.findIn K (.ref acK) "__getattr__" = some none)
    (sb_cK : PySem.W.subIn K (.ref acK) (.type "BaseException") = some true)
    (hd_cK : PySem.W.hasDictIn K acK = true)
    (cl_cK : PySem.W.findIn K (.ref acK) "__class__" = some (some (.builtin "object.__class__")))
    (mo_cK : PySem.W.mroIn K acK (.type "object") = some true)
    (ty_cK : PySem.W.typeIn K (.ref acK) = some (.type "type"))
    (ei_cK : PySem.W.excIn K acK chainVE "ValueError.__new__" = true)
    (g_cT : PySem.W.nsIn K mainGlobals "InvalidTerm" = some (some (.ref acT)))
    (kp_cT : PySem.W.keepIn K (.ref acT) = true)
    (ga_cT : PySem.W.findIn K (.ref acT) "__getattribute__" = some (some (.builtin "BaseException.__getattribute__")))
    (gg_cT : PySem.W.findIn K (.ref acT) "__getattr__" = some none)
    (sb_cT : PySem.W.subIn K (.ref acT) (.type "BaseException") = some true)
    (hd_cT : PySem.W.hasDictIn K acT = true)
    (cl_cT : PySem.W.findIn K (.ref acT) "__class__" = some (some (.builtin "object.__class__")))
    (mo_cT : PySem.W.mroIn K acT (.type "object") = some true)
    (ty_cT : PySem.W.typeIn K (.ref acT) = some (.type "type"))
    (ei_cT : PySem.W.excIn K acT chainVE "ValueError.__new__" = true)
    (g_cQ : PySem.W.nsIn K mainGlobals "InvalidPaper" = some (some (.ref acQ)))
    (kp_cQ : PySem.W.keepIn K (.ref acQ) = true)
    (ga_cQ : PySem.W.findIn K (.ref acQ) "__getattribute__" = some (some (.builtin "BaseException.__getattribute__")))
    (gg_cQ : PySem.W.findIn K (.ref acQ) "__getattr__" = some none)
    (sb_cQ : PySem.W.subIn K (.ref acQ) (.type "BaseException") = some true)
    (hd_cQ : PySem.W.hasDictIn K acQ = true)
    (cl_cQ : PySem.W.findIn K (.ref acQ) "__class__" = some (some (.builtin "object.__class__")))
    (mo_cQ : PySem.W.mroIn K acQ (.type "object") = some true)
    (ty_cQ : PySem.W.typeIn K (.ref acQ) = some (.type "type"))
    (ei_cQ : PySem.W.excIn K acQ chainVE "ValueError.__new__" = true)
    (g_cO : PySem.W.nsIn K mainGlobals "InvalidOperation" = some (some (.ref acO)))
    (kp_cO : PySem.W.keepIn K (.ref acO) = true)
    (ga_cO : PySem.W.findIn K (.ref acO) "__getattribute__" = some (some (.builtin "BaseException.__getattribute__")))
    (gg_cO : PySem.W.findIn K (.ref acO) "__getattr__" = some none)
    (sb_cO : PySem.W.subIn K (.ref acO) (.type "BaseException") = some true)
    (hd_cO : PySem.W.hasDictIn K acO = true)
    (cl_cO : PySem.W.findIn K (.ref acO) "__class__" = some (some (.builtin "object.__class__")))
    (mo_cO : PySem.W.mroIn K acO (.type "object") = some true)
    (ty_cO : PySem.W.typeIn K (.ref acO) = some (.type "type"))
    (ei_cO : PySem.W.excIn K acO chainVE "ValueError.__new__" = true)
    (g_cX : PySem.W.nsIn K mainGlobals "ParseError" = some (some (.ref acX)))
    (kp_cX : PySem.W.keepIn K (.ref acX) = true)
    (ga_cX : PySem.W.findIn K (.ref acX) "__getattribute__" = some (some (.builtin "BaseException.__getattribute__")))
    (gg_cX : PySem.W.findIn K (.ref acX) "__getattr__" = some none)
    (sb_cX : PySem.W.subIn K (.ref acX) (.type "BaseException") = some true)
    (hd_cX : PySem.W.hasDictIn K acX = true)
    (cl_cX : PySem.W.findIn K (.ref acX) "__class__" = some (some (.builtin "object.__class__")))
    (mo_cX : PySem.W.mroIn K acX (.type "object") = some true)
    (ty_cX : PySem.W.typeIn K (.ref acX) = some (.type "type"))
    (g_cU : PySem.W.nsIn K mainGlobals "UnknownName" = some (some (.ref acU)))
    (kp_cU : PySem.W.keepIn K (.ref acU) = true)
    (ga_cU : PySem.W.findIn K (.ref acU) "__getattribute__" = some (some (.builtin "BaseException.__getattribute__")))
    (gg_cU : PySem.W.findIn K (.ref acU) "__getattr__" = some none)
    (sb_cU : PySem.W.subIn K (.ref acU) (.type "BaseException") = some true)
    (hd_cU : PySem.W.hasDictIn K acU = true)
    (cl_cU : PySem.W.findIn K (.ref acU) "__class__" = some (some (.builtin "object.__class__")))
    (mo_cU : PySem.W.mroIn K acU (.type "object") = some true)
    (ty_cU : PySem.W.typeIn K (.ref acU) = some (.type "type"))
    (g_cR : PySem.W.nsIn K mainGlobals "NoWalk" = some (some (.ref acR)))
    (kp_cR : PySem.W.keepIn K (.ref acR) = true)
    (ga_cR : PySem.W.findIn K (.ref acR) "__getattribute__" = some (some (.builtin "BaseException.__getattribute__")))
    (gg_cR : PySem.W.findIn K (.ref acR) "__getattr__" = some none)
    (sb_cR : PySem.W.subIn K (.ref acR) (.type "BaseException") = some true)
    (hd_cR : PySem.W.hasDictIn K acR = true)
    (cl_cR : PySem.W.findIn K (.ref acR) "__class__" = some (some (.builtin "object.__class__")))
    (mo_cR : PySem.W.mroIn K acR (.type "object") = some true)
    (ty_cR : PySem.W.typeIn K (.ref acR) = some (.type "type"))
    (g_cN : PySem.W.nsIn K mainGlobals "InvalidNumber" = some (some (.ref acN)))
    (kp_cN : PySem.W.keepIn K (.ref acN) = true)
    (ga_cN : PySem.W.findIn K (.ref acN) "__getattribute__" = some (some (.builtin "BaseException.__getattribute__")))
    (gg_cN : PySem.W.findIn K (.ref acN) "__getattr__" = some none)
    (sb_cN : PySem.W.subIn K (.ref acN) (.type "BaseException") = some true)
    (hd_cN : PySem.W.hasDictIn K acN = true)
    (cl_cN : PySem.W.findIn K (.ref acN) "__class__" = some (some (.builtin "object.__class__")))
    (mo_cN : PySem.W.mroIn K acN (.type "object") = some true)
    (ty_cN : PySem.W.typeIn K (.ref acN) = some (.type "type"))
    (g_cZ : PySem.W.nsIn K mainGlobals "NothingToUndo" = some (some (.ref acZ)))
    (kp_cZ : PySem.W.keepIn K (.ref acZ) = true)
    (ga_cZ : PySem.W.findIn K (.ref acZ) "__getattribute__" = some (some (.builtin "BaseException.__getattribute__")))
    (gg_cZ : PySem.W.findIn K (.ref acZ) "__getattr__" = some none)
    (sb_cZ : PySem.W.subIn K (.ref acZ) (.type "BaseException") = some true)
    (hd_cZ : PySem.W.hasDictIn K acZ = true)
    (cl_cZ : PySem.W.findIn K (.ref acZ) "__class__" = some (some (.builtin "object.__class__")))
    (mo_cZ : PySem.W.mroIn K acZ (.type "object") = some true)
    (ty_cZ : PySem.W.typeIn K (.ref acZ) = some (.type "type"))
    (g_cM : PySem.W.nsIn K mainGlobals "TooMany" = some (some (.ref acM)))
    (kp_cM : PySem.W.keepIn K (.ref acM) = true)
    (ga_cM : PySem.W.findIn K (.ref acM) "__getattribute__" = some (some (.builtin "BaseException.__getattribute__")))
    (gg_cM : PySem.W.findIn K (.ref acM) "__getattr__" = some none)
    (sb_cM : PySem.W.subIn K (.ref acM) (.type "BaseException") = some true)
    (hd_cM : PySem.W.hasDictIn K acM = true)
    (cl_cM : PySem.W.findIn K (.ref acM) "__class__" = some (some (.builtin "object.__class__")))
    (mo_cM : PySem.W.mroIn K acM (.type "object") = some true)
    (ty_cM : PySem.W.typeIn K (.ref acM) = some (.type "type"))
    (g_cC : PySem.W.nsIn K mainGlobals "NotLone" = some (some (.ref acC)))
    (kp_cC : PySem.W.keepIn K (.ref acC) = true)
    (ga_cC : PySem.W.findIn K (.ref acC) "__getattribute__" = some (some (.builtin "BaseException.__getattribute__")))
    (gg_cC : PySem.W.findIn K (.ref acC) "__getattr__" = some none)
    (sb_cC : PySem.W.subIn K (.ref acC) (.type "BaseException") = some true)
    (hd_cC : PySem.W.hasDictIn K acC = true)
    (cl_cC : PySem.W.findIn K (.ref acC) "__class__" = some (some (.builtin "object.__class__")))
    (mo_cC : PySem.W.mroIn K acC (.type "object") = some true)
    (ty_cC : PySem.W.typeIn K (.ref acC) = some (.type "type"))
    (g_cB : PySem.W.nsIn K mainGlobals "WebError" = some (some (.ref acB)))
    (kp_cB : PySem.W.keepIn K (.ref acB) = true)
    (ga_cB : PySem.W.findIn K (.ref acB) "__getattribute__" = some (some (.builtin "BaseException.__getattribute__")))
    (gg_cB : PySem.W.findIn K (.ref acB) "__getattr__" = some none)
    (sb_cB : PySem.W.subIn K (.ref acB) (.type "BaseException") = some true)
    (hd_cB : PySem.W.hasDictIn K acB = true)
    (cl_cB : PySem.W.findIn K (.ref acB) "__class__" = some (some (.builtin "object.__class__")))
    (mo_cB : PySem.W.mroIn K acB (.type "object") = some true)
    (ty_cB : PySem.W.typeIn K (.ref acB) = some (.type "type"))
    (ei_cB : PySem.W.excIn K acB chainVE "ValueError.__new__" = true)
    (oc_n : PySem.W.specialIn K (.builtin "object.__class__") "__get__" = some (some (.builtin "getset_descriptor.__get__")))
    (oc_t : PySem.W.takesIn K (.builtin "object.__class__") = some true)
    {nm_cX q_cX : Str} {N_cX : Addr} {bs_cX : List Value} {sn_cX : List Str} {su_cX : List Value} {ab_cX : Bool} {co_cX : Option Bool} {dd_cX : Option Addr} {x0_cX x1_cX x2_cX x3_cX x5_cX : Option Value}
    (xl_cX : K.lookup acX = some (excClassObj nm_cX q_cX acX N_cX bs_cX [.ref acB, .type "ValueError", .type "Exception", .type "BaseException", .type "object"] true sn_cX su_cX ab_cX co_cX dd_cX x0_cX x1_cX x2_cX x3_cX x5_cX "ValueError.__new__"))
    (sa_cX : PySem.W.findIn K (.ref acX) "__setattr__" = some (some (.builtin "object.__setattr__")))
    (no_cX : PySem.W.findIn K (.ref acX) "line" = some none)
    (in_cX : PySem.W.findIn K (.ref acX) "__init__" = some (some (.ref icX)))
    (it_cX : PySem.W.typeIn K (.ref icX) = some (.type "function"))
    {iod_cX ian_cX : Option Addr} {isl_cX : Array (Option Value)} {ioc_cX idc_cX ipm_cX icd_cX ict_cX : Value}
    (il_cX : K.lookup icX = some ⟨ioc_cX, iod_cX, .func (PySem.W.fnOf "__init__" "ParseError.__init__" (defArgs sInit_cX) (defBody sInit_cX) (defScope sInit_cX) .none .none idc_cX ipm_cX ian_cX icd_cX ict_cX), isl_cX⟩)
    (ic_cX : PySem.W.codeIn K icd_cX "ParseError.__init__" = true)
    {nm_cU q_cU : Str} {N_cU : Addr} {bs_cU : List Value} {sn_cU : List Str} {su_cU : List Value} {ab_cU : Bool} {co_cU : Option Bool} {dd_cU : Option Addr} {x0_cU x1_cU x2_cU x3_cU x5_cU : Option Value}
    (xl_cU : K.lookup acU = some (excClassObj nm_cU q_cU acU N_cU bs_cU [.type "KeyError", .type "LookupError", .type "Exception", .type "BaseException", .type "object"] true sn_cU su_cU ab_cU co_cU dd_cU x0_cU x1_cU x2_cU x3_cU x5_cU "LookupError.__new__"))
    (sa_cU : PySem.W.findIn K (.ref acU) "__setattr__" = some (some (.builtin "object.__setattr__")))
    (no_cU : PySem.W.findIn K (.ref acU) "word" = some none)
    (in_cU : PySem.W.findIn K (.ref acU) "__init__" = some (some (.ref icU)))
    (it_cU : PySem.W.typeIn K (.ref icU) = some (.type "function"))
    {iod_cU ian_cU : Option Addr} {isl_cU : Array (Option Value)} {ioc_cU idc_cU ipm_cU icd_cU ict_cU : Value}
    (il_cU : K.lookup icU = some ⟨ioc_cU, iod_cU, .func (PySem.W.fnOf "__init__" "UnknownName.__init__" (defArgs sInit_cU) (defBody sInit_cU) (defScope sInit_cU) .none .none idc_cU ipm_cU ian_cU icd_cU ict_cU), isl_cU⟩)
    (ic_cU : PySem.W.codeIn K icd_cU "UnknownName.__init__" = true)
    {nm_cR q_cR : Str} {N_cR : Addr} {bs_cR : List Value} {sn_cR : List Str} {su_cR : List Value} {ab_cR : Bool} {co_cR : Option Bool} {dd_cR : Option Addr} {x0_cR x1_cR x2_cR x3_cR x5_cR : Option Value}
    (xl_cR : K.lookup acR = some (excClassObj nm_cR q_cR acR N_cR bs_cR [.type "LookupError", .type "Exception", .type "BaseException", .type "object"] true sn_cR su_cR ab_cR co_cR dd_cR x0_cR x1_cR x2_cR x3_cR x5_cR "LookupError.__new__"))
    (sa_cR : PySem.W.findIn K (.ref acR) "__setattr__" = some (some (.builtin "object.__setattr__")))
    (no_cR : PySem.W.findIn K (.ref acR) "ends" = some none)
    (in_cR : PySem.W.findIn K (.ref acR) "__init__" = some (some (.ref icR)))
    (it_cR : PySem.W.typeIn K (.ref icR) = some (.type "function"))
    {iod_cR ian_cR : Option Addr} {isl_cR : Array (Option Value)} {ioc_cR idc_cR ipm_cR icd_cR ict_cR : Value}
    (il_cR : K.lookup icR = some ⟨ioc_cR, iod_cR, .func (PySem.W.fnOf "__init__" "NoWalk.__init__" (defArgs sInit_cR) (defBody sInit_cR) (defScope sInit_cR) .none .none idc_cR ipm_cR ian_cR icd_cR ict_cR), isl_cR⟩)
    (ic_cR : PySem.W.codeIn K icd_cR "NoWalk.__init__" = true)
    {nm_cN q_cN : Str} {N_cN : Addr} {bs_cN : List Value} {sn_cN : List Str} {su_cN : List Value} {ab_cN : Bool} {co_cN : Option Bool} {dd_cN : Option Addr} {x0_cN x1_cN x2_cN x3_cN x5_cN : Option Value}
    (xl_cN : K.lookup acN = some (excClassObj nm_cN q_cN acN N_cN bs_cN [.type "IndexError", .type "LookupError", .type "Exception", .type "BaseException", .type "object"] true sn_cN su_cN ab_cN co_cN dd_cN x0_cN x1_cN x2_cN x3_cN x5_cN "IndexError.__new__"))
    (sa_cN : PySem.W.findIn K (.ref acN) "__setattr__" = some (some (.builtin "object.__setattr__")))
    (no_cN : PySem.W.findIn K (.ref acN) "value" = some none)
    (in_cN : PySem.W.findIn K (.ref acN) "__init__" = some (some (.ref icN)))
    (it_cN : PySem.W.typeIn K (.ref icN) = some (.type "function"))
    {iod_cN ian_cN : Option Addr} {isl_cN : Array (Option Value)} {ioc_cN idc_cN ipm_cN icd_cN ict_cN : Value}
    (il_cN : K.lookup icN = some ⟨ioc_cN, iod_cN, .func (PySem.W.fnOf "__init__" "InvalidNumber.__init__" (defArgs sInit_cN) (defBody sInit_cN) (defScope sInit_cN) .none .none idc_cN ipm_cN ian_cN icd_cN ict_cN), isl_cN⟩)
    (ic_cN : PySem.W.codeIn K icd_cN "InvalidNumber.__init__" = true)
    {nm_cZ q_cZ : Str} {N_cZ : Addr} {bs_cZ : List Value} {sn_cZ : List Str} {su_cZ : List Value} {ab_cZ : Bool} {co_cZ : Option Bool} {dd_cZ : Option Addr} {x0_cZ x1_cZ x2_cZ x3_cZ x5_cZ : Option Value}
    (xl_cZ : K.lookup acZ = some (excClassObj nm_cZ q_cZ acZ N_cZ bs_cZ [.type "RuntimeError", .type "Exception", .type "BaseException", .type "object"] true sn_cZ su_cZ ab_cZ co_cZ dd_cZ x0_cZ x1_cZ x2_cZ x3_cZ x5_cZ "RuntimeError.__new__"))
    (sa_cZ : PySem.W.findIn K (.ref acZ) "__setattr__" = some (some (.builtin "object.__setattr__")))
    (no_cZ : PySem.W.findIn K (.ref acZ) "many" = some none)
    (in_cZ : PySem.W.findIn K (.ref acZ) "__init__" = some (some (.ref icZ)))
    (it_cZ : PySem.W.typeIn K (.ref icZ) = some (.type "function"))
    {iod_cZ ian_cZ : Option Addr} {isl_cZ : Array (Option Value)} {ioc_cZ idc_cZ ipm_cZ icd_cZ ict_cZ : Value}
    (il_cZ : K.lookup icZ = some ⟨ioc_cZ, iod_cZ, .func (PySem.W.fnOf "__init__" "NothingToUndo.__init__" (defArgs sInit_cZ) (defBody sInit_cZ) (defScope sInit_cZ) .none .none idc_cZ ipm_cZ ian_cZ icd_cZ ict_cZ), isl_cZ⟩)
    (ic_cZ : PySem.W.codeIn K icd_cZ "NothingToUndo.__init__" = true)
    {nm_cM q_cM : Str} {N_cM : Addr} {bs_cM : List Value} {sn_cM : List Str} {su_cM : List Value} {ab_cM : Bool} {co_cM : Option Bool} {dd_cM : Option Addr} {x0_cM x1_cM x2_cM x3_cM x5_cM : Option Value}
    (xl_cM : K.lookup acM = some (excClassObj nm_cM q_cM acM N_cM bs_cM [.type "OverflowError", .type "ArithmeticError", .type "Exception", .type "BaseException", .type "object"] true sn_cM su_cM ab_cM co_cM dd_cM x0_cM x1_cM x2_cM x3_cM x5_cM "OverflowError.__new__"))
    (sa_cM : PySem.W.findIn K (.ref acM) "__setattr__" = some (some (.builtin "object.__setattr__")))
    (no_cM : PySem.W.findIn K (.ref acM) "limit" = some none)
    (in_cM : PySem.W.findIn K (.ref acM) "__init__" = some (some (.ref icM)))
    (it_cM : PySem.W.typeIn K (.ref icM) = some (.type "function"))
    {iod_cM ian_cM : Option Addr} {isl_cM : Array (Option Value)} {ioc_cM idc_cM ipm_cM icd_cM ict_cM : Value}
    (il_cM : K.lookup icM = some ⟨ioc_cM, iod_cM, .func (PySem.W.fnOf "__init__" "TooMany.__init__" (defArgs sInit_cM) (defBody sInit_cM) (defScope sInit_cM) .none .none idc_cM ipm_cM ian_cM icd_cM ict_cM), isl_cM⟩)
    (ic_cM : PySem.W.codeIn K icd_cM "TooMany.__init__" = true)
    {nm_cC q_cC : Str} {N_cC : Addr} {bs_cC : List Value} {sn_cC : List Str} {su_cC : List Value} {ab_cC : Bool} {co_cC : Option Bool} {dd_cC : Option Addr} {x0_cC x1_cC x2_cC x3_cC x5_cC : Option Value}
    (xl_cC : K.lookup acC = some (excClassObj nm_cC q_cC acC N_cC bs_cC [.type "ArithmeticError", .type "Exception", .type "BaseException", .type "object"] true sn_cC su_cC ab_cC co_cC dd_cC x0_cC x1_cC x2_cC x3_cC x5_cC "ArithmeticError.__new__"))
    (sa_cC : PySem.W.findIn K (.ref acC) "__setattr__" = some (some (.builtin "object.__setattr__")))
    (no_cC : PySem.W.findIn K (.ref acC) "reason" = some none)
    (in_cC : PySem.W.findIn K (.ref acC) "__init__" = some (some (.ref icC)))
    (it_cC : PySem.W.typeIn K (.ref icC) = some (.type "function"))
    {iod_cC ian_cC : Option Addr} {isl_cC : Array (Option Value)} {ioc_cC idc_cC ipm_cC icd_cC ict_cC : Value}
    (il_cC : K.lookup icC = some ⟨ioc_cC, iod_cC, .func (PySem.W.fnOf "__init__" "NotLone.__init__" (defArgs sInit_cC) (defBody sInit_cC) (defScope sInit_cC) .none .none idc_cC ipm_cC ian_cC icd_cC ict_cC), isl_cC⟩)
    (ic_cC : PySem.W.codeIn K icd_cC "NotLone.__init__" = true)
    (kt_cW : kitsOk K ⟨acW, acK, acT, acQ, acO, acX, acU, acR, acN, acZ, acM, acC, acB⟩ acW bits_cW = true)
    (kt_cK : kitsOk K ⟨acW, acK, acT, acQ, acO, acX, acU, acR, acN, acZ, acM, acC, acB⟩ acK bits_cK = true)
    (kt_cT : kitsOk K ⟨acW, acK, acT, acQ, acO, acX, acU, acR, acN, acZ, acM, acC, acB⟩ acT bits_cT = true)
    (kt_cQ : kitsOk K ⟨acW, acK, acT, acQ, acO, acX, acU, acR, acN, acZ, acM, acC, acB⟩ acQ bits_cQ = true)
    (kt_cO : kitsOk K ⟨acW, acK, acT, acQ, acO, acX, acU, acR, acN, acZ, acM, acC, acB⟩ acO bits_cO = true)
    (kt_cX : kitsOk K ⟨acW, acK, acT, acQ, acO, acX, acU, acR, acN, acZ, acM, acC, acB⟩ acX bits_cX = true)
    (kt_cU : kitsOk K ⟨acW, acK, acT, acQ, acO, acX, acU, acR, acN, acZ, acM, acC, acB⟩ acU bits_cU = true)
    (kt_cR : kitsOk K ⟨acW, acK, acT, acQ, acO, acX, acU, acR, acN, acZ, acM, acC, acB⟩ acR bits_cR = true)
    (kt_cN : kitsOk K ⟨acW, acK, acT, acQ, acO, acX, acU, acR, acN, acZ, acM, acC, acB⟩ acN bits_cN = true)
    (kt_cZ : kitsOk K ⟨acW, acK, acT, acQ, acO, acX, acU, acR, acN, acZ, acM, acC, acB⟩ acZ bits_cZ = true)
    (kt_cM : kitsOk K ⟨acW, acK, acT, acQ, acO, acX, acU, acR, acN, acZ, acM, acC, acB⟩ acM bits_cM = true)
    (kt_cC : kitsOk K ⟨acW, acK, acT, acQ, acO, acX, acU, acR, acN, acZ, acM, acC, acB⟩ acC bits_cC = true)
    (kt_cB : kitsOk K ⟨acW, acK, acT, acQ, acO, acX, acU, acR, acN, acZ, acM, acC, acB⟩ acB bits_cB = true)
    (u_tb : PySem.W.subIn K (.ref acT) (.ref acB) = some true)
    (u_cb : PySem.W.subIn K (.ref acC) (.ref acB) = some false)
    (u_cc : PySem.W.subIn K (.ref acC) (.ref acC) = some true)
    (u_rb : PySem.W.subIn K (.ref acR) (.ref acB) = some false)
    (u_rc : PySem.W.subIn K (.ref acR) (.ref acC) = some false)
    (u_rr : PySem.W.subIn K (.ref acR) (.ref acR) = some true)
    : ∃ fd : FuncData, (∀ (s : Shared) (v : Value), BindsTo s fd ⟨[v], []⟩ [("script", v)]) ∧ ∀ base : Heap, K.In base → base.Ns mainGlobals mg → (∃ mm, base.Ns sysModules mm) →
      FnG l.prog w K mg base CX0 6 fa fd ["script"] (spLaw K) := by
  have e := hfa.symm.trans (PySem.W.mg_of X G a9)
  cases e
  have F__law_dice := fun_mk (st := sDice) l0 c0 k0
  have b__law_dice := F__law_dice.binds (ps := ["script", "spot"]) fun _ _ _ _ _ _ us hl => match us, hl with | [_, _], _ => rfl
  have g__law_dice := PySem.W.mg_of X G a0
  have F__law_roll := fun_mk (st := sRoll) l1 c1 k1
  have b__law_roll := F__law_roll.binds (ps := ["dice", "total"]) fun _ _ _ _ _ _ us hl => match us, hl with | [_, _], _ => rfl
  have g__law_roll := PySem.W.mg_of X G a1
  have F__law_pick := fun_mk (st := sPick) l2 c2 k2
  have b__law_pick := F__law_pick.binds (ps := ["dice", "items"]) fun _ _ _ _ _ _ us hl => match us, hl with | [_, _], _ => rfl
  have g__law_pick := PySem.W.mg_of X G a2
  have F__law_own := fun_mk (st := sOwn) l3 c3 k3
  have b__law_own := F__law_own.binds (ps := ["error"]) fun _ _ _ _ _ _ us hl => match us, hl with | [_], _ => rfl
  have g__law_own := PySem.W.mg_of X G a3
  have F__law_all := fun_mk (st := sAll) l4 c4 k4
  have b__law_all := F__law_all.binds (ps := ["error"]) fun _ _ _ _ _ _ us hl => match us, hl with | [_], _ => rfl
  have g__law_all := PySem.W.mg_of X G a4
  have F__law_messages := fun_mk (st := sMsg) l5 c5 k5
  have b__law_messages := F__law_messages.binds (ps := []) fun _ _ _ _ _ _ us hl => match us, hl with | [], _ => rfl
  have g__law_messages := PySem.W.mg_of X G a5
  have F__law_kept := fun_mk (st := sKept) l6 c6 k6
  have b__law_kept := F__law_kept.binds (ps := ["told", "index"]) fun _ _ _ _ _ _ us hl => match us, hl with | [_, _], _ => rfl
  have g__law_kept := PySem.W.mg_of X G a6
  have F__law_caught := fun_mk (st := sCaught) l7 c7 k7
  have b__law_caught := F__law_caught.binds (ps := ["told", "way"]) fun _ _ _ _ _ _ us hl => match us, hl with | [_, _], _ => rfl
  have g__law_caught := PySem.W.mg_of X G a7
  have F__law_right := fun_mk (st := sRight) l8 c8 k8
  have b__law_right := F__law_right.binds (ps := ["told", "index"]) fun _ _ _ _ _ _ us hl => match us, hl with | [_, _], _ => rfl
  have g__law_right := PySem.W.mg_of X G a8
  have F_law := fun_mk (st := sLaw) l9 c9 k9
  have m_int := PySem.W.mg_none_of X G z_int
  have m_isinstance := PySem.W.mg_none_of X G z_isinstance
  have m_len := PySem.W.mg_none_of X G z_len
  have m_max := PySem.W.mg_none_of X G z_max
  have m_min := PySem.W.mg_none_of X G z_min
  have m_abs := PySem.W.mg_none_of X G z_abs
  have m_range := PySem.W.mg_none_of X G z_range
  have m_repr := PySem.W.mg_none_of X G z_repr
  have m_ValueError := PySem.W.mg_none_of X G z_ValueError
  have m_KeyError := PySem.W.mg_none_of X G z_KeyError
  have m_IndexError := PySem.W.mg_none_of X G z_IndexError
  have m_LookupError := PySem.W.mg_none_of X G z_LookupError
  have m_RuntimeError := PySem.W.mg_none_of X G z_RuntimeError
  have m_OverflowError := PySem.W.mg_none_of X G z_OverflowError
  have m_ArithmeticError := PySem.W.mg_none_of X G z_ArithmeticError
  have mg_cW := PySem.W.mg_of X G g_cW
  have ex_cW : ExcC K acW := ⟨ga_cW, gg_cW, sb_cW, hd_cW, cl_cW, oc_n, oc_t, mo_cW⟩
  have mg_cK := PySem.W.mg_of X G g_cK
  have ex_cK : ExcC K acK := ⟨ga_cK, gg_cK, sb_cK, hd_cK, cl_cK, oc_n, oc_t, mo_cK⟩
  have mg_cT := PySem.W.mg_of X G g_cT
  have ex_cT : ExcC K acT := ⟨ga_cT, gg_cT, sb_cT, hd_cT, cl_cT, oc_n, oc_t, mo_cT⟩
  have mg_cQ := PySem.W.mg_of X G g_cQ
  have ex_cQ : ExcC K acQ := ⟨ga_cQ, gg_cQ, sb_cQ, hd_cQ, cl_cQ, oc_n, oc_t, mo_cQ⟩
  have mg_cO := PySem.W.mg_of X G g_cO
  have ex_cO : ExcC K acO := ⟨ga_cO, gg_cO, sb_cO, hd_cO, cl_cO, oc_n, oc_t, mo_cO⟩
  have mg_cX := PySem.W.mg_of X G g_cX
  have ex_cX : ExcC K acX := ⟨ga_cX, gg_cX, sb_cX, hd_cX, cl_cX, oc_n, oc_t, mo_cX⟩
  have mg_cU := PySem.W.mg_of X G g_cU
  have ex_cU : ExcC K acU := ⟨ga_cU, gg_cU, sb_cU, hd_cU, cl_cU, oc_n, oc_t, mo_cU⟩
  have mg_cR := PySem.W.mg_of X G g_cR
  have ex_cR : ExcC K acR := ⟨ga_cR, gg_cR, sb_cR, hd_cR, cl_cR, oc_n, oc_t, mo_cR⟩
  have mg_cN := PySem.W.mg_of X G g_cN
  have ex_cN : ExcC K acN := ⟨ga_cN, gg_cN, sb_cN, hd_cN, cl_cN, oc_n, oc_t, mo_cN⟩
  have mg_cZ := PySem.W.mg_of X G g_cZ
  have ex_cZ : ExcC K acZ := ⟨ga_cZ, gg_cZ, sb_cZ, hd_cZ, cl_cZ, oc_n, oc_t, mo_cZ⟩
  have mg_cM := PySem.W.mg_of X G g_cM
  have ex_cM : ExcC K acM := ⟨ga_cM, gg_cM, sb_cM, hd_cM, cl_cM, oc_n, oc_t, mo_cM⟩
  have mg_cC := PySem.W.mg_of X G g_cC
  have ex_cC : ExcC K acC := ⟨ga_cC, gg_cC, sb_cC, hd_cC, cl_cC, oc_n, oc_t, mo_cC⟩
  have mg_cB := PySem.W.mg_of X G g_cB
  have ex_cB : ExcC K acB := ⟨ga_cB, gg_cB, sb_cB, hd_cB, cl_cB, oc_n, oc_t, mo_cB⟩
  have T_cX : PySem.GX.OwnY K "line" [.type "ValueError", .type "Exception", .type "BaseException", .type "object"] "ValueError" "ValueError.__new__" acX icX := ⟨⟨_, _, _, _, _, _, _, _, _, _, _, _, _, _, _, xl_cX, by first | rfl | decide +kernel, ⟨by first | rfl | decide +kernel, by first | rfl | decide +kernel, by first | rfl | decide +kernel⟩⟩, sa_cX, no_cX, in_cX, it_cX⟩
  have M_cX := PySem.GX.makesY PySem.F.excBase_ValueError T_cX (init_cX T_cX il_cX ic_cX)
  have T_cU : PySem.GX.OwnY K "word" [.type "KeyError", .type "LookupError", .type "Exception", .type "BaseException", .type "object"] "LookupError" "LookupError.__new__" acU icU := ⟨⟨_, _, _, _, _, _, _, _, _, _, _, _, _, _, _, xl_cU, by first | rfl | decide +kernel, ⟨by first | rfl | decide +kernel, by first | rfl | decide +kernel, by first | rfl | decide +kernel⟩⟩, sa_cU, no_cU, in_cU, it_cU⟩
  have M_cU := PySem.GX.makesY PySem.F.excBase_LookupError T_cU (init_cU T_cU il_cU ic_cU)
  have T_cR : PySem.GX.OwnY K "ends" [.type "LookupError", .type "Exception", .type "BaseException", .type "object"] "LookupError" "LookupError.__new__" acR icR := ⟨⟨_, _, _, _, _, _, _, _, _, _, _, _, _, _, _, xl_cR, by first | rfl | decide +kernel, ⟨by first | rfl | decide +kernel, by first | rfl | decide +kernel, by first | rfl | decide +kernel⟩⟩, sa_cR, no_cR, in_cR, it_cR⟩
  have M_cR := PySem.GX.makesY PySem.F.excBase_LookupError T_cR (init_cR T_cR il_cR ic_cR)
  have T_cN : PySem.GX.OwnY K "value" [.type "IndexError", .type "LookupError", .type "Exception", .type "BaseException", .type "object"] "IndexError" "IndexError.__new__" acN icN := ⟨⟨_, _, _, _, _, _, _, _, _, _, _, _, _, _, _, xl_cN, by first | rfl | decide +kernel, ⟨by first | rfl | decide +kernel, by first | rfl | decide +kernel, by first | rfl | decide +kernel⟩⟩, sa_cN, no_cN, in_cN, it_cN⟩
  have M_cN := PySem.GX.makesY PySem.F.excBase_IndexError T_cN (init_cN T_cN il_cN ic_cN)
  have T_cZ : PySem.GX.OwnY K "many" [.type "RuntimeError", .type "Exception", .type "BaseException", .type "object"] "RuntimeError" "RuntimeError.__new__" acZ icZ := ⟨⟨_, _, _, _, _, _, _, _, _, _, _, _, _, _, _, xl_cZ, by first | rfl | decide +kernel, ⟨by first | rfl | decide +kernel, by first | rfl | decide +kernel, by first | rfl | decide +kernel⟩⟩, sa_cZ, no_cZ, in_cZ, it_cZ⟩
  have M_cZ := PySem.GX.makesY PySem.F.excBase_RuntimeError T_cZ (init_cZ T_cZ il_cZ ic_cZ)
  have T_cM : PySem.GX.OwnY K "limit" [.type "OverflowError", .type "ArithmeticError", .type "Exception", .type "BaseException", .type "object"] "OverflowError" "OverflowError.__new__" acM icM := ⟨⟨_, _, _, _, _, _, _, _, _, _, _, _, _, _, _, xl_cM, by first | rfl | decide +kernel, ⟨by first | rfl | decide +kernel, by first | rfl | decide +kernel, by first | rfl | decide +kernel⟩⟩, sa_cM, no_cM, in_cM, it_cM⟩
  have M_cM := PySem.GX.makesY PySem.F.excBase_OverflowError T_cM (init_cM T_cM il_cM ic_cM)
  have T_cC : PySem.GX.OwnY K "reason" [.type "ArithmeticError", .type "Exception", .type "BaseException", .type "object"] "ArithmeticError" "ArithmeticError.__new__" acC icC := ⟨⟨_, _, _, _, _, _, _, _, _, _, _, _, _, _, _, xl_cC, by first | rfl | decide +kernel, ⟨by first | rfl | decide +kernel, by first | rfl | decide +kernel, by first | rfl | decide +kernel⟩⟩, sa_cC, no_cC, in_cC, it_cC⟩
  have M_cC := PySem.GX.makesY PySem.F.excBase_ArithmeticError T_cC (init_cC T_cC il_cC ic_cC)
  have T : Txt K mg ⟨acW, acK, acT, acQ, acO, acX, acU, acR, acN, acZ, acM, acC, acB⟩ := {
    g_cW := mg_cW, k_cW := kp_cW, n_cW := knows_of ex_cW kt_cW,
    x_cW := ei_cW,
    g_cK := mg_cK, k_cK := kp_cK, n_cK := knows_of ex_cK kt_cK,
    x_cK := ei_cK,
    g_cT := mg_cT, k_cT := kp_cT, n_cT := knows_of ex_cT kt_cT,
    x_cT := ei_cT,
    g_cQ := mg_cQ, k_cQ := kp_cQ, n_cQ := knows_of ex_cQ kt_cQ,
    x_cQ := ei_cQ,
    g_cO := mg_cO, k_cO := kp_cO, n_cO := knows_of ex_cO kt_cO,
    x_cO := ei_cO,
    g_cX := mg_cX, k_cX := kp_cX, n_cX := knows_of ex_cX kt_cX,
    m_cX := M_cX, f_cX := ⟨ga_cX, gg_cX, sb_cX, hd_cX, no_cX⟩,
    g_cU := mg_cU, k_cU := kp_cU, n_cU := knows_of ex_cU kt_cU,
    m_cU := M_cU, f_cU := ⟨ga_cU, gg_cU, sb_cU, hd_cU, no_cU⟩,
    g_cR := mg_cR, k_cR := kp_cR, n_cR := knows_of ex_cR kt_cR,
    m_cR := M_cR, f_cR := ⟨ga_cR, gg_cR, sb_cR, hd_cR, no_cR⟩,
    g_cN := mg_cN, k_cN := kp_cN, n_cN := knows_of ex_cN kt_cN,
    m_cN := M_cN, f_cN := ⟨ga_cN, gg_cN, sb_cN, hd_cN, no_cN⟩,
    g_cZ := mg_cZ, k_cZ := kp_cZ, n_cZ := knows_of ex_cZ kt_cZ,
    m_cZ := M_cZ, f_cZ := ⟨ga_cZ, gg_cZ, sb_cZ, hd_cZ, no_cZ⟩,
    g_cM := mg_cM, k_cM := kp_cM, n_cM := knows_of ex_cM kt_cM,
    m_cM := M_cM, f_cM := ⟨ga_cM, gg_cM, sb_cM, hd_cM, no_cM⟩,
    g_cC := mg_cC, k_cC := kp_cC, n_cC := knows_of ex_cC kt_cC,
    m_cC := M_cC, f_cC := ⟨ga_cC, gg_cC, sb_cC, hd_cC, no_cC⟩,
    g_cB := mg_cB, k_cB := kp_cB, n_cB := knows_of ex_cB kt_cB,
    x_cB := ei_cB }
  have U : TxtE K ⟨acW, acK, acT, acQ, acO, acX, acU, acR, acN, acZ, acM, acC, acB⟩ := ⟨PySem.W.exm_ref sb_cB hd_cB ty_cB u_tb, PySem.W.exm_ref sb_cB hd_cB ty_cB u_cb, PySem.W.exm_ref sb_cC hd_cC ty_cC u_cc, PySem.W.exm_ref sb_cB hd_cB ty_cB u_rb, PySem.W.exm_ref sb_cC hd_cC ty_cC u_rc, PySem.W.exm_ref sb_cR hd_cR ty_cR u_rr, sb_cT, sb_cC, sb_cR, ty_cT, ty_cC, ty_cR⟩
  refine ⟨PySem.W.fnOf "law" "law" (defArgs sLaw) (defBody sLaw) (defScope sLaw) .none kV9 dc9 pm9 an9 cd9 ct9, fun s v => .of_eq rfl, fun base _ _ sm => ?_⟩
  have GD : FnOk l.prog w K mg base CX0 1 _ _ ["script", "spot"] (spDice K) := ok_dice F__law_dice m_len m_int m_max m_abs
  have GR : FnOk l.prog w K mg base CX0 1 _ _ ["dice", "total"] spRoll := ok_roll F__law_roll m_int
  have GK : FnOk l.prog w K mg base CX0 2 _ _ ["dice", "items"] (spPick K) := ok_pick F__law_pick F__law_roll b__law_roll g__law_roll m_len m_int
  have GO : FnOk l.prog w K mg base CX0 1 _ _ ["error"] (spOwn K (⟨acW, acK, acT, acQ, acO, acX, acU, acR, acN, acZ, acM, acC, acB⟩ : Cs)) := ok_own (⟨acW, acK, acT, acQ, acO, acX, acU, acR, acN, acZ, acM, acC, acB⟩ : Cs) F__law_own m_int m_isinstance mg_cW mg_cK mg_cT mg_cQ mg_cO mg_cX mg_cU mg_cR mg_cN mg_cZ mg_cM mg_cC
  have GA : FnOk l.prog w K mg base CX0 2 _ _ ["error"] (spAll K (⟨acW, acK, acT, acQ, acO, acX, acU, acR, acN, acZ, acM, acC, acB⟩ : Cs)) := ok_all (⟨acW, acK, acT, acQ, acO, acX, acU, acR, acN, acZ, acM, acC, acB⟩ : Cs) F__law_all b__law_own GO g__law_own F__law_own.kp m_int m_isinstance mg_cB m_ValueError m_KeyError m_IndexError m_LookupError m_RuntimeError m_OverflowError m_ArithmeticError
  have GM : FnOk l.prog w K mg base CX0 3 _ _ [] spMsg := ok_msg (⟨acW, acK, acT, acQ, acO, acX, acU, acR, acN, acZ, acM, acC, acB⟩ : Cs) T F__law_messages b__law_all GA g__law_all F__law_all.kp
  have GP : FnOk l.prog w K mg base CX0 3 _ _ ["told", "index"] spKept := ok_kept (k := 1) (⟨acW, acK, acT, acQ, acO, acX, acU, acR, acN, acZ, acM, acC, acB⟩ : Cs) T F__law_kept b__law_all GA g__law_all F__law_all.kp
  have GC : FnG l.prog w K mg base CX0 4 _ _ ["told", "way"] spCaught := ok_caught (⟨acW, acK, acT, acQ, acO, acX, acU, acR, acN, acZ, acM, acC, acB⟩ : Cs) T U F__law_caught b__law_own (fun a oe cls d hz hf => ok_ownP (⟨acW, acK, acT, acQ, acO, acX, acU, acR, acN, acZ, acM, acC, acB⟩ : Cs) F__law_own m_int m_isinstance mg_cW mg_cK mg_cT mg_cQ mg_cO mg_cX mg_cU mg_cR mg_cN mg_cZ mg_cM mg_cC hz hf) g__law_own F__law_own.kp m_repr sm
  have GRi := ok_right F__law_right b__law_messages b__law_kept b__law_caught GM (GP.mono (by decide)) GC g__law_messages g__law_kept g__law_caught F__law_messages.kp F__law_kept.kp F__law_caught.kp m_repr m_range sm
  exact ok_law F_law b__law_dice b__law_roll b__law_pick b__law_right GD GR GK GRi g__law_dice g__law_roll g__law_pick g__law_right F__law_dice.kp F__law_roll.kp F__law_pick.kp F__law_right.kp m_range m_max m_min m_len
end K01

set_option maxHeartbeats 4000000
open PySem PySem.W PyProof.Rows
set_option maxHeartbeats 0 in
theorem PySem.Challenge.cw_onebetween_k01_errors_and_what_they_keep_holds : PySem.Challenge.rw_onebetween_k01_errors_and_what_they_keep.Holds := by
  w_on; o_law; k_head; (case hw => w_witness2)
  k_fill
  refine GG.walkS (l := PySem.Challenge.rw_onebetween_k01_errors_and_what_they_keep) (n := 63) (k := 6) (x := "script") (CX := fun _ => L2.CX0) (sp := fun w => K01.spLaw _) (by first | kernel_rfl | decide +kernel) rfl (by decide) rfl ⟨rfl, by decide, by decide⟩ (fun w h Y => PySem.W.kIn_of Y) ?F (fun _ _ a ns hl _ hS => ⟨a, ns, rfl, hS, hl, fun _ => rfl⟩) (fun _ _ _ _ _ h => h)
  case F =>
    intro w mg fa h KX G hmg
    refine' K01.all_mk KX G hmg ?a0 ?l0 ?c0 ?k0 ?a1 ?l1 ?c1 ?k1 ?a2 ?l2 ?c2 ?k2 ?a3 ?l3 ?c3 ?k3 ?a4 ?l4 ?c4 ?k4 ?a5 ?l5 ?c5 ?k5 ?a6 ?l6 ?c6 ?k6 ?a7 ?l7 ?c7 ?k7 ?a8 ?l8 ?c8 ?k8 ?a9 ?l9 ?c9 ?k9 ?z_int ?z_isinstance ?z_len ?z_max ?z_min ?z_abs ?z_range ?z_repr ?z_ValueError ?z_KeyError ?z_IndexError ?z_LookupError ?z_RuntimeError ?z_OverflowError ?z_ArithmeticError ?g_cW ?kp_cW ?ga_cW ?gg_cW ?sb_cW ?hd_cW ?cl_cW ?mo_cW ?ty_cW ?ei_cW ?g_cK ?kp_cK ?ga_cK ?gg_cK ?sb_cK ?hd_cK ?cl_cK ?mo_cK ?ty_cK ?ei_cK ?g_cT ?kp_cT ?ga_cT ?gg_cT ?sb_cT ?hd_cT ?cl_cT ?mo_cT ?ty_cT ?ei_cT ?g_cQ ?kp_cQ ?ga_cQ ?gg_cQ ?sb_cQ ?hd_cQ ?cl_cQ ?mo_cQ ?ty_cQ ?ei_cQ ?g_cO ?kp_cO ?ga_cO ?gg_cO ?sb_cO ?hd_cO ?cl_cO ?mo_cO ?ty_cO ?ei_cO ?g_cX ?kp_cX ?ga_cX ?gg_cX ?sb_cX ?hd_cX ?cl_cX ?mo_cX ?ty_cX ?g_cU ?kp_cU ?ga_cU ?gg_cU ?sb_cU ?hd_cU ?cl_cU ?mo_cU ?ty_cU ?g_cR ?kp_cR ?ga_cR ?gg_cR ?sb_cR ?hd_cR ?cl_cR ?mo_cR ?ty_cR ?g_cN ?kp_cN ?ga_cN ?gg_cN ?sb_cN ?hd_cN ?cl_cN ?mo_cN ?ty_cN ?g_cZ ?kp_cZ ?ga_cZ ?gg_cZ ?sb_cZ ?hd_cZ ?cl_cZ ?mo_cZ ?ty_cZ ?g_cM ?kp_cM ?ga_cM ?gg_cM ?sb_cM ?hd_cM ?cl_cM ?mo_cM ?ty_cM ?g_cC ?kp_cC ?ga_cC ?gg_cC ?sb_cC ?hd_cC ?cl_cC ?mo_cC ?ty_cC ?g_cB ?kp_cB ?ga_cB ?gg_cB ?sb_cB ?hd_cB ?cl_cB ?mo_cB ?ty_cB ?ei_cB ?oc_n ?oc_t ?xl_cX ?sa_cX ?no_cX ?in_cX ?it_cX ?il_cX ?ic_cX ?xl_cU ?sa_cU ?no_cU ?in_cU ?it_cU ?il_cU ?ic_cU ?xl_cR ?sa_cR ?no_cR ?in_cR ?it_cR ?il_cR ?ic_cR ?xl_cN ?sa_cN ?no_cN ?in_cN ?it_cN ?il_cN ?ic_cN ?xl_cZ ?sa_cZ ?no_cZ ?in_cZ ?it_cZ ?il_cZ ?ic_cZ ?xl_cM ?sa_cM ?no_cM ?in_cM ?it_cM ?il_cM ?ic_cM ?xl_cC ?sa_cC ?no_cC ?in_cC ?it_cC ?il_cC ?ic_cC ?kt_cW ?kt_cK ?kt_cT ?kt_cQ ?kt_cO ?kt_cX ?kt_cU ?kt_cR ?kt_cN ?kt_cZ ?kt_cM ?kt_cC ?kt_cB ?u_tb ?u_cb ?u_cc ?u_rb ?u_rc ?u_rr
    (case a0 => k_is)
    (case l0 => k_is)
    (case c0 => k_is)
    (case k0 => k_is)
    (case a1 => k_is)
    (case l1 => k_is)
    (case c1 => k_is)
    (case k1 => k_is)
    (case a2 => k_is)
    (case l2 => k_is)
    (case c2 => k_is)
    (case k2 => k_is)
    (case a3 => k_is)
    (case l3 => k_is)
    (case c3 => k_is)
    (case k3 => k_is)
    (case a4 => k_is)
    (case l4 => k_is)
    (case c4 => k_is)
    (case k4 => k_is)
    (case a5 => k_is)
    (case l5 => k_is)
    (case c5 => k_is)
    (case k5 => k_is)
    (case a6 => k_is)
    (case l6 => k_is)
    (case c6 => k_is)
    (case k6 => k_is)
    (case a7 => k_is)
    (case l7 => k_is)
    (case c7 => k_is)
    (case k7 => k_is)
    (case a8 => k_is)
    (case l8 => k_is)
    (case c8 => k_is)
    (case k8 => k_is)
    (case a9 => k_is)
    (case l9 => k_is)
    (case c9 => k_is)
    (case k9 => k_is)
    (case z_int => k_is)
    (case z_isinstance => k_is)
    (case z_len => k_is)
    (case z_max => k_is)
    (case z_min => k_is)
    (case z_abs => k_is)
    (case z_range => k_is)
    (case z_repr => k_is)
    (case z_ValueError => k_is)
    (case z_KeyError => k_is)
    (case z_IndexError => k_is)
    (case z_LookupError => k_is)
    (case z_RuntimeError => k_is)
    (case z_OverflowError => k_is)
    (case z_ArithmeticError => k_is)
    (case g_cW => k_is)
    (case kp_cW => k_is)
    (case ga_cW => k_is)
    (case gg_cW => k_is)
    (case sb_cW => k_is)
    (case hd_cW => k_is)
    (case cl_cW => k_is)
    (case mo_cW => k_is)
    (case ty_cW => k_is)
    (case ei_cW => k_exc)
    (case g_cK => k_is)
    (case kp_cK => k_is)
    (case ga_cK => k_is)
    (case gg_cK => k_is)
    (case sb_cK => k_is)
    (case hd_cK => k_is)
    (case cl_cK => k_is)
    (case mo_cK => k_is)
    (case ty_cK => k_is)
    (case ei_cK => k_exc)
    (case g_cT => k_is)
    (case kp_cT => k_is)
    (case ga_cT => k_is)
    (case gg_cT => k_is)
    (case sb_cT => k_is)
    (case hd_cT => k_is)
    (case cl_cT => k_is)
    (case mo_cT => k_is)
    (case ty_cT => k_is)
    (case ei_cT => k_exc)
    (case g_cQ => k_is)
    (case kp_cQ => k_is)
    (case ga_cQ => k_is)
    (case gg_cQ => k_is)
    (case sb_cQ => k_is)
    (case hd_cQ => k_is)
    (case cl_cQ => k_is)
    (case mo_cQ => k_is)
    (case ty_cQ => k_is)
    (case ei_cQ => k_exc)
    (case g_cO => k_is)
    (case kp_cO => k_is)
    (case ga_cO => k_is)
    (case gg_cO => k_is)
    (case sb_cO => k_is)
    (case hd_cO => k_is)
    (case cl_cO => k_is)
    (case mo_cO => k_is)
    (case ty_cO => k_is)
    (case ei_cO => k_exc)
    (case g_cX => k_is)
    (case kp_cX => k_is)
    (case ga_cX => k_is)
    (case gg_cX => k_is)
    (case sb_cX => k_is)
    (case hd_cX => k_is)
    (case cl_cX => k_is)
    (case mo_cX => k_is)
    (case ty_cX => k_is)
    (case g_cU => k_is)
    (case kp_cU => k_is)
    (case ga_cU => k_is)
    (case gg_cU => k_is)
    (case sb_cU => k_is)
    (case hd_cU => k_is)
    (case cl_cU => k_is)
    (case mo_cU => k_is)
    (case ty_cU => k_is)
    (case g_cR => k_is)
    (case kp_cR => k_is)
    (case ga_cR => k_is)
    (case gg_cR => k_is)
    (case sb_cR => k_is)
    (case hd_cR => k_is)
    (case cl_cR => k_is)
    (case mo_cR => k_is)
    (case ty_cR => k_is)
    (case g_cN => k_is)
    (case kp_cN => k_is)
    (case ga_cN => k_is)
    (case gg_cN => k_is)
    (case sb_cN => k_is)
    (case hd_cN => k_is)
    (case cl_cN => k_is)
    (case mo_cN => k_is)
    (case ty_cN => k_is)
    (case g_cZ => k_is)
    (case kp_cZ => k_is)
    (case ga_cZ => k_is)
    (case gg_cZ => k_is)
    (case sb_cZ => k_is)
    (case hd_cZ => k_is)
    (case cl_cZ => k_is)
    (case mo_cZ => k_is)
    (case ty_cZ => k_is)
    (case g_cM => k_is)
    (case kp_cM => k_is)
    (case ga_cM => k_is)
    (case gg_cM => k_is)
    (case sb_cM => k_is)
    (case hd_cM => k_is)
    (case cl_cM => k_is)
    (case mo_cM => k_is)
    (case ty_cM => k_is)
    (case g_cC => k_is)
    (case kp_cC => k_is)
    (case ga_cC => k_is)
    (case gg_cC => k_is)
    (case sb_cC => k_is)
    (case hd_cC => k_is)
    (case cl_cC => k_is)
    (case mo_cC => k_is)
    (case ty_cC => k_is)
    (case g_cB => k_is)
    (case kp_cB => k_is)
    (case ga_cB => k_is)
    (case gg_cB => k_is)
    (case sb_cB => k_is)
    (case hd_cB => k_is)
    (case cl_cB => k_is)
    (case mo_cB => k_is)
    (case ty_cB => k_is)
    (case ei_cB => k_exc)
    (case oc_n => k_is)
    (case oc_t => k_is)
    (case xl_cX => k_is)
    (case sa_cX => k_is)
    (case no_cX => k_is)
    (case in_cX => k_is)
    (case it_cX => k_is)
    (case il_cX => k_is)
    (case ic_cX => k_is)
    (case xl_cU => k_is)
    (case sa_cU => k_is)
    (case no_cU => k_is)
    (case in_cU => k_is)
    (case it_cU => k_is)
    (case il_cU => k_is)
    (case ic_cU => k_is)
    (case xl_cR => k_is)
    (case sa_cR => k_is)
    (case no_cR => k_is)
    (case in_cR => k_is)
    (case it_cR => k_is)
    (case il_cR => k_is)
    (case ic_cR => k_is)
    (case xl_cN => k_is)
    (case sa_cN => k_is)
    (case no_cN => k_is)
    (case in_cN => k_is)
    (case it_cN => k_is)
    (case il_cN => k_is)
    (case ic_cN => k_is)
    (case xl_cZ => k_is)
    (case sa_cZ => k_is)
    (case no_cZ => k_is)
    (case in_cZ => k_is)
    (case it_cZ => k_is)
    (case il_cZ => k_is)
    (case ic_cZ => k_is)
    (case xl_cM => k_is)
    (case sa_cM => k_is)
    (case no_cM => k_is)
    (case in_cM => k_is)
    (case it_cM => k_is)
    (case il_cM => k_is)
    (case ic_cM => k_is)
    (case xl_cC => k_is)
    (case sa_cC => k_is)
    (case no_cC => k_is)
    (case in_cC => k_is)
    (case it_cC => k_is)
    (case il_cC => k_is)
    (case ic_cC => k_is)
    (case kt_cW => kernel_rfl)
    (case kt_cK => kernel_rfl)
    (case kt_cT => kernel_rfl)
    (case kt_cQ => kernel_rfl)
    (case kt_cO => kernel_rfl)
    (case kt_cX => kernel_rfl)
    (case kt_cU => kernel_rfl)
    (case kt_cR => kernel_rfl)
    (case kt_cN => kernel_rfl)
    (case kt_cZ => kernel_rfl)
    (case kt_cM => kernel_rfl)
    (case kt_cC => kernel_rfl)
    (case kt_cB => kernel_rfl)
    (case u_tb => k_is)
    (case u_cb => k_is)
    (case u_cc => k_is)
    (case u_rb => k_is)
    (case u_rc => k_is)
    (case u_rr => k_is)
