import PyProof.Rows.All
import Wide.All
import OpenK.AllK
import Wide.FinOn
import HandS.ForMost
import HandS.IsInst
import HandS.Wide
import PyProof.ReprRoads
import HandS.ForExc
import HandS.TryMany
import HandS.ExcField
import KE.KExcInit
import HandS.Lambda
import HandS.EndTab
import KE.GoesEnum
import HandS.Iter
import HandS.Walk
import HandS.RevRange
import HandS.WideBits
import HandS.Style
import HandS.TupMul
import HandS.Conv
import HandS.Zip
import HandS.TupAny
import PySem.Float64
import HandS.Gcd
import PyProof.ReprLen
import HandS.DictComp
import HandS.ExcIs
import PySem.Challenge.RW_onebetween_k03_whole_divisors_and_moebiu
set_option Elab.async false
set_option linter.all false
set_option maxRecDepth 100000
set_option maxHeartbeats 4000000
namespace GG
open PySem PySem.Spec PyProof.Rows L2

/-! ### promises that are kept where no repr is under way -/
structure FnG (P : Program) (w : World) (K : PySem.W.Frag) (mg : Str → Option Value) (base : Heap) (CX : CXT) (k : Nat)
    (f : Addr) (fd : FuncData) (ps : List Str) (sp : Sp) : Prop where
  lens : ∀ vs H Q E, sp vs H Q E → vs.length = ps.length
  go : ∀ (A : Around) (outer : List Env) (s : Shared) (H : Hp) (ar : Args) (us : List Value) (vs : List V) (Q : VK) (E : XK),
    A.guards = some [] → Room k A → Env0 P w K mg base A outer s H → BindsTo s fd ar (ps.zip us) → Vals vs us →
    sp vs H Q E → codeAny (model P w) A (.call (.ref f) ar) (CR CX outer P w H s Q E) s

section
variable {P : Program} {w : World} {K : PySem.W.Frag} {mg : Str → Option Value} {base : Heap} {CX : CXT} {k : Nat}
  {f : Addr} {fd : FuncData} {ps : List Str} {sp : Sp}
theorem FnG.ofOk (F : FnOk P w K mg base CX k f fd ps sp) : FnG P w K mg base CX k f fd ps sp :=
  ⟨F.len, fun A o s H ar us vs Q E _ hr => F.run A o s H ar us vs Q E hr⟩

theorem fnG_lk {x qual : Str} {st : Stmt} {N : List Str} {oc : Value} {od an : Option Addr} {osl : Array (Option Value)} {kV doc pm cdv ct : Value}
    (lk : K.lookup f = some ⟨oc, od, .func (PySem.W.fnOf x qual (defArgs st) (defBody st) (defScope st) .none kV doc pm an cdv ct), osl⟩)
    (hcd : PySem.W.codeIn K cdv qual = true) (S : FnScope N ps (defScope st))
    (lens : ∀ vs H Q E, sp vs H Q E → vs.length = ps.length)
    (hb : ∀ (A : Around) (outer : List Env) (s : Shared) (H : Hp) (vs : List V) (Q : VK) (E : XK),
      (A.deeper (envOfC qual (defScope st) s.heap.objs.size f cdv)).guards = some [] →
      Room k (A.deeper (envOfC qual (defScope st) s.heap.objs.size f cdv)) → sp vs H Q E →
      ∃ t, PSs (cxOf CX P w K mg base N qual (defScope st) f cdv A outer s H E) (defBody st) t ∧
        t { nx := fun _ H' => Q .non H', rt := Q } (start N vs) H) :
    FnG P w K mg base CX (k + 1) f (PySem.W.fnOf x qual (defArgs st) (defBody st) (defScope st) .none kV doc pm an cdv ct) ps sp := by
  refine ⟨lens, ?_⟩
  intro A outer s H ar us vs Q E gA room en bd vl hs
  have inK : K.In s.heap := en.mod.kin.keeps (fun b o z => (en.bs b o z).left)
  have noL : s.heap.NoLimit := en.mod.nolimit.keeps (fun b o z => (en.bs b o z).left)
  have kinds : ∀ y ∈ ps.zip us, (defScope st).names.lookup y.1 = some .local ∨
      ((defScope st).names.lookup y.1 = some .cell ∧
        ((cellsFrom (s.heap.objs.size + 1) (defScope st).names []).lookup y.1).isSome = true) := by
    intro ⟨n, v⟩ hy
    cases S.par n (List.of_mem_zip hy).left with
    | inl q => exact Or.inl q
    | inr q => exact Or.inr ⟨q, PySem.W.cellsFrom_some _ _ _ (Or.inl q)⟩
  refine codeAny_call_function room.depth (inK _ _ lk) rfl S.co S.gen rfl
    (PySem.W.codeRec_of inK hcd) (bd _ _ _ _ ?_)
  refine wpAny_newFunctionEnv_cells S.kind kinds (fun env he s1 ic => ?_)
  subst he
  refine ⟨noL.keeps ic.toInCall.keep, codeAny_func ?_⟩
  obtain ⟨t, ht, hq⟩ := hb A outer s H vs Q E gA (room.deeper _) hs
  have J := inv_start (CX := CX) (P := P) (E := E) S room.hd en (lens _ _ _ _ hs) vl ic
  refine wpAny_mono (ht.run [] s1 (start N vs) H _ J hq) (fun fl s2 ends => ?_) (fun _ _ z => z)
  cases fl with
  | next =>
    obtain ⟨σ2, H2, I2, q2⟩ := ends
    exact ⟨V.non, H2, I2.os, I2.bare, I2.base, I2.hok, rfl, q2⟩
  | ret u =>
    obtain ⟨v, σ2, H2, I2, rv, q2⟩ := ends
    exact ⟨v, H2, I2.os, I2.bare, I2.base, I2.hok, rv, q2⟩
  | brk => exact ends.elim (fun _ z => z.elim (fun _ z => z.right.elim))
  | cont => exact ends.elim (fun _ z => z.elim (fun _ z => z.right.elim))
theorem fnG_of {x qual : Str} {st : Stmt} {N : List Str} (F : Fun K x qual st f fd) (S : FnScope N ps (defScope st))
    (lens : ∀ vs H Q E, sp vs H Q E → vs.length = ps.length)
    (hb : ∀ (cdv : Value) (A : Around) (outer : List Env) (s : Shared) (H : Hp) (vs : List V) (Q : VK) (E : XK),
      (A.deeper (envOfC qual (defScope st) s.heap.objs.size f cdv)).guards = some [] →
      Room k (A.deeper (envOfC qual (defScope st) s.heap.objs.size f cdv)) → sp vs H Q E →
      ∃ t, PSs (cxOf CX P w K mg base N qual (defScope st) f cdv A outer s H E) (defBody st) t ∧
        t { nx := fun _ H' => Q .non H', rt := Q } (start N vs) H) :
    FnG P w K mg base CX (k + 1) f fd ps sp := by
  obtain ⟨oc, od, kV, doc, pm, an, cdv, ct, osl, rfl, lk, hcd⟩ := F.ex
  exact fnG_lk lk hcd S lens (hb cdv)
/-- .. of a def that lets no exception out -/
theorem fnG0 {x qual : Str} {st : Stmt} {N : List Str} (F : Fun K x qual st f fd) (S : FnScope N ps (defScope st))
    (lens : ∀ vs H Q E, sp vs H Q E → vs.length = ps.length)
    (hb : ∀ (cdv : Value) (A : Around) (outer : List Env) (s : Shared) (H : Hp) (vs : List V) (Q : VK) (E : XK),
      (A.deeper (envOfC qual (defScope st) s.heap.objs.size f cdv)).guards = some [] →
      Room k (A.deeper (envOfC qual (defScope st) s.heap.objs.size f cdv)) → sp vs H Q E →
      ∃ t, PSs (cxOf CX0 P w K mg base N qual (defScope st) f cdv A outer s H E).nox (defBody st) t ∧
        t { nx := fun _ H' => Q .non H', rt := Q } (start N vs) H) :
    FnG P w K mg base CX0 (k + 1) f fd ps sp :=
  fnG_of F S lens (fun cdv A outer s H vs Q E g r h => (hb cdv A outer s H vs Q E g r h).imp (fun _ z => ⟨z.left.nox, z.right⟩))
end

section
variable {X : Cx} {CX : CXT} {k : Nat} {f : Addr} {fd : FuncData} {ps : List Str} {sp : Sp} {dvs : List V} {ds : List Value}
  {E : XK} {x : Str} {p pos : Pos} {e : Expr} {es : List Expr} {t : TA}
theorem runG {pins : List (Addr × Obj)} {σ : L2.St} {H : Hp} {s : Shared} {Q : VK} {us : List Value} {vs : List V}
    (F : FnG X.prog X.w X.K X.mg X.base CX k f fd ps sp) (gd : X.A.guards = some []) (room : Room k X.A)
    (bd : Binds X.K fd ps ds) (dv : Vals dvs ds) (pass : Passes CX X E) (I : Inv X pins σ H s) (r : Vals vs us)
    (h : sp (vs ++ dvs) H Q E) : wpAny (model X.prog X.w) X.A (call (.ref f) us) (EP X pins σ Q) X.xe s := by
  have both : Vals (vs ++ dvs) (us ++ ds) := Vals.append r dv
  have n : (us ++ ds).length = ps.length := both.length.symm.trans (F.lens _ _ _ _ h)
  have run := F.go X.A X.stack s H ⟨us, []⟩ (us ++ ds) (vs ++ dvs) Q E gd room I.env0 (bd s us I.kIn n) both h
  refine wpAny_call (codeAny_mono run ?_)
  intro res s2 z
  cases res with
  | error ex => exact pass pins σ H s ex s2 I z
  | ok fl =>
    cases fl with
    | ret u => exact Inv.after I z
    | next => exact z.elim
    | brk => exact z.elim
    | cont => exact z.elim
/-- f(e, ..) -/
theorem pe_callG (F : FnG X.prog X.w X.K X.mg X.base CX k f fd ps sp) (gd : X.A.guards = some []) (room : Room k X.A) (hg : Gl X x)
    (hm : X.mg x = some (.ref f)) (kp : PySem.W.keepIn X.K (.ref f) = true) (bd : Binds X.K fd ps ds) (dv : Vals dvs ds)
    (pass : Passes CX X E) (ha : PA X (e :: es) t) (hdb : (x == ("__debug__" : Str)) = false := by decide)
    (he : starEach (e :: es) X.env = (false, eval e X.env) :: starEach es X.env := by rfl)
    (hpl : (backTo pos (starEach es X.env)).any (·.1) = false := by rfl) :
    PE X (.Call (.Name x p) (e :: es) [] pos) (tCall sp dvs E t) := by
  constructor
  intro pins s σ H Q I h
  apply wpAny_Call_Name_kw
  apply ld_glob I hg hm _ hdb
  apply PySem.W.callWith_K (h₀ := X.base) I.ok.mod.kin kp _ he hpl
  apply thn (ha.run pos pins s σ H _ I h)
  intro us s1 ⟨vs, H1, I1, r, q⟩
  exact ⟨I1.kIn, runG F gd room bd dv pass I1 r q⟩
/-- f() -/
theorem pe_callG0 (F : FnG X.prog X.w X.K X.mg X.base CX k f fd ps sp) (gd : X.A.guards = some []) (room : Room k X.A) (hg : Gl X x)
    (hm : X.mg x = some (.ref f)) (kp : PySem.W.keepIn X.K (.ref f) = true) (bd : Binds X.K fd ps ds) (dv : Vals dvs ds)
    (pass : Passes CX X E) (hdb : (x == ("__debug__" : Str)) = false := by decide) :
    PE X (.Call (.Name x p) [] [] pos) (tCall sp dvs E tNil) := by
  constructor
  intro pins s σ H Q I h
  apply wpAny_Call_Name_kw
  apply ld_glob I hg hm _ hdb
  exact PySem.W.callWith_K0 I.kIn kp (runG (us := []) F gd room bd dv pass I .nil h)
end
end GG

namespace GG
open PySem PySem.Spec PyProof.Rows L2
/-! ### the end of a law's row, over such a promise -/
section
variable {P : Program} {w : World} {K : PySem.W.Frag} {mg mb : Str → Option Value} {CX : CXT} {k : Nat} {fa a : Addr} {fd : FuncData}
  {x : Str} {sp : Sp} {s₁ : Shared} {vs : List Value} {ns : List Int}
/-- from a heap in which the script alone may be tracked -/
theorem law_coreG {H : Hp} (KX : K.In s₁.heap) (ng : s₁.heap.Ns mainGlobals mg) (nb : s₁.heap.Ns builtinsNs mb)
    (bb : ∀ x : Str, x ≠ "__name__" → mb x = bootBuiltins x) (lim : s₁.heap.NoLimit) (g0 : s₁.gens = #[])
    (ha : s₁.heap.get? a = some { cls := .type "list", data := .seq vs.toArray }) (room : Room k callerA)
    (F : ∀ base : Heap, K.In base → base.Ns mainGlobals mg → FnG P w K mg base CX k fa fd [x] sp)
    (bind : ∀ (s : Shared) (u : Value), BindsTo s fd ⟨[u], []⟩ [(x, u)])
    (want : sp [.ref a] H (fun v _ => v = .bl true) fun _ _ _ => False)
    (noX : ∀ H e s', CX [] H s₁ (fun _ _ _ => False) e s' → False)
    (only : Only H) (ok : HOk P w H s₁.heap) (at_a : ∀ b, H b ≠ none → b = a) (notK : H a ≠ none → K.lookup a = none) :
    codeAny (model P w) callerA (.call (.ref fa) ⟨[.ref a], []⟩)
      (fun r s' => r = .ok (.ret (.bool true)) ∧ OldK s₁.heap s'.heap ∧ s'.os = s₁.os ∧ AllBare s'.gens) s₁ := by
  have dictFree : ∀ {b : Addr} {o : Obj} {es : Array DictEntry} {ep : Nat},
      s₁.heap.get? b = some o → o.data = .dict es ep → H b = none := by
    intro b o es ep e d
    rcases hq : H b with _ | u
    · rfl
    · have ba := at_a b (fun z => by rw [z] at hq; cases hq)
      rw [ba, ha] at e
      cases e
      cases (show Data.seq vs.toArray _ = Data.dict es ep from d)
  have ns : ∀ {b : Addr} {m : Str → Option Value}, s₁.heap.Ns b m → (hidT s₁.heap H).Ns b m := by
    rintro b m ⟨o, es, ep, e, d, r⟩
    exact ⟨o, es, ep, hidT_get e (dictFree e d), d, r⟩
  have KB : K.In (hidT s₁.heap H) := by
    intro b o e
    refine hidT_get (KX b o e) ?_
    rcases hq : H b with _ | u
    · rfl
    · have ba := at_a b (fun z => by rw [z] at hq; cases hq)
      rw [ba] at hq e
      rw [notK (fun z => by rw [z] at hq; cases hq)] at e
      cases e
  have en : Env0 P w K mg (hidT s₁.heap H) callerA [] s₁ H := by
    refine ⟨rfl, ⟨KB, ns ng, ⟨mb, ns nb, bb⟩, ?_⟩, fun b o e => of_hidT e, Nat.le_of_eq (hidT_size _ _), trivial, ?_, ok, .of_eq g0⟩
    · obtain ⟨mc, h1, h2⟩ := lim
      exact ⟨mc, ns h1, h2⟩
    · intro b z
      cases (show b ∈ ([] : List Addr) from z)
  refine codeAny_mono ((F _ KB (ns ng)).go callerA [] s₁ H ⟨[.ref a], []⟩ [.ref a] [.ref a] _ _ rfl room en
    (bind s₁ (.ref a)) (.cons rfl .nil) want) ?_
  intro r s' z
  cases r with
  | error e => exact (noX H e s' z).elim
  | ok fl =>
    cases fl with
    | next => exact z.elim
    | brk => exact z.elim
    | cont => exact z.elim
    | ret u =>
      obtain ⟨v, H', os, bare, un, ok', rv, q⟩ := z
      cases (show v = .bl true from q)
      cases (show u = Value.bool true from rv)
      refine ⟨rfl, OldK.of_keep ?_, os, bare⟩
      intro b o e
      rcases only b with hq | ⟨ob, xs, hq⟩
      · exact un.keep b o e hq (fun z => by cases (show b ∈ ([] : List Addr) from z)) (fun z => by cases z)
      · have f1 := (ok b _ hq).left
        have f2 := (ok' b _ (un.frzs b ob _ hq)).left
        rw [e] at f1
        cases f1
        exact f2
theorem law_callG (KX : K.In s₁.heap) (ng : s₁.heap.Ns mainGlobals mg) (nb : s₁.heap.Ns builtinsNs mb)
    (bb : ∀ x : Str, x ≠ "__name__" → mb x = bootBuiltins x) (lim : s₁.heap.NoLimit) (g0 : s₁.gens = #[])
    (ha : s₁.heap.get? a = some { cls := .type "list", data := .seq vs.toArray }) (hi : IntsAre vs ns) (hl : ns.length ≤ sizeLine)
    (room : Room k callerA) (F : ∀ base : Heap, K.In base → base.Ns mainGlobals mg → FnG P w K mg base CX k fa fd [x] sp)
    (bind : ∀ (s : Shared) (u : Value), BindsTo s fd ⟨[u], []⟩ [(x, u)])
    (want : ∀ H : Hp, Only H → SqL K H a (ns.map V.int) → sp [.ref a] H (fun v _ => v = .bl true) fun _ _ _ => False)
    (noX : ∀ H e s', CX [] H s₁ (fun _ _ _ => False) e s' → False) :
    codeAny (model P w) callerA (.call (.ref fa) ⟨[.ref a], []⟩)
      (fun r s' => r = .ok (.ret (.bool true)) ∧ OldK s₁.heap s'.heap ∧ s'.os = s₁.os ∧ AllBare s'.gens) s₁ := by
  have vi := vals_ints hi
  rcases hk : K.lookup a with _ | o
  · have hH : ∀ b, (fun b => if b = a then some (HO.frz { cls := .type "list", data := .seq vs.toArray } (.lst (ns.map V.int))) else none : Hp) b ≠ none → b = a := by
      intro b z
      by_cases e : b = a
      · exact e
      · exact absurd (if_neg e) z
    refine law_coreG (H := fun b => if b = a then some (HO.frz { cls := .type "list", data := .seq vs.toArray } (.lst (ns.map V.int))) else none)
      KX ng nb bb lim g0 ha room F bind (want _ ?_ (.inl (.inr ⟨_, if_pos rfl⟩))) noX ?_ ?_ hH (fun _ => hk)
    all_goals first
      | (intro b
         by_cases e : b = a
         · exact .inr ⟨_, _, if_pos e⟩
         · exact .inl (if_neg e))
      | (intro b u z
         by_cases e : b = a
         · have z' := (if_pos e).symm.trans z
           cases z'
           rw [e]
           exact ⟨ha, by rw [List.length_map]; exact hl, vs, _, vi, ha⟩
         · have z' := (if_neg e).symm.trans z
           cases z')
  · have e := KX a o hk
    rw [ha] at e
    cases e
    refine law_coreG (H := fun _ => none) KX ng nb bb lim g0 ha room F bind (want _ (fun _ => .inl rfl) ?_) noX (fun _ => .inl rfl) ?_ (fun b z => absurd rfl z) (fun z => absurd rfl z)
    · exact .inr ⟨_, vs.toArray, _, hk, rfl, rfl, rfl, by rw [List.size_toArray, hi.length]; exact hl, by simpa using vi⟩
    · intro b u z
      cases (show (none : Option HO) = some u from z)
end
/-- the goal that the head leaves -/
theorem walkG {l : PySem.W.OpenLaw} {n k : Nat} {q : Program} {loose : List Str} {XP : (Str → Option Value) → Heap → Prop} {YP : World → Heap → Prop}
    {d : DefRec} {K : Params → PySem.W.Frag} {CX : World → CXT} {sp : World → Sp} {x : Str}
    (hn : l.most = some n) (hn2 : n ≤ sizeLine) (hdf : d.params.defaults = []) (room : Room k callerA)
    (hY : ∀ (w : World) (h : Heap), YP w h → (K w.params).In h)
    (F : ∀ (w : World) (mg : Str → Option Value) (fa : Addr) (h : Heap), (K w.params).In h → h.Ns mainGlobals mg → mg d.name = some (.ref fa) →
      ∃ fd : FuncData, (∀ (s : Shared) (u : Value), BindsTo s fd ⟨[u], []⟩ [(x, u)]) ∧
        ∀ base : Heap, (K w.params).In base → base.Ns mainGlobals mg → FnG l.prog w (K w.params) mg base (CX w) k fa fd [x] (sp w))
    (want : ∀ (w : World) (H : Hp) (a : Addr) (ns : List Int), ns.length ≤ n → Only H → SqL (K w.params) H a (ns.map V.int) →
      sp w [.ref a] H (fun v _ => v = .bl true) fun _ _ _ => False)
    (noX : ∀ (w : World) (H : Hp) (s : Shared) (e : Value) (s' : Shared), CX w [] H s (fun _ _ _ => False) e s' → False) :
    PySem.W.WalkO q loose XP YP l.row.toRowW d [] (fun f vs => PySem.call f vs) := by
  apply Att.attach_call hn hdf
  intro w s₀ s₁ mg mb fa o pm cd doc a vs ns G Y ho hd hcd hmg hobj hints hlen hg
  obtain ⟨fd, hb, hF⟩ := F w mg fa _ (hY w _ Y) G.T.g hmg
  exact law_callG (hY w _ Y) G.T.g G.T.b G.T.builtins G.T.nolimit hg hobj hints (Nat.le_trans hlen hn2) room hF hb
    (fun H h1 h2 => want w H a ns hlen h1 h2) (fun H e s' => noX w H s₁ e s')
end GG

namespace GG
open PySem PySem.Spec PyProof.Rows L2
/-! ### repr of data -/
def isDsp : PyData → Bool
  | .list _ => true
  | .tuple _ => true
  | _ => false
/-- repr(x), x nested lists and tuples of bools, ints, texts, None -/
def rRepr (K : PySem.W.Frag) : List V → Hp → VK → Prop := fun xs H Q => ∃ x d, xs = [x] ∧ Dp K H x d ∧
  (d.showable = true ∧ d.hasDict = false ∧ d.depth ≤ 40 ∧ d.shown.length ≤ sizeLine) ∧ Q (.str d.shown) H
theorem call_reprU {X : Cx} (gd : X.A.guards = some []) (un : X.A.units + 64 < cLine) : CallR X (.builtin "repr") (rRepr X.K) := by
  intro pins s σ H xs us Q I r h
  obtain ⟨x, d, rfl, hd, ⟨sh, nod, dep, big⟩, q⟩ := h
  obtain ⟨u, rfl, ru⟩ := vals1 r
  cases d with
  | none =>
    cases hd
    cases (show u = Value.none from ru)
    exact PySem.P.repr_of_none ⟨.str _, H, I.tok _, ⟨_, rfl⟩, by simpa [PyData.shown] using q⟩
  | bool b =>
    cases hd
    cases (show u = Value.bool b from ru)
    exact PySem.P.repr_of_bool ⟨.str _, H, I.tok _, ⟨_, rfl⟩, by simpa [PyData.shown] using q⟩
  | int i =>
    cases hd
    obtain ⟨t, rfl⟩ := (show ∃ t, u = Value.int i t from ru)
    refine PySem.P.repr_of_int (by simpa [PyData.showable] using sh) ⟨.str _, H, I.tok _, ⟨_, rfl⟩, by simpa [PyData.shown] using q⟩
  | str y =>
    cases hd
    obtain ⟨t, rfl⟩ := (show ∃ t, u = Value.str y t from ru)
    exact PySem.P.repr_of_str ⟨.str _, H, I.tok _, ⟨_, rfl⟩, by simpa [PyData.shown] using q⟩ (by simpa [PyData.shown] using big)
  | dict kvs => cases hd
  | list ds =>
    obtain ⟨as, rd⟩ := Dp.reads I _ _ _ hd ru
    cases hd
    cases (show u = Value.ref _ from ru)
    refine repr_of_reads' rd sh (PyData.noDict_hsm nod) gd (by omega) (fun _ _ e => e) (fun h' u tk kept => ?_) big
    exact ⟨.str _, H, I.kept kept, ⟨_, rfl⟩, q⟩
  | tuple ds =>
    obtain ⟨as, rd⟩ := Dp.reads I _ _ _ hd ru
    cases hd
    cases (show u = Value.ref _ from ru)
    refine repr_of_reads' rd sh (PyData.noDict_hsm nod) gd (by omega) (fun _ _ e => e) (fun h' u tk kept => ?_) big
    exact ⟨.str _, H, I.kept kept, ⟨_, rfl⟩, q⟩
theorem call_reprD {X : Cx} {k : Nat} (gd : X.A.guards = some []) (room : Room k X.A) : CallR X (.builtin "repr") (rRepr X.K) := call_reprU gd room.units
/-! ### ** of a great base -/
def CPowW (i j : Int) : Prop := 0 ≤ j ∧ (Builtin.Int.intBits i : Int) * j ≤ 2 ^ 27
theorem op_powW {X : Cx} : OpR X (binaryOp .Pow) (rI CPowW fun i j => .int (i ^ j.toNat)) := opI fun _ _ _ _ _ _ _ hc q => pow_int hc.1 hc.2 q
/-! ### the heap but for one object -/
/-- all that stands in H stands in H', but for what is at l -/
def But (l : Addr) (H H' : Hp) : Prop := ∀ b o, b ≠ l → H b = some o → H' b = some o
theorem But.refl {l : Addr} {H : Hp} : But l H H := fun _ _ _ e => e
theorem But.trans {l : Addr} {H H1 H2 : Hp} (a : But l H H1) (b : But l H1 H2) : But l H H2 := fun c o n e => b c o n (a c o n e)
theorem But.same {l : Addr} {H H1 H2 : Hp} (a : But l H H1) (b : Same H1 H2) : But l H H2 := fun c o n e => b c o (a c o n e)
theorem But.ofSame {l : Addr} {H H1 : Hp} (b : Same H H1) : But l H H1 := fun c o _ e => b c o e
theorem But.new {l p : Addr} {H H1 : Hp} {o : HO} (a : But l H H1) (h : H1 p = none) : But l H (upd H1 p o) := fun c u n e => by
  have e1 := a c u n e
  rw [upd_ne (ne_of_none e1 h)]
  exact e1
theorem But.at {l : Addr} {H : Hp} {o : HO} : But l H (upd H l o) := fun c u n e => by
  rw [upd_ne n]
  exact e
theorem But.seqL {l a : Addr} {K : PySem.W.Frag} {H H' : Hp} {xs : List V} (b : But l H H') (n : a ≠ l) (h : SqL K H a xs) : SqL K H' a xs := by
  rcases h with (h | ⟨o, h⟩) | h
  · exact .inl (.inl (b _ _ n h))
  · exact .inl (.inr ⟨o, b _ _ n h⟩)
  · exact .inr h
theorem But.seqT {l a : Addr} {K : PySem.W.Frag} {H H' : Hp} {xs : List V} (b : But l H H') (n : a ≠ l) (h : SqT K H a xs) : SqT K H' a xs := by
  rcases h with (h | ⟨o, h⟩) | h
  · exact .inl (.inl (b _ _ n h))
  · exact .inl (.inr ⟨o, b _ _ n h⟩)
  · exact .inr h
theorem sameUpd {H : Hp} {p : Addr} {o : HO} (h : H p = none) : Same H (upd H p o) := fun b x e => by
  rw [upd_ne (ne_of_none e h)]
  exact e
/-! ### dice -/
def Dice (H : Hp) (l : Addr) : Prop := ∃ a b c : Int, H l = some (.lst [.int a, .int b, .int c]) ∧ 0 ≤ a
theorem Dice.same {H H' : Hp} {l : Addr} (d : Dice H l) (s : Same H H') : Dice H' l := by
  obtain ⟨a, b, c, e, h⟩ := d
  exact ⟨a, b, c, s _ _ e, h⟩
theorem Dice.new {H : Hp} {l p : Addr} {o : HO} (d : Dice H l) (h : H p = none) : Dice (upd H p o) l := d.same (sameUpd h)
theorem Dice.ne {H : Hp} {l p : Addr} (d : Dice H l) (h : H p = none) : l ≠ p := by
  obtain ⟨a, b, c, e, _⟩ := d
  exact ne_of_none e h
theorem mul60 : CMulW (10 ^ Int.toNat 60) (10 ^ Int.toNat 60) := by
  unfold CMulW
  decide +kernel
theorem pos60 : (0 : Int) < 10 ^ Int.toNat 60 * 10 ^ Int.toNat 60 := by decide +kernel
def spDice (K : PySem.W.Frag) : Sp := fun vs H Q _ => ∃ (a : Addr) (ns : List Int) (spot : Nat), vs = [.ref a, .int spot] ∧ SqL K H a (ns.map V.int) ∧
  spot ≤ 100 ∧ ∀ H' p, Same H H' → H p = none → Dice H' p → Q (.ref p) H'
def spRoll : Sp := fun vs H Q _ => ∃ (l : Addr) (t : Int), vs = [.ref l, .int t] ∧ Dice H l ∧ 0 < t ∧ t < 1073741824 ∧
  ∀ H' (r : Int), But l H H' → Dice H' l → 0 ≤ r → r < t → Q (.int r) H'
def spPick (K : PySem.W.Frag) : Sp := fun vs H Q _ => ∃ (l a : Addr) (xs : List V), vs = [.ref l, .ref a] ∧ Dice H l ∧ a ≠ l ∧
  (SqL K H a xs ∨ SqT K H a xs) ∧ 0 < xs.length ∧ xs.length ≤ 1000 ∧
  ∀ H' (i : Nat) (v : V), But l H H' → Dice H' l → xs[i]? = some v → Q v H'
end GG

set_option maxHeartbeats 4000000
namespace PySem
namespace GX
open PySem.W PySem.Calls PyProof.Rows PySem.HandSPX
/-! ### own exceptions with one field over any of the built-in classes -/
/-- what the written part says of the class named cn at C (its field fld), and of its __init__, at fI -/
structure OwnX (K : Frag) (mg : Str → Option Value) (cn fld : Str) (bmB : List Value) (newId : String) (C fI : Addr) : Prop where
  gC : mg cn = some (.ref C)
  cls : ∃ nm q N bs bm sn sub ab col dd k0 k1 k2 k3 k5, K.lookup C = some (excClassObj nm q C N bs bm true sn sub ab col dd k0 k1 k2 k3 k5 newId) ∧ excTail bmB bm = true
  sa : findIn K (.ref C) "__setattr__" = some (some (.builtin "object.__setattr__"))
  ga : findIn K (.ref C) "__getattribute__" = some (some (.builtin "BaseException.__getattribute__"))
  gg : findIn K (.ref C) "__getattr__" = some none
  noN : findIn K (.ref C) fld = some none
  iC : findIn K (.ref C) "__init__" = some (some (.ref fI))
  tC : typeIn K (.ref fI) = some (.type "function")
  kC : keepIn K (.ref C) = true
  exC : subIn K (.ref C) (.type "BaseException") = some true
  tyC : typeIn K (.ref C) = some (.type "type")
  hdC : hasDictIn K C = true
  te : exmOne K (.ref C) (.ref C) = some true
/-- what __init__ leaves of a fresh exception at x -/
structure Inited (fld : Str) (h h' : Heap) (x C dx t1 : Addr) (v : Value) : Prop where
  keep : ∀ b o, b ≠ x → h.get? b = some o → h'.get? b = some o
  obj : h'.get? x = some { cls := .ref C, dict := some dx, data := .fields #[.ref t1, .none, .none, .none, .bool false, .none] }
  dbig : h.objs.size ≤ dx
  dne : dx ≠ x
  ns : h'.Ns1 dx (fun y => if y = fld then some v else none)
/-- a made one -/
structure MadeX (fld : Str) (h h' : Heap) (e C d : Addr) (v : Value) : Prop where
  keep : ∀ b o, h.get? b = some o → h'.get? b = some o
  new : h.objs.size ≤ e
  obj : ∃ t1, h'.get? e = some { cls := .ref C, dict := some d, data := .fields #[.ref t1, .none, .none, .none, .bool false, .none] }
  dbig : h.objs.size ≤ d
  dne : d ≠ e
  ns : h'.Ns1 d (fun y => if y = fld then some v else none)
/-- the __init__ at fI stores its argument -/
def InitOk (K : Frag) (fld : Str) (C fI : Addr) : Prop :=
  ∀ (prog : Program) (w : World) (A : Around) (R : Result → Shared → Prop) (s : Shared) (x t0 : Addr) (v : Value), K.In s.heap → s.heap.NoLimit →
    s.heap.get? x = some (excO C t0) → K.lookup x = none → A.depth < recursionLimit →
    (∀ h' tk dx, Inited fld s.heap h' x C dx t0 v → R (.ok (.ret .none)) { s with heap := h', toks := tk }) →
    codeAny (model prog w) A (.call (.ref fI) ⟨[.ref x, v], []⟩) R s
theorem single_size (v : Value) : [v].length ≤ sizeLine := by
  rw [sizeLine_eq]
  exact (by decide : 1 ≤ 16777216)
theorem loadLoc {M : Model} {s : Shared} {name : Str} {scope : Scope} {L a : Addr} {cd : Value} {m : Str → Option Value} {x : Str} {pos : Pos} {v : Value} {Q : Value → Shared → Prop} {A : Around} {E : Value → Shared → Prop}
    (hn : s.heap.Ns L m) (hv : m x = some v) (h : Q v s) (hk : scope.kind = .function := by rfl)
    (hl : (envOfC name scope L a cd).kindOf x = some .local := by rfl) (hd : (x == ("__debug__" : Str)) = false := by decide) :
    wpAny M A (eval (.Name x pos) (envOfC name scope L a cd)) Q E s := wpAny_Name (wpAny_loadName_local hk hl hn hv h) hd
section
open Builtin Builtin.ObjectAttr
variable {prog : Program} {w : World} {A : Around} {E : Value → Shared → Prop} {R : Result → Shared → Prop} {hp : Heap} {g : Array GenState} {d : Drawn} {t : Nat} {os : OsState} {B newId initId : String} {bmB : List Value}
/-- self.name = v on such an exception that has no dict yet -/
theorem osaX {K : Frag} {name : Str} {tk : Tok} {v : Value} {x C : Addr} {fv : Array Value} {cd : ClassData} (SF : StoreFacts B bmB "object.__setattr__" "object")
    (X : K.In hp) (hx : hp.get? x = some { cls := .ref C, data := .fields fv }) (hcd : clsIn K C = some cd) (hov : excOver K C bmB = true)
    (hh : cd.hasDict = true) (ha : findIn K (.ref C) name = some none)
    (hq : ∀ h' tk' dx, (∀ b o, b ≠ x → hp.get? b = some o → h'.get? b = some o) → hp.objs.size ≤ dx → dx ≠ x →
      h'.get? x = some { cls := .ref C, dict := some dx, data := .fields fv } →
      h'.Ns1 dx (fun y => if y = name then some v else none) → R (.ok (.ret .none)) ⟨h', g, d, tk', os⟩) :
    codeAny (model prog w) A (.call (.builtin "object.__setattr__") ⟨[.ref x, .str name tk, v], []⟩) R ⟨hp, g, d, t, os⟩ := by
  have I : InstAt hp x { cls := .ref C, data := .fields fv } C none := ⟨hx, rfl, rfl, trivial⟩
  have xs : x ≠ hp.objs.size := Nat.ne_of_lt (Heap.lt_size hx)
  have taker : takerIn K C name = some none := by
    unfold takerIn
    rw [ha]
    rfl
  refine osa_openX (s := ⟨hp, g, d, t, os⟩) SF X I hov taker ?_
  intro b
  have lc : Looks (model prog w) hp (classData C) cd := looks_clsIn X hcd
  show wpAny _ _ (storeInOwnDict (.ref x) (.ref C) (.str name tk) name v b) _ _ _
  obtain ⟨nm, bs, mro, ns, qn, hd, sn, sb, ab, col, del⟩ := cd
  dsimp only at hh
  subst hh
  unfold storeInOwnDict ownDictForStores
  repeat (first
    | with_reducible refine store_in_new ?_ ?_
    | with_reducible refine wpAny_loadPart_at hx ?_
    | with_reducible refine lc.at ?_
    | wp_step)
  · refine ⟨_, #[], _, (Heap.get?_update_ne _ _ _ _ xs.symm).trans (Heap.get?_push_at rfl rfl), rfl, ?_, fun _ => rfl⟩
    intro e he
    exact absurd he (by simp)
  · intro h' tk' n1 sb1
    have there : (hp.push { cls := .type "dict", data := .dict #[] }).get? x = some { cls := .ref C, data := .fields fv } := Heap.get?_push_of_some _ hx
    apply hq h' tk' hp.objs.size _ (Nat.le_refl _) xs.symm _ n1
    · intro b o nb ho
      refine (sb1.2 b (Nat.ne_of_lt (Heap.lt_size ho))).trans ?_
      exact (Heap.get?_update_ne _ _ _ _ nb).trans (Heap.get?_push_of_some _ ho)
    · exact (sb1.2 x xs).trans (Heap.get?_update_self _ there rfl)
end
section
variable {prog : Program} {w : World} {A : Around} {R : Result → Shared → Prop} {s : Shared} {K : Frag} {mg : Str → Option Value} {C fI : Addr} {cn fld : Str} {B newId initId : String} {bmB : List Value}
theorem OwnX.over (T : OwnX K mg cn fld bmB newId C fI) : ∃ cd, clsIn K C = some cd ∧ excOver K C bmB = true ∧ cd.hasDict = true := by
  obtain ⟨nm, q, N, bs, bm, sn, sub, ab, col, dd, k0, k1, k2, k3, k5, hC, hbm⟩ := T.cls
  have hcl : clsIn K C = some { name := nm, bases := bs, mro := .ref C :: bm, ns := N, qualname := q, hasDict := true, slotNames := sn, subclasses := sub, abstract := ab, collection := col, hasDel := false } := by
    unfold clsIn
    rw [hC] <;> rfl
  refine ⟨_, hcl, ?_, rfl⟩
  unfold excOver
  rw [hcl]
  show (C == C && excTail bmB bm) = true
  rw [hbm, Bool.and_true]
  exact beq_self_eq_true C
/-- C(v) -/
theorem madeX (F : ExcBaseFacts B newId initId bmB) (T : OwnX K mg cn fld bmB newId C fI) (init : InitOk K fld C fI) {v : Value} (X : K.In s.heap)
    (lim : s.heap.NoLimit) (deep : A.depth + 1 < recursionLimit)
    (hq : ∀ h' tk e d, MadeX fld s.heap h' e C d v → R (.ok (.ret (.ref e))) { s with heap := h', toks := tk }) :
    codeAny (model prog w) A (.call (.ref C) ⟨[v], []⟩) R s := by
  obtain ⟨nm, q, N, bs, bm, sn, sub, ab, col, dd, k0, k1, k2, k3, k5, hC, hbm⟩ := T.cls
  obtain ⟨hp, g, dr, tk, os⟩ := s
  have grown : ∀ b o, hp.get? b = some o → ((hp.push (kdv_tup [v])).push (excO C hp.objs.size)).get? b = some o :=
    fun b o e => Heap.get?_push_of_some _ (Heap.get?_push_of_some _ e)
  have fresh : ((hp.push (kdv_tup [v])).push (excO C hp.objs.size)).get? (hp.objs.size + 1) = some (excO C hp.objs.size) := by heap_get
  have notK : K.lookup (hp.objs.size + 1) = none := by
    rcases e : K.lookup (hp.objs.size + 1) with _ | o
    · rfl
    · exact absurd (Nat.lt_of_succ_lt (Heap.lt_size (show hp.get? (hp.objs.size + 1) = some o from X _ _ e))) (Nat.lt_irrefl _)
  refine HandSPX.call_own F (fun T => excTail_contains T bm hbm) (X _ _ hC) (looks_findIn X T.iC) (fun self => bind_fn X self T.tC) (single_size v) ?_
  refine init prog w _ _ ⟨(hp.push (kdv_tup [v])).push (excO C hp.objs.size), g, dr, tk, os⟩ _ _ v (X.keeps grown) (lim.keeps grown) fresh notK deep ?_
  intro h' tk' dx ⟨k', hx, dn, dne, hns⟩
  have old : ∀ b o, hp.get? b = some o → h'.get? b = some o :=
    fun b o e => k' b o (Nat.ne_of_lt (Nat.lt_succ_of_lt (Heap.lt_size e))) (grown b o e)
  have z : hp.objs.size + 1 + 1 ≤ dx := by
    first
      | (simpa only [Heap.size_push] using dn)
      | exact dn
      | (have q := dn; rw [Heap.size_push, Heap.size_push] at q; exact q)
  exact ⟨rfl, hq h' tk' (hp.objs.size + 1) dx ⟨old, Nat.le_succ _, ⟨_, hx⟩, Nat.le_trans (Nat.le_trans (Nat.le_succ _) (Nat.le_succ _)) z, dne, hns⟩⟩
end
end GX
end PySem
namespace GG
open PySem PySem.Spec PyProof.Rows L2
theorem relX {fld : Str} {v : V} {v' : Value} (r : RelV v v') (f : Str) : RelO (List.lookup f [(fld, v)]) (if f = fld then some v' else none) := by
  by_cases hw : f = fld
  · subst hw
    rw [if_pos rfl]
    have q : List.lookup f [(f, v)] = some v := by simp [List.lookup]
    rw [q]
    exact r
  · rw [if_neg hw]
    have qw : (f == fld) = false := by simpa using hw
    have q2 : List.lookup f [(fld, v)] = none := by simp [List.lookup, qw]
    rw [q2]
    trivial
section
variable {X : Cx} {C fI : Addr} {cn fld : Str} {B newId initId : String} {bmB : List Value}
/-- X(e), to be raised -/
def tMkX (C : Addr) (fld : Str) (ta : TA) : L2.St → Hp → XK → Prop := fun σ H Q => ta σ H fun vs H1 => ∃ v, vs = [v] ∧ ∀ d, H1 d = none → Q (.ref C) (some d) (upd H1 d (.xd [(fld, v)]))
theorem pmkX {a : Expr} {ta : TA} {p pos : Pos} {k : Nat} (F : ExcBaseFacts B newId initId bmB) (T : PySem.GX.OwnX X.K X.mg cn fld bmB newId C fI) (init : PySem.GX.InitOk X.K fld C fI) (hr : Room k X.A) (ha : PA X [a] ta)
    (hg : Gl X cn := by rfl) (hdb : (cn == ("__debug__" : Str)) = false := by decide)
    (he : starEach (a :: []) X.env = (false, eval a X.env) :: starEach [] X.env := by rfl) (hpl : (backTo pos (starEach [] X.env)).any (·.1) = false := by rfl) :
    PMk X (.Call (.Name cn p) [a] [] pos) (tMkX C fld ta) := by
  intro pins s σ H Q I h
  refine wpAny_Call_Name_kw (ld_glob I hg T.gC ?_ hdb)
  refine PySem.W.callWith_K (h₀ := X.base) I.ok.mod.kin T.kC (thn (ha.run pos pins s σ H _ I h) ?_) he hpl
  intro us s1 hh
  obtain ⟨vs, H1, I1, r1, v, ev, q1⟩ := hh
  subst ev
  refine ⟨I1.kIn, ?_⟩
  obtain ⟨v', rfl, rv⟩ := vals1 r1
  show wpAny _ _ (call (.ref C) [v']) _ _ _
  have hlim := I1.nolimit
  obtain ⟨hp, g, dr, tk, os⟩ := s1
  have room2 := hr.dp
  refine wpAny_call (PySem.GX.madeX F T init I1.kIn hlim (by omega) fun h' tk' e d M => ?_)
  show MkP X pins σ Q (.ref e) ⟨h', g, dr, tk', os⟩
  obtain ⟨t1, hoe⟩ := M.obj
  have hns := M.ns
  obtain ⟨G', g1, g2⟩ := restrict h' fun b => decide (b ≠ e)
  have gk : ∀ b, b ≠ e → G'.get? b = h'.get? b := fun b hb => g1 b (decide_eq_true hb)
  have ge : G'.get? e = none := g2 e (by simp)
  have old : ∀ b o, hp.get? b = some o → G'.get? b = some o := by
    intro b o q
    exact (gk b (Nat.ne_of_lt (Nat.lt_of_lt_of_le (Heap.lt_size q) M.new))).trans (M.keep b o q)
  have ob : ObjOk X.prog X.w (upd H1 d (.xd [(fld, v)])) G' d (.xd [(fld, v)]) :=
    ⟨_, hns.at (fun o q => (gk d M.dne).trans q), fun f => relX rv f⟩
  have J : Inv X pins σ (upd H1 d (.xd [(fld, v)])) ⟨G', g, dr, tk', os⟩ := I1.laid (t' := tk') old M.dbig ob
  refine ⟨e, _, _, ⟨G', g, dr, tk', os⟩, _, .ref C, some d, rfl, J, fun b o q => ?_, ge, hoe, ⟨rfl, rfl⟩, rfl, rfl, ?_, rfl, I1.bare, raises_own T.exC T.tyC, q1 d (I1.hok.fresh M.dbig)⟩
  · by_cases hb : b = e
    · have q' : G'.get? b = some o := q
      rw [hb, ge] at q'
      cases q'
    · exact (gk b hb).symm.trans q
  · rw [upd_ne (Ne.symm M.dne)]
    exact I1.hok.fresh M.new
/-- raise X(e) -/
def tRaiseX (C : Addr) (fld : Str) (W : WX) (ta : TA) : TS := fun _ σ H => tMkX C fld ta σ H fun cls d H' => W cls d σ H'
theorem ps_raiseX {a : Expr} {ta : TA} {W : WX} {p pos pos2 : Pos} {k : Nat} (F : ExcBaseFacts B newId initId bmB) (hc : X.calm = true) (T : PySem.GX.OwnX X.K X.mg cn fld bmB newId C fI) (init : PySem.GX.InitOk X.K fld C fI)
    (hr : Room k X.A) (tk : Takes X W) (ha : PA X [a] ta) (hg : Gl X cn := by rfl) (hdb : (cn == ("__debug__" : Str)) = false := by decide)
    (he : starEach (a :: []) X.env = (false, eval a X.env) :: starEach [] X.env := by rfl) (hpl : (backTo pos (starEach [] X.env)).any (·.1) = false := by rfl) :
    PS X (.Raise (some (.Call (.Name cn p) [a] [] pos)) none pos2) (tRaiseX C fld W ta) := ps_raise hc tk (pmkX F T init hr ha hg hdb he hpl)
/-- e.fld, e the exception that the suite holds (at a; its class cls, its dict d) -/
def tByX (C : Addr) (fld : Str) (a : Addr) (cls : Value) (d : Option Addr) (te : TE) : TE := fun σ H Q => te σ H fun x H1 => x = .ref a ∧ cls = .ref C ∧ ∃ (dd : Addr) (v : V), d = some dd ∧ H1 dd = some (.xd [(fld, v)]) ∧ Q v H1
theorem pe_byX {a : Addr} {oe : Obj} {cls : Value} {d : Option Addr} {pn : List (Addr × Obj)} {e : Expr} {te : TE} {pos : Pos} (T : PySem.GX.OwnX X.K X.mg cn fld bmB newId C fI) (hz : Zc cls d oe) (hf : ∃ vs, oe.data = .fields vs)
    (he : PE (X.suite a ((a, oe) :: pn)) e te) (hb : attributeBase e fld X.env (eval e X.env) = eval e X.env := by rfl) :
    PE (X.suite a ((a, oe) :: pn)) (.Attribute e fld pos) (tByX C fld a cls d te) := by
  refine ⟨fun pins s σ H Q I h => ?_⟩
  refine attr_of hb (thn (he.run pins s σ H _ I h) ?_)
  intro u s1 hh
  obtain ⟨x, H1, I1, rx, ex, ec, dd, v, ed, ea, q⟩ := hh
  subst ex ec ed
  obtain rfl : u = Value.ref a := rx
  obtain ⟨ha, _⟩ := I1.pin (a, oe) (List.mem_append_left _ List.mem_cons_self)
  obtain ⟨vs, hd⟩ := hf
  have hx : ObjOk X.prog X.w H1 s1.heap dd (.xd [(fld, v)]) := I1.hok dd _ ea
  obtain ⟨mA, hns, hr⟩ := hx
  obtain ⟨od, ho, hl⟩ := lookIn_ns hns
  have l : List.lookup fld [(fld, v)] = some v := by simp [List.lookup]
  obtain ⟨u, hu, ru⟩ := RelO.some_of (v := v) (o := mA fld) (by rw [← l]; exact hr fld)
  have J : PySem.W.InstAt s1.heap a oe C (some od) := ⟨ha, hz.1, by unfold PySem.W.notCls; rw [hd] <;> rfl, by rw [hz.2]; exact ho⟩
  exact HandSPX.exc_get I1.kIn J T.ga T.gg T.exC (PySem.W.findObj_own T.hdC T.noN rfl (by rw [hl, hu])) (handed_of ru) ⟨v, H1, I1.tok _, ru, q⟩
end
end GG

set_option maxHeartbeats 4000000
namespace GG
open PySem PySem.Spec PyProof.Rows L2
/-! ### several except clauses, with a name or without -/
/-- behind a suite whose exception is named in slot i -/
def offI (i : Nat) (D : Ends) : Ends :=
  { nx := fun σ H => D.nx (σ.set i none) H, rt := D.rt, bk := fun σ H => D.bk (σ.set i none) H, ct := fun σ H => D.ct (σ.set i none) H }
abbrev Clause := Value × Option Nat × (Addr → Value → Option Addr → TS)
def wClauses (K : PySem.W.Frag) (Wout : WX) (D : Ends) : List Clause → WX
  | [] => Wout
  | (c, none, ts) :: r => fun cls d σ H => ∃ b, PySem.W.exmOne K cls c = some b ∧ (b = true → ∀ a, H a = none → ts a cls d D σ H) ∧ (b = false → wClauses K Wout D r cls d σ H)
  | (c, some i, ts) :: r => fun cls d σ H => ∃ b, PySem.W.exmOne K cls c = some b ∧
      (b = true → ∀ a, H a = none → ts a cls d (offI i D) (σ.set i (some (.ref a))) H) ∧ (b = false → wClauses K Wout D r cls d σ H)
inductive Clauses (X : Cx) : List ExceptHandler → List Clause → Prop
  | nil : Clauses X [] []
  | plain {x : Str} {c : Value} {ts : Addr → Value → Option Addr → TS} {b₀ : Stmt} {suite : List Stmt} {np pos' : Pos} {hds : List ExceptHandler} {l : List Clause} (hc : Names X x c)
      (hsu : ∀ (a : Addr) (oe : Obj) (cls : Value) (d : Option Addr) (pn : List (Addr × Obj)), Zc cls d oe → (∃ vs, oe.data = .fields vs) →
        PSs (X.suite a ((a, oe) :: pn)) (b₀ :: suite) (ts a cls d))
      (r : Clauses X hds l) : Clauses X (.ExceptHandler (some (.Name x np)) none (b₀ :: suite) pos' :: hds) ((c, none, ts) :: l)
  | named {x n : Str} {i : Nat} {c : Value} {ts : Addr → Value → Option Addr → TS} {b₀ : Stmt} {suite : List Stmt} {np pos' : Pos} {hds : List ExceptHandler} {l : List Clause}
      (hN : X.N.Nodup) (hi : X.N[i]? = some n) (hln : X.env.kindOf n = some .local) (hc : Names X x c)
      (hsu : ∀ (a : Addr) (oe : Obj) (cls : Value) (d : Option Addr) (pn : List (Addr × Obj)), Zc cls d oe → (∃ vs, oe.data = .fields vs) →
        PSs (X.suite a ((a, oe) :: pn)) (b₀ :: suite) (ts a cls d))
      (r : Clauses X hds l) : Clauses X (.ExceptHandler (some (.Name x np)) (some n) (b₀ :: suite) pos' :: hds) ((c, some i, ts) :: l)
section
variable {X : Cx} {body : List Stmt} {h₀ : ExceptHandler} {hds : List ExceptHandler} {l : List Clause} {pos : Pos} {tb : WX → TS} {Wout : WX}
/-- the handlers, met by the exception at a in flight -/
theorem clauses_go {pins : List (Addr × Obj)} {σ' : L2.St} {H' : Hp} {sI s' : Shared} {a : Addr} {B : Heap} {cls : Value} {d : Option Addr} {D : Ends}
    (hs : X.stack = X.env :: X.outer) (hf : X.env.frame = some X.env.locals) (tk : Takes X Wout) (J : Inv X pins σ' H' sI)
    (nb : ∀ b o, sI.heap.get? b = some o → b ∉ frs X.stack → B.get? b = some o) (up : sI.heap.UpToSlots s'.heap) (na : H' a = none)
    (os : s'.os = sI.os) (ag : AllBare s'.gens) {h3 : Heap} (fl3 : HandSPX.FlyingZ B (X.env :: X.outer) a (Zc cls d) h3) (up3 : s'.heap.UpToSlots h3)
    {k : List ExceptHandler} {m : List Clause} (C : Clauses X k m) :
    wClauses X.K Wout D m cls d σ' H' → wpAny (model X.prog X.w) X.A (handleBy (.ref a) X.env k) (SP X pins D) X.xe { s' with heap := h3 } := by
  have ok := J.ok
  have upA := up.trans up3
  have J3 : Inv X pins σ' H' { s' with heap := h3 } := J.landed nb fl3.1 upA os ag
  obtain ⟨oe3, vs3, he3, hz3, hd3⟩ := fl3.there
  have outside : a ∉ frs (X.env :: X.outer) := by
    intro hm
    obtain ⟨_, o', e', hnf⟩ := fl3.2.2.1.mem hm
    rw [he3] at e'
    cases e'
    exact hnf _ hd3
  have nL : a ≠ X.env.locals := fun z => outside (List.mem_filterMap.mpr ⟨X.env, List.mem_cons_self, by rw [hf, z]⟩)
  have nF : a ∉ X.fs := by
    intro hm
    obtain ⟨e, he, q⟩ := List.mem_filterMap.mp hm
    exact outside (List.mem_filterMap.mpr ⟨e, List.mem_cons_of_mem _ he, q⟩)
  have S3 := J3.suite he3 hd3 na nL nF
  have look : ∀ {x : Str} {c : Value} {np : Pos} {Q : Value → Shared → Prop} {E : Value → Shared → Prop}, Names X x c → Q c { s' with heap := h3 } →
      wpAny (model X.prog X.w) (X.A.mark (some (.ref a))) (eval (.Name x np) X.env) Q E { s' with heap := h3 } := by
    intro x c np Q E hc q
    obtain ⟨hg, hdbg, hm | ⟨hm, hv, hnn⟩⟩ := hc
    · exact ld_glob (X := X.suite a ((a, oe3) :: (X.pn ++ pins))) S3 hg hm q hdbg
    · exact ld_blt (X := X.suite a ((a, oe3) :: (X.pn ++ pins))) S3 hg hm hv q hnn hdbg
  have kindA : PySem.W.Looks (model X.prog X.w) h3 (typeOf (.ref a)) cls := by
    intro A Q E s kp q
    exact wpAny_typeOf_ref (kp _ _ he3) (by rw [hz3.1]; exact q)
  induction C with
  | nil =>
    intro wish
    refine wpAny_handleBy_nil ?_
    obtain ⟨k1, k2, k3, oe, vs, T, oT, ts', he, hz, hd, h1, hr⟩ := id fl3
    unfold PySem.passOn
    refine wpAny_bind (wpAny_field he hd h1 ?_)
    rw [if_neg (show ¬ ((Value.ref T == Value.none) = true) from by simp)]
    have out : wpAny (model X.prog X.w) X.A (setFlight (.ref a) X.env.frame)
        (fun _ s4 => wpAny (model X.prog X.w) X.A (throw (.ref a) : Sem Flow) (SP X pins D) X.xe s4) X.xe { s' with heap := h3 } := by
      rw [hf]
      refine HandSPX.setFlight_upZ fl3 fun h4 hh4 up4 => wpAny_throw (tk _ _ ?_)
      exact ⟨a, B, sI, pins, σ', H', cls, d, rfl, J, nb, upA.trans up4, .inr (.inr (by rw [hs]; exact hh4)), na, os, ag, wish⟩
    first
      | exact wpAny_bind (wpAny_pure (wpAny_bind out))
      | exact wpAny_bind out
  | @plain x c ts b₀ suite np pos' hds2 l2 hc hsu r ih =>
    intro wish
    obtain ⟨b, hb1, yes, no⟩ := wish
    refine wpAny_handleBy_cons (codeAny_handlers_test ?_) (by intro q; cases q)
    have LM := PySem.W.exm_one (M := model X.prog X.w) (J3.kIn) kindA hb1
    refine look hc (LM.here ?_)
    cases b with
    | false => exact ih (no rfl)
    | true =>
      refine codeAny_handlers_suite (HandSPX.lands_againZ fl3 fun h4 fl4 up4 => ?_)
      have J4 : Inv X pins σ' H' { s' with heap := h4 } := J.landed nb fl4.1 (upA.trans up4) os ag
      obtain ⟨oe4, vs4, he4, hz4, hd4⟩ := fl4.there
      have S4 := J4.suite he4 hd4 na nL nF
      refine wpAny_mono ((hsu a oe4 cls d (X.pn ++ pins) hz4 ⟨_, hd4⟩).run [] _ _ H' _ S4 (yes rfl a na)) (fun f s6 hsp => ?_) (fun _ _ z => False.elim z)
      cases f with
      | next => exact hsp.imp fun _ z => z.imp fun _ z => ⟨z.1.unsuite ok, z.2⟩
      | brk => exact hsp.imp fun _ z => z.imp fun _ z => ⟨z.1.unsuite ok, z.2⟩
      | cont => exact hsp.imp fun _ z => z.imp fun _ z => ⟨z.1.unsuite ok, z.2⟩
      | ret u => exact hsp.imp fun _ z => z.imp fun _ z => z.imp fun _ z => ⟨z.1.unsuite ok, z.2⟩
  | @named x n i c ts b₀ suite np pos' hds2 l2 hN hi hln hc hsu r ih =>
    intro wish
    obtain ⟨b, hb1, yes, no⟩ := wish
    refine wpAny_handleBy_cons (codeAny_handlers_test ?_) (by intro q; cases q)
    have LM := PySem.W.exm_one (M := model X.prog X.w) (J3.kIn) kindA hb1
    refine look hc (LM.here ?_)
    cases b with
    | false => exact ih (no rfl)
    | true =>
      refine codeAny_handlers_suite_as (HandSPX.lands_againZ fl3 fun h4 fl4 up4 => ?_)
      have J4 : Inv X pins σ' H' { s' with heap := h4 } := J.landed nb fl4.1 (upA.trans up4) os ag
      obtain ⟨oe4, vs4, he4, hz4, hd4⟩ := fl4.there
      have S4 := J4.suite he4 hd4 na nL nF
      refine store_ok (X := X.suite a ((a, oe4) :: (X.pn ++ pins))) (v := .ref a) S4 hN hi (.inl hln) rfl (fun s5 S5 => ?_) (.inr hln)
      refine wpAny_mono ((hsu a oe4 cls d (X.pn ++ pins) hz4 ⟨_, hd4⟩).run [] s5 _ H' _ S5 (yes rfl a na)) (fun f s6 hsp => ?_) (fun _ _ z => False.elim z)
      have gone : ∀ {σ6 : L2.St} {H6 : Hp} {Q : Shared → Prop}, Inv (X.suite a ((a, oe4) :: (X.pn ++ pins))) [] σ6 H6 s6 → (∀ s7, Inv X pins (σ6.set i none) H6 s7 → Q s7) →
          wpAny (model X.prog X.w) X.A (do bindName X.env n .none; unbindBehindTheSuite X.env n pos') (fun _ s7 => Q s7) X.xe s6 :=
        fun {σ6 H6 Q} S6 hq => gone_ok (S6.unsuite ok) hN hi hln hq
      cases f with
      | next =>
        obtain ⟨σ6, H6, S6, q6⟩ := hsp
        exact gone S6 fun s7 J7 => ⟨_, _, J7, q6⟩
      | brk =>
        obtain ⟨σ6, H6, S6, q6⟩ := hsp
        exact gone S6 fun s7 J7 => ⟨_, _, J7, q6⟩
      | cont =>
        obtain ⟨σ6, H6, S6, q6⟩ := hsp
        exact gone S6 fun s7 J7 => ⟨_, _, J7, q6⟩
      | ret u =>
        obtain ⟨v6, σ6, H6, S6, r6, q6⟩ := hsp
        exact gone S6 fun s7 J7 => ⟨_, _, _, J7, r6, q6⟩
/-- try: .. except X as e: .. except Y: .. -/
theorem ps_tryC (hs : X.stack = X.env :: X.outer) (hf : X.env.frame = some X.env.locals) (tk : Takes X Wout)
    (hb : ∀ (W : WX) (pn : List (Addr × Obj)) (xe : Value → Shared → Prop), Takes (X.tr pn xe) W → PassesOwn (model X.prog X.w) X.A X.env xe → PSs (X.tr pn xe) body (tb W))
    (hh : Clauses X (h₀ :: hds) l) : PS X (.Try body (h₀ :: hds) [] [] pos) (fun D σ H => tb (wClauses X.K Wout D l) D σ H) := by
  constructor
  intro pins s σ H D I h
  have ok := I.ok
  have fr : X.A.frames = some (X.env :: X.outer) := by rw [ok.frames, hs]
  refine wpAny_Try_except ?_
  have meet : Takes (X.tr (X.pn ++ pins) (fun e s₁ => wpAny (model X.prog X.w) X.A (noteFrame e X.env) (fun _ s₂ => wpAny (model X.prog X.w) X.A (setFlight e none)
      (fun _ s₃ => wpAny (model X.prog X.w) X.A (handleBy e X.env (h₀ :: hds)) (SP X pins D) X.xe s₃) X.xe s₂) X.xe s₁)) (wClauses X.K Wout D l) := by
    intro u s' xx
    obtain ⟨a, B, sI, pins', σ', H', cls, d, rfl, J', nb, up, sky, na, os, ag, wish⟩ := xx
    have sky' : Sky B (X.env :: X.outer) a (Zc cls d) X.env.locals s'.heap := by rw [← hs]; exact sky
    show wpAny (model X.prog X.w) X.A (noteFrame (.ref a) X.env) _ _ _
    exact Sky.land Zc.steady fr hf sky' fun h3 fl3 up3 => clauses_go hs hf tk (J'.ofTry ok) nb up na os ag fl3 up3 hh wish
  have run := (hb _ _ _ meet PassesOwn.looking).run [] s σ H D (I.toTry _) h
  refine wpAny_mono run (fun f s1 hsp => ?_) (fun e s1 he => he)
  cases f with
  | next =>
    obtain ⟨σ', H', J', q⟩ := hsp
    exact wpAny_execs_nil ⟨σ', H', J'.ofTry ok, q⟩
  | brk => exact hsp.imp fun _ z => z.imp fun _ z => ⟨z.1.ofTry ok, z.2⟩
  | cont => exact hsp.imp fun _ z => z.imp fun _ z => ⟨z.1.ofTry ok, z.2⟩
  | ret u => exact hsp.imp fun _ z => z.imp fun _ z => z.imp fun _ z => ⟨z.1.ofTry ok, z.2⟩
end
end GG

set_option maxHeartbeats 4000000
namespace GG
open PySem PySem.Spec PyProof.Rows L2 LamX
/-! ### the end of a law's row whose text makes lambdas -/
section
variable {P : Program} {w : World} {K : PySem.W.Frag} {mg mb : Str → Option Value} {CX : CXT} {k : Nat} {fa a : Addr} {cs : List (Addr × Addr)} {fd : FuncData}
  {x : Str} {sp : Sp} {s₁ : Shared} {vs : List Value} {ns : List Int}
theorem law_coreT {H : Hp} (KX : K.In s₁.heap) (ng : s₁.heap.Ns mainGlobals mg) (nb : s₁.heap.Ns builtinsNs mb)
    (bb : ∀ x : Str, x ≠ "__name__" → mb x = bootBuiltins x) (lim : s₁.heap.NoLimit) (g0 : s₁.gens = #[])
    (empties : ∀ p ∈ cs, s₁.heap.get? p.2 = some { cls := .none, data := .fields #[] }) (notT : ∀ p ∈ cs, K.lookup p.2 = none)
    (code : ∀ p ∈ cs, PySem.W.CodeHd s₁.heap p.1 p.2)
    (hbm : ∃ (bm : Addr) (ob : Obj), mg "__builtins__" = some (.ref bm) ∧ bm ≠ builtinsNs ∧ s₁.heap.get? bm = some ob ∧ ob.cls = .type "module" ∧ ob.dict = some builtinsNs ∧ ob.data = .plain)
    (ha : s₁.heap.get? a = some { cls := .type "list", data := .seq vs.toArray }) (room : Room k callerA)
    (F : ∀ base : Heap, K.In base → base.Ns mainGlobals mg → (∀ p ∈ cs, TabB base mg p.1 p.2) → FnG P w K mg base CX k fa fd [x] sp)
    (bind : ∀ (s : Shared) (u : Value), BindsTo s fd ⟨[u], []⟩ [(x, u)])
    (want : sp [.ref a] H (fun v _ => v = .bl true) fun _ _ _ => False)
    (noX : ∀ H e s', CX [] H s₁ (fun _ _ _ => False) e s' → False)
    (tabs : ∀ p ∈ cs, H p.2 = some (.tbl #[]))
    (only : ∀ b, H b = none ∨ b ∈ cs.map (·.2) ∨ ∃ o xs, H b = some (.frz o (.lst xs))) (ok : HOk P w H s₁.heap)
    (where_ : ∀ b, H b ≠ none → b = a ∨ b ∈ cs.map (·.2)) (notK : H a ≠ none → K.lookup a = none) :
    codeAny (model P w) callerA (.call (.ref fa) ⟨[.ref a], []⟩)
      (fun r s' => r = .ok (.ret (.bool true)) ∧ OldK s₁.heap s'.heap ∧ s'.os = s₁.os ∧ AllBare s'.gens) s₁ := by
  have tabAt : ∀ b : Addr, b ∈ cs.map (·.2) → s₁.heap.get? b = some { cls := .none, data := .fields #[] } := by
    intro b hb
    obtain ⟨p, hp, e⟩ := List.mem_map.mp hb
    rw [← e]
    exact empties p hp
  have untracked : ∀ {b : Addr} {o : Obj}, s₁.heap.get? b = some o → (∀ vs n, o.data ≠ .seq vs n) → o.data ≠ .fields #[] → H b = none := by
    intro b o e h1 h2
    rcases hq : H b with _ | u
    · rfl
    · rcases where_ b (fun z => by rw [z] at hq; cases hq) with e' | e'
      · rw [e', ha] at e
        cases e
        exact (h1 _ _ rfl).elim
      · rw [tabAt b e'] at e
        cases e
        exact (h2 rfl).elim
  have dictFree : ∀ {b : Addr} {o : Obj} {es : Array DictEntry} {ep : Nat}, s₁.heap.get? b = some o → o.data = .dict es ep → H b = none := by
    intro b o es ep e d
    exact untracked e (fun vs n z => by rw [d] at z; cases z) (fun z => by rw [d] at z; cases z)
  have nsB : ∀ {b : Addr} {m : Str → Option Value}, s₁.heap.Ns b m → (hidT s₁.heap H).Ns b m := by
    rintro b m ⟨o, es, ep, e, d, r⟩
    exact ⟨o, es, ep, hidT_get e (dictFree e d), d, r⟩
  have KB : K.In (hidT s₁.heap H) := by
    intro b o e
    refine hidT_get (KX b o e) ?_
    rcases hq : H b with _ | u
    · rfl
    · rcases where_ b (fun z => by rw [z] at hq; cases hq) with e' | e'
      · rw [e'] at e hq
        rw [notK (fun z => by rw [z] at hq; cases hq)] at e
        cases e
      · obtain ⟨p, hp, ep⟩ := List.mem_map.mp e'
        rw [← ep, notT p hp] at e
        cases e
  have TB : ∀ p ∈ cs, TabB (hidT s₁.heap H) mg p.1 p.2 := by
    intro p hp
    have atP := empties p hp
    refine ⟨?_, ?_, fun z => ?_⟩
    · obtain ⟨o, us, file, tf, flags, tg, inF, text, tt, e1, r1, r2, r3, r4, r5, r6, r7, r8, hne⟩ := code p hp
      refine ⟨o, us, file, tf, flags, tg, inF, text, tt, hidT_get e1 (untracked e1 (fun vs n z => ?_) fun z => ?_), r1, r2, r3, r4, r5, r6, r7, r8, hne⟩
      · rw [r2] at z
        cases z
      · rw [r2] at z
        cases z
        simp at r3
    · obtain ⟨bm, ob, b1, b2, b3, b4, b5, b6⟩ := hbm
      have notG : bm ≠ mainGlobals := by
        intro q
        obtain ⟨o, es, ep, e, hd, _⟩ := ng
        rw [q, e] at b3
        cases b3
        rw [hd] at b6
        cases b6
      have notP : bm ≠ p.2 := by
        intro q
        rw [q, atP] at b3
        cases b3
        cases b6
      refine ⟨bm, ob, b1, b2, notG, notP, hidT_get b3 (untracked b3 (fun vs n z => ?_) fun z => ?_), b4, b5, b6⟩
      · rw [b6] at z
        cases z
      · rw [b6] at z
        cases z
    · obtain ⟨o, es, ep, e, hd, _⟩ := ng
      rw [z, atP] at e
      cases e
      cases hd
  have en : Env0 P w K mg (hidT s₁.heap H) callerA [] s₁ H := by
    refine ⟨rfl, ⟨KB, nsB ng, ⟨mb, nsB nb, bb⟩, ?_⟩, fun b o e => of_hidT e, Nat.le_of_eq (hidT_size _ _), trivial, ?_, ok, .of_eq g0⟩
    · obtain ⟨mc, h1, h2⟩ := lim
      exact ⟨mc, nsB h1, h2⟩
    · intro b z
      cases (show b ∈ ([] : List Addr) from z)
  refine codeAny_mono ((F _ KB (nsB ng) TB).go callerA [] s₁ H ⟨[.ref a], []⟩ [.ref a] [.ref a] _ _ rfl room en
    (bind s₁ (.ref a)) (.cons rfl .nil) want) ?_
  intro r s' z
  cases r with
  | error e => exact (noX H e s' z).elim
  | ok fl =>
    cases fl with
    | next => exact z.elim
    | brk => exact z.elim
    | cont => exact z.elim
    | ret u =>
      obtain ⟨v, H', os, bare, un, ok', rv, q⟩ := z
      cases (show v = .bl true from q)
      cases (show u = Value.bool true from rv)
      have stays : ∀ b o, b ∉ cs.map (·.2) → s₁.heap.get? b = some o → s'.heap.get? b = some o := by
        intro b o nb e
        rcases only b with hq | hq | ⟨ob, xs, hq⟩
        · exact un.keep b o e hq (fun z => by cases (show b ∈ ([] : List Addr) from z)) (fun z => by cases z)
        · exact absurd hq nb
        · have f1 := (ok b _ hq).left
          have f2 := (ok' b _ (un.frzs b ob _ hq)).left
          rw [e] at f1
          cases f1
          exact f2
      have grows : ∀ p ∈ cs, ∃ more : Array Value, s'.heap.get? p.2 = some { cls := .none, data := .fields more } := by
        intro p hp
        obtain ⟨more, z⟩ := un.tbls p.2 #[] (tabs p hp)
        exact ⟨_, ok' p.2 _ z⟩
      refine ⟨rfl, ⟨fun b o e => ?_, fun b o e => ?_⟩, os, bare⟩
      · by_cases hb : b ∈ cs.map (·.2)
        · obtain ⟨p, hp, ep⟩ := List.mem_map.mp hb
          obtain ⟨more, hm⟩ := grows p hp
          rw [← ep] at e ⊢
          rw [empties p hp] at e
          cases e
          exact .inr (.inl ⟨((code p hp).tab (empties p hp)).isCodeTable, rfl, #[], more, rfl, by rw [Array.empty_append]; exact hm⟩)
        · exact .inl (stays b o hb e)
      · by_cases hb : b ∈ cs.map (·.2)
        · obtain ⟨p, hp, ep⟩ := List.mem_map.mp hb
          obtain ⟨more, hm⟩ := grows p hp
          rw [← ep]
          exact ⟨_, hm⟩
        · exact ⟨o, stays b o hb e⟩
/-- the heap at the law's entry: the script, the tables -/
def entryH (known : Bool) (a : Addr) (vs : List Value) (ns : List Int) (ts : List Addr) : Hp := fun b =>
  if b = a ∧ known = false then some (.frz { cls := .type "list", data := .seq vs.toArray } (.lst (ns.map V.int)))
  else if b ∈ ts then some (.tbl #[]) else none
theorem law_callT (KX : K.In s₁.heap) (ng : s₁.heap.Ns mainGlobals mg) (nb : s₁.heap.Ns builtinsNs mb)
    (bb : ∀ x : Str, x ≠ "__name__" → mb x = bootBuiltins x) (lim : s₁.heap.NoLimit) (g0 : s₁.gens = #[])
    (empties : ∀ p ∈ cs, s₁.heap.get? p.2 = some { cls := .none, data := .fields #[] }) (notT : ∀ p ∈ cs, K.lookup p.2 = none)
    (code : ∀ p ∈ cs, PySem.W.CodeHd s₁.heap p.1 p.2)
    (hbm : ∃ (bm : Addr) (ob : Obj), mg "__builtins__" = some (.ref bm) ∧ bm ≠ builtinsNs ∧ s₁.heap.get? bm = some ob ∧ ob.cls = .type "module" ∧ ob.dict = some builtinsNs ∧ ob.data = .plain)
    (ha : s₁.heap.get? a = some { cls := .type "list", data := .seq vs.toArray }) (hi : IntsAre vs ns) (hl : ns.length ≤ sizeLine) (room : Room k callerA)
    (F : ∀ base : Heap, K.In base → base.Ns mainGlobals mg → (∀ p ∈ cs, TabB base mg p.1 p.2) → FnG P w K mg base CX k fa fd [x] sp)
    (bind : ∀ (s : Shared) (u : Value), BindsTo s fd ⟨[u], []⟩ [(x, u)])
    (want : ∀ H : Hp, (∀ p ∈ cs, H p.2 = some (.tbl #[])) → SqL K H a (ns.map V.int) → sp [.ref a] H (fun v _ => v = .bl true) fun _ _ _ => False)
    (noX : ∀ H e s', CX [] H s₁ (fun _ _ _ => False) e s' → False) :
    codeAny (model P w) callerA (.call (.ref fa) ⟨[.ref a], []⟩)
      (fun r s' => r = .ok (.ret (.bool true)) ∧ OldK s₁.heap s'.heap ∧ s'.os = s₁.os ∧ AllBare s'.gens) s₁ := by
  have vi := vals_ints hi
  have tabAt : ∀ b : Addr, b ∈ cs.map (·.2) → s₁.heap.get? b = some { cls := .none, data := .fields #[] } := by
    intro b hb
    obtain ⟨p, hp, e⟩ := List.mem_map.mp hb
    rw [← e]
    exact empties p hp
  have aT : a ∉ cs.map (·.2) := by
    intro z
    have q := tabAt a z
    rw [ha] at q
    cases (show Data.seq vs.toArray _ = Data.fields #[] from congrArg Obj.data (Option.some.inj q))
  have atTab : ∀ (kn : Bool) b, b ∈ cs.map (·.2) → entryH kn a vs ns (cs.map (·.2)) b = some (.tbl #[]) := by
    intro kn b hb
    unfold entryH
    rw [if_neg (fun (z : b = a ∧ kn = false) => aT (z.1 ▸ hb)), if_pos hb]
  have inTabs : ∀ p ∈ cs, p.2 ∈ cs.map (·.2) := fun p hp => List.mem_map.mpr ⟨p, hp, rfl⟩
  have cases3 : ∀ (kn : Bool) b, (b = a ∧ kn = false ∧ entryH kn a vs ns (cs.map (·.2)) b = some (.frz { cls := .type "list", data := .seq vs.toArray } (.lst (ns.map V.int)))) ∨
      (b ∈ cs.map (·.2) ∧ entryH kn a vs ns (cs.map (·.2)) b = some (.tbl #[])) ∨ entryH kn a vs ns (cs.map (·.2)) b = none := by
    intro kn b
    by_cases h1 : b = a ∧ kn = false
    · exact .inl ⟨h1.1, h1.2, if_pos h1⟩
    · by_cases h2 : b ∈ cs.map (·.2)
      · exact .inr (.inl ⟨h2, atTab kn b h2⟩)
      · refine .inr (.inr ?_)
        unfold entryH
        rw [if_neg h1, if_neg h2]
  have main : ∀ kn : Bool, SqL K (entryH kn a vs ns (cs.map (·.2))) a (ns.map V.int) → (kn = false → K.lookup a = none) →
      codeAny (model P w) callerA (.call (.ref fa) ⟨[.ref a], []⟩)
        (fun r s' => r = .ok (.ret (.bool true)) ∧ OldK s₁.heap s'.heap ∧ s'.os = s₁.os ∧ AllBare s'.gens) s₁ := by
    intro kn sq hk
    refine law_coreT KX ng nb bb lim g0 empties notT code hbm ha room F bind (want _ (fun p hp => atTab kn _ (inTabs p hp)) sq) noX
      (fun p hp => atTab kn _ (inTabs p hp)) (fun b => ?_) (fun b u z => ?_) (fun b z => ?_) (fun z => ?_)
    · rcases cases3 kn b with ⟨_, _, e⟩ | ⟨e, _⟩ | e
      · exact .inr (.inr ⟨_, _, e⟩)
      · exact .inr (.inl e)
      · exact .inl e
    · rcases cases3 kn b with ⟨rfl, _, e⟩ | ⟨m, e⟩ | e
      · rw [e] at z
        cases z
        exact ⟨ha, by rw [List.length_map]; exact hl, vs, _, vi, ha⟩
      · rw [e] at z
        cases z
        exact tabAt b m
      · rw [e] at z
        cases z
    · rcases cases3 kn b with ⟨e, _⟩ | ⟨m, _⟩ | e
      · exact .inl e
      · exact .inr m
      · exact absurd e z
    · rcases cases3 kn a with ⟨_, e, _⟩ | ⟨m, _⟩ | e
      · exact hk e
      · exact absurd m aT
      · exact absurd e z
  rcases hk : K.lookup a with _ | o
  · refine main false (.inl (.inr ⟨{ cls := .type "list", data := .seq vs.toArray }, if_pos ⟨rfl, rfl⟩⟩)) (fun _ => hk)
  · have e := KX a o hk
    rw [ha] at e
    cases e
    refine main true (.inr ⟨_, vs.toArray, _, hk, rfl, rfl, rfl, by rw [List.size_toArray, hi.length]; exact hl, by simpa using vi⟩) (fun z => by cases z)
end
/-- what is known of the law's promise at the head's heap h -/
def LawT (l : PySem.W.OpenLaw) (w : World) (K : PySem.W.Frag) (CX : CXT) (k n : Nat) (x : Str) (mg : Str → Option Value) (fa : Addr) (h : Heap) : Prop :=
  ∃ (fd : FuncData) (cs : List (Addr × Addr)) (sp : Sp), (∀ p ∈ cs, h.get? p.2 = some { cls := .none, data := .fields #[] }) ∧ (∀ p ∈ cs, K.lookup p.2 = none) ∧
    (∀ p ∈ cs, PySem.W.CodeHd h p.1 p.2) ∧ (∀ (s : Shared) (u : Value), BindsTo s fd ⟨[u], []⟩ [(x, u)]) ∧
    (∀ (H : Hp) (a : Addr) (ns : List Int), ns.length ≤ n → (∀ p ∈ cs, H p.2 = some (.tbl #[])) → SqL K H a (ns.map V.int) →
      sp [.ref a] H (fun v _ => v = .bl true) fun _ _ _ => False) ∧
    ∀ base : Heap, K.In base → base.Ns mainGlobals mg → (∀ p ∈ cs, TabB base mg p.1 p.2) → FnG l.prog w K mg base CX k fa fd [x] sp
theorem walkT {l : PySem.W.OpenLaw} {n k : Nat} {q : Program} {loose : List Str} {XP : (Str → Option Value) → Heap → Prop} {YP : World → Heap → Prop} {d : DefRec}
    {K : Params → PySem.W.Frag} {CX : World → CXT} {x : Str}
    (hn : l.most = some n) (hn2 : n ≤ sizeLine) (hdf : d.params.defaults = []) (room : Room k callerA) (hY : ∀ (w : World) (h : Heap), YP w h → (K w.params).In h)
    (F : ∀ (w : World) (mg : Str → Option Value) (fa : Addr) (h : Heap), YP w h → (K w.params).In h → h.Ns mainGlobals mg → mg d.name = some (.ref fa) →
      LawT l w (K w.params) (CX w) k n x mg fa h)
    (noX : ∀ (w : World) (H : Hp) (s : Shared) (e : Value) (s' : Shared), CX w [] H s (fun _ _ _ => False) e s' → False) :
    PySem.W.WalkO q loose XP YP l.row.toRowW d [] (fun f vs => PySem.call f vs) := by
  apply Att.attach_call hn hdf
  intro w s₀ s₁ mg mb fa o pm cd doc a vs ns G Y ho hd hcd hmg hobj hints hlen hg
  obtain ⟨fd, cs, sp, h1, h2, h3, hb, hsp, hF⟩ := F w mg fa _ Y (hY w _ Y) G.T.g hmg
  exact law_callT (hY w _ Y) G.T.g G.T.b G.T.builtins G.T.nolimit hg h1 h2 h3 G.T.bmain hobj hints (Nat.le_trans hlen hn2) room hF hb
    (fun H hH hS => hsp H a ns hlen hH hS) (fun H e s' => noX w H s₁ e s')
end GG

set_option maxHeartbeats 4000000
namespace PySem
open Sem (wp)
/-! ### enumerate(v) over whatever iter(v) begins -/
theorem meets_enum1 {v : Value} {o : Obj} {H : Heap → Prop} (B : Begins v o H) :
    Meets (Builtin.«enumerate.__new__» ⟨[.type "enumerate", v], []⟩) (fun _ R s => H s.heap ∧
      R (.ok (.ret (.ref (s.heap.push o).objs.size)))
        { s with heap := (s.heap.push o).push { cls := .type "enumerate", data := .fields #[.none, .bool false, .ref s.heap.objs.size, rawInt 0, .none, .none] } }) :=
  .of_wp fun prog w A R s h => by
    obtain ⟨hp, g, d, tk, os⟩ := s
    obtain ⟨h1, h⟩ := h
    have hsub := sub_enumerate
    have q1 : ∀ {A' : Around} {E : Value → Shared → Prop} {Q : Value → Shared → Prop}, Q (.ref hp.objs.size) ⟨hp.push o, g, d, tk, os⟩ → wpAny (model prog w) A' (pyIter v) Q E ⟨hp, g, d, tk, os⟩ :=
      fun q => B.iter prog w _ _ ⟨hp, g, d, tk, os⟩ _ h1 q
    wp_walk using q1
    refine wpAny_stack_any fun st => wpAny_pure ?_
    split
    · rename_i c _ _ _ _ _
      cases (c == Value.type "enumerate")
      · wp_walk using q1
        exact ⟨_, rfl, h⟩
      · wp_walk using q1
        exact ⟨_, rfl, h⟩
    · wp_walk using q1
      exact ⟨_, rfl, h⟩
section
variable {prog : Program} {w : World} {A : Around} {E : Value → Shared → Prop} {s : Shared}
theorem enum_begins1 {v : Value} {o : Obj} {H : Heap → Prop} {Q : Value → Shared → Prop} (B : Begins v o H) (h1 : H s.heap)
    (h : ∀ h', IsEnum h' (s.heap.objs.size + 1) s.heap.objs.size 0 .none → h'.get? s.heap.objs.size = some o → h'.objs.size = s.heap.objs.size + 2 →
      (∀ b o, s.heap.get? b = some o → h'.get? b = some o) → Q (.ref (s.heap.objs.size + 1)) { s with heap := h' }) :
    wpAny (model prog w) A (call (.type "enumerate") [v]) Q E s := by
  refine callType_new F.called_enumerate (by decide) (F.typeCall_enumerate_1 _) (F.newCall_enumerate_1 _)
    (fun obj => F.args_object_init_2 obj _) F.entry_enumerate_new (meets_enum1 B) ⟨h1, ?_⟩
  have hz : (s.heap.push o).objs.size = s.heap.objs.size + 1 := Heap.size_push ..
  show _ ∧ _
  rw [hz]
  have he : IsEnum ((s.heap.push o).push { cls := .type "enumerate", data := .fields #[.none, .bool false, .ref s.heap.objs.size, rawInt 0, .none, .none] })
      (s.heap.objs.size + 1) s.heap.objs.size 0 .none := by
    have := Heap.get?_push_size (s.heap.push o) (o := { cls := .type "enumerate", data := .fields #[.none, .bool false, .ref s.heap.objs.size, rawInt 0, .none, .none] }) rfl
    rw [hz] at this
    exact this
  exact ⟨⟨_, he, rfl⟩, h _ he (Heap.get?_push_of_some _ (Heap.get?_push_size _ B.free)) (by rw [Heap.size_push, hz])
    fun b o x => Heap.get?_push_of_some _ (Heap.get?_push_of_some _ x)⟩
end
end PySem
namespace GG
open PySem PySem.Spec PyProof.Rows L2
/-- the tuple at a, its items with their places in new pairs -/
def Itet (K : PySem.W.Frag) (a : Addr) : It :=
  ⟨fun i H => ∃ (xs : List V) (x : V), SqT K H a xs ∧ xs[i]? = some x,
   fun i H v H' => ∃ T x, v = .ref T ∧ H T = none ∧ H' = upd H T (.tup [.int (i : Nat), x]) ∧ ∀ xs, SqT K H a xs → xs[i]? = some x,
   fun i H => ∃ xs : List V, SqT K H a xs ∧ xs.length ≤ i⟩
theorem turn_enumT {P : Program} {w : World} {K : PySem.W.Frag} {elts : List Expr} {kk : Nat} {tpos : Pos} (a e it : Addr) (ai : a ≠ it) (ae : a ≠ e) :
    Turn P w K (.Tuple elts kk tpos) (Itet K a) [e, it] e (fun i h => (∃ old, IsEnum h e it ((i : Nat) : Int) old) ∧ h.IsTupleIter it a i ∧ e ≠ it) where
  mem := by simp
  obj := by
    intro i h st b hb
    obtain ⟨⟨old, he⟩, ⟨o, ho, hc, hd⟩, _⟩ := st
    have two : b = e ∨ b = it := by simpa using hb
    rcases two with z | z
    · rw [z]
      exact ⟨_, he, fun v q => nomatch q⟩
    · rw [z]
      exact ⟨o, ho, fun v q => by rw [hd] at q; cases q⟩
  keep := by
    intro i h h' st k
    obtain ⟨⟨old, he⟩, hi, hne⟩ := st
    exact ⟨⟨old, k e (by simp) _ he⟩, hi.at fun o q => k it (by simp) o q, hne⟩
  item := by
    intro X hP hw hK hc i pins s σ H E I hf st hg
    subst hP hw hK
    obtain ⟨⟨old, he⟩, hit, hne⟩ := st
    obtain ⟨xs, x, hq, hx⟩ := hg
    obtain ⟨its, rv, p, hz⟩ := I.tuple hq
    obtain ⟨u, hu, ru⟩ := rv.get hx
    have el : e < s.heap.objs.size := Heap.lt_size he
    have il : it < s.heap.objs.size := by
      obtain ⟨_, q, _⟩ := hit
      exact Heap.lt_size q
    have lt : i < its.toArray.size := by
      have := (List.getElem?_eq_some_iff.mp hu).1
      simpa using this
    have hh : X.A.in1.handled = none := I.ok.hd hc
    have D := Draws.tuple (prog := X.prog) (w := X.w) hh it a ai its.toArray
    have ei : e ∉ [it, a] := by
      intro z
      rcases List.mem_cons.mp z with z | z
      · exact hne z
      · exact ae (List.mem_singleton.mp z).symm
    refine wpAny_pyNext_enum_itemD D he ⟨hit, (show s.heap.IsTuple a its.toArray from p)⟩ lt hne ei ?_
    intro y h' tk hy ho st' hT hsz hk
    have ey : y = u := by
      have : its.toArray[i]? = some u := by simpa using hu
      rw [this] at hy
      exact (Option.some.inj hy).symm
    subst ey
    refine ⟨_, rfl, wpAny_letOwnedTupleGo_enum (s := { s with heap := h', toks := tk + 1 }) ho ?_⟩
    intro h'' he' sb
    have hT2 : h''.get? s.heap.objs.size = some { cls := .type "tuple", data := .seq #[.int i tk, y] } := (sb.2 _ (Nat.ne_of_gt el)).trans hT
    have new : ObjOk X.prog X.w (upd H s.heap.objs.size (.tup [.int (i : Nat), x])) h'' s.heap.objs.size (.tup [.int (i : Nat), x]) :=
      ⟨by show 2 ≤ sizeLine; decide, [.int i tk, y], .cons ⟨_, rfl⟩ (.cons ru .nil), ⟨_, hT2, rfl, _, rfl⟩⟩
    have I1 : Inv X pins σ (upd H s.heap.objs.size (.tup [.int (i : Nat), x])) { s with heap := h'', toks := tk + 1 } := by
      refine I.turnedNew (ch := [e, it]) (fun b ob hb q => ?_) hf (Nat.le_refl _) new
      exact (sb.2 b (fun z => hb (by simp [z]))).trans (hk b ob (fun z => hb (by simp [z])) (fun z => hb (by simp [z])) q)
    refine ⟨.ref s.heap.objs.size, _, I1, rfl, ⟨_, x, rfl, I.hok.fresh (Nat.le_refl _), rfl, fun ys hy => by rw [I.tuple_inj hy hq]; exact hx⟩, ⟨⟨y, ?_⟩, ?_, hne⟩, fun b hb => ?_⟩
    · have e1 : ((i + 1 : Nat) : Int) = (i : Int) + 1 := by omega
      rw [e1]
      exact he'
    · exact st'.1.at fun o q => (sb.2 it (Ne.symm hne)).trans q
    · have lb : b < s.heap.objs.size := by
        have two : b = e ∨ b = it := by simpa using hb
        rcases two with z | z
        · rw [z]
          exact el
        · rw [z]
          exact il
      rw [upd_ne (Nat.ne_of_lt lb)]
      exact (hf b hb).1
  done := by
    intro X hP hw hK hc i pins s σ H E I hf st hg
    subst hP hw hK
    obtain ⟨⟨old, he⟩, hit, hne⟩ := st
    obtain ⟨xs, hq, hx⟩ := hg
    obtain ⟨its, rv, p, hz⟩ := I.tuple hq
    obtain ⟨f0, f1, f2, f3, f4, f5⟩ := hf it (by simp)
    have hl := rv.length
    have hT : s.TypeIs (.ref e) "enumerate" := ⟨_, he, rfl⟩
    unfold pyNext
    refine wpAny_bind (wpAny_attempt (wpAny_callSpecial?_slot (name := Str.ofString "__next__") hT F.slot_enumerate_next
      (wpAny_call_entry F.slot_enumerate_next hT F.entry_enumerate_next ?_ (F.args_enumerate_next_1 _))))
    show wpAny _ _ (field (.ref e) 2 >>= _) _ _ _
    refine wpAny_bind (wpAny_field he rfl (x := .ref it) rfl ?_)
    refine wpAny_bind (wpAny_nextOf_tuple_end (A := X.A.in1) (I.ok.hd hc) hit (show s.heap.IsTuple a its.toArray from p) (by simp; omega) ?_)
    intro h' x he' hx'
    obtain ⟨o, ho, hcl⟩ := hx'
    refine wpAny_bind (wpAny_isInstance (T := "StopIteration") (b := true) ⟨o, ho, hcl⟩ isSubtype_stop ?_)
    exact wpAny_pure ⟨rfl, I.turned (t' := s.toks) (fun b o hb q => he' b o hb q) f0 f1 f3 f4 f5⟩
  self := by
    intro A i s Q E st h
    obtain ⟨⟨_, he⟩, _⟩ := st
    exact wpAny_pyIter_enum he h
def iEnumT (K : PySem.W.Frag) (ta : TA) : TI := fun σ H R => ta σ H fun vs H1 => ∃ a xs, vs = [.ref a] ∧ SqT K H1 a xs ∧ R (Itet K a) H1
theorem pi_enumT {X : Cx} {e : Expr} {ta : TA} {p pos tpos : Pos} {elts : List Expr} {kk : Nat} (hg : Gl X "enumerate") (hm : X.mg "enumerate" = none) (ha : PA X [e] ta)
    (hs : starEach [e] X.env = [(false, eval e X.env)] := by rfl) :
    PI X (.Tuple elts kk tpos) (.Call (.Name "enumerate" p) [e] [] pos) (iEnumT X.K ta) := by
  constructor
  intro pins s σ H R I h
  refine Call_ (ld_blt I hg hm boot_enumerate (PyProof.Rows.callWith_type1 (thn (ha.run pos pins s σ H _ I h) ?_) hs rfl))
  intro us s1 ⟨vs, H1, I1, r1, q1⟩
  obtain ⟨a, xs, ex, hq, q⟩ := q1
  subst ex
  obtain ⟨u, rfl, ru⟩ := vals1 r1
  cases (show u = Value.ref a from ru)
  obtain ⟨its, rv, p', hz⟩ := I1.tuple hq
  have al : a < s1.heap.objs.size := p'.lt
  refine enum_begins1 (begins_tuple a its.toArray) (show s1.heap.IsTuple a its.toArray from p') ?_
  intro h' he hit hsz hk
  refine wpAny_pyIter_enum he ?_
  have I2 : Inv X pins σ H1 { s1 with heap := h' } := I1.kept (t' := s1.toks) hk
  refine ⟨s1.heap.objs.size + 1, [s1.heap.objs.size + 1, s1.heap.objs.size], _, _, H1, rfl, I2,
    turn_enumT a (s1.heap.objs.size + 1) s1.heap.objs.size (Nat.ne_of_lt al) (Nat.ne_of_lt (Nat.lt_succ_of_lt al)), ⟨⟨.none, he⟩, ⟨_, hit, rfl, rfl⟩, Nat.succ_ne_self _⟩, fun b hb => ?_, q⟩
  have two : b = s1.heap.objs.size + 1 ∨ b = s1.heap.objs.size := by simpa using hb
  have le : s1.heap.objs.size ≤ b := by
    rcases two with z | z
    · rw [z]
      exact Nat.le_add_right _ _
    · rw [z]
      exact Nat.le_refl _
  exact I1.fpOk le (I1.hok.fresh le)
theorem walk_enumT {K : PySem.W.Frag} {a : Addr} {xs : List V} : Walk (Itet K a) xs.length (fun H => SqT K H a xs) (YPair (fun i => some (.int (i : Nat))) (fun i => xs[i]?)) := by
  refine ⟨fun i H hi g => ⟨xs, xs[i], g, by simp [hi]⟩, fun H g => ⟨xs, g, Nat.le_refl _⟩, ?_⟩
  intro i H v H' _ g y
  obtain ⟨T, x, h1, h2, h3, h4⟩ := y
  exact ⟨T, _, x, h1, h2, h3, rfl, h4 xs g⟩
end GG

set_option maxHeartbeats 4000000
namespace GG
open PySem PySem.Spec PyProof.Rows L2
/-! ### what the program's smallest functions answer -/
/-- the least integer of more than 200 figures -/
def BND : Int := ((10 ^ 200 : Nat) : Int)
def intOk (i : Int) : Bool := decide (-BND < i) && decide (i < BND)
def cntOk (i : Int) : Bool := intOk i && decide (0 ≤ i)
def inOk (lo hi i : Int) : Bool := intOk i && (decide (lo ≤ i) && decide (i ≤ hi))
/-- a value that is no integer by its kind -/
def NoInt (K : PySem.W.Frag) (H : Hp) (v : V) : Prop := (∃ b, v = .bl b) ∨ ∃ t, TyX K H v (.type t) ∧ kitB t "int" = some false
def spInteger (K : PySem.W.Frag) : Sp := fun vs H Q _ => ∃ v, vs = [v] ∧ ((∃ i, v = .int i ∧ Q (.bl (intOk i)) H) ∨ (NoInt K H v ∧ Q (.bl false) H))
def spCount (K : PySem.W.Frag) : Sp := fun vs H Q _ => ∃ v, vs = [v] ∧ ((∃ i, v = .int i ∧ Q (.bl (cntOk i)) H) ∨ (NoInt K H v ∧ Q (.bl false) H))
def spWithin (K : PySem.W.Frag) : Sp := fun vs H Q _ => ∃ v lo hi, vs = [v, .int lo, .int hi] ∧ ((∃ i, v = .int i ∧ Q (.bl (inOk lo hi i)) H) ∨ (NoInt K H v ∧ Q (.bl false) H))
def spLimit : Sp := fun vs H Q _ => vs = [] ∧ Q (.int BND) H
theorem limE : ((10 : Int) ^ (50 : Int).toNat) ^ (4 : Int).toNat = BND := by decide +kernel
theorem BND_bits : BND.natAbs < 2 ^ 700 := by decide +kernel
theorem intOk_iff {i : Int} : intOk i = true ↔ -BND < i ∧ i < BND := by
  unfold intOk
  rw [Bool.and_eq_true, decide_eq_true_eq, decide_eq_true_eq]
theorem intOk_bits {i : Int} (h : intOk i = true) : i.natAbs < 2 ^ 700 := by
  have h2 := intOk_iff.mp h
  have h3 := BND_bits
  generalize (2 : Nat) ^ 700 = M at h3 ⊢
  omega
theorem intOk_small {i : Int} (h0 : -(10 ^ 60) ≤ i) (h1 : i ≤ 10 ^ 60) : intOk i = true := by
  have e : (10 : Int) ^ 60 < BND := by decide +kernel
  exact intOk_iff.mpr ⟨by omega, by omega⟩
/-! ### small words -/
theorem and2 {tb : TE} {σ : L2.St} {H : Hp} {Q : VK} {c d : Bool} (hb : c = true → ∀ Q' : VK, Q' (.bl d) H → tb σ H Q') (q : Q (.bl (c && d)) H) :
    if c = true then tb σ H Q else Q (.bl false) H := by
  cases c with
  | true => exact iteT (hb rfl Q q)
  | false => exact iteF q
theorem iteN {b : Bool} {A B : Prop} (h : b = true) (x : B) : if (!b) = true then A else B := by
  subst h
  exact iteF x
theorem iteTo {b : Bool} {A B : Prop} (h : b = true) (x : A) : if b = true then A else B := by
  subst h
  exact iteT x
theorem iteFo {b : Bool} {A B : Prop} (h : b = false) (x : B) : if b = true then A else B := by
  subst h
  exact iteF x
theorem sameUpd2 {H : Hp} {p : Addr} {o o' : HO} (h : H p = none) : Same H (upd (upd H p o) p o') := by
  rw [upd_upd]
  exact sameUpd h
/-! ### repr, of dicts too -/
/-- data whose repr is told: without dicts, or an empty dict -/
def Rp (K : PySem.W.Frag) (H : Hp) (x : V) (d : PyData) : Prop :=
  (Dp K H x d ∧ d.showable = true ∧ d.hasDict = false ∧ d.depth ≤ 40 ∧ d.shown.length ≤ sizeLine) ∨ ∃ a, x = .ref a ∧ H a = some (.dK []) ∧ d = .dict []
def rReprD (K : PySem.W.Frag) : List V → Hp → VK → Prop := fun xs H Q => ∃ x d, xs = [x] ∧ Rp K H x d ∧ Q (.str d.shown) H
theorem call_reprR {X : Cx} (gd : X.A.guards = some []) (un : X.A.units + 64 < cLine) : CallR X (.builtin "repr") (rReprD X.K) := by
  intro pins s σ H xs us Q I r h
  obtain ⟨x, d, rfl, ⟨hd, ok⟩ | ⟨a, rfl, ha, rfl⟩, q⟩ := h
  · exact call_reprU gd un pins s σ H _ us Q I r ⟨x, d, rfl, hd, ok, q⟩
  · obtain ⟨u, rfl, ru⟩ := vals1 r
    cases (show u = Value.ref a from ru)
    obtain ⟨hz, hS, vs, rk, o, es, ep, h1, h2, h3, h4, h5, h6⟩ : ([] : List (Key × V)).length ≤ sizeLine ∧ (a == sysModules) = false ∧ ∃ vs, KV [] vs ∧ s.heap.DictOf (mixKind X.prog X.w) a vs := I.hok a _ ha
    cases rk
    have e0 : es.toList = [] := by
      cases hl : es.toList with
      | nil => rfl
      | cons b r =>
        rw [hl] at h5
        cases h5
    have rd : Reads s.heap (.ref a) (.dict []) (a :: [] ++ []) := .dict h1 h2.1 h3 (by rw [e0]; exact .nil) (by rw [e0]; exact .nil)
    refine repr_of_reads' rd (by decide) (fun _ z => ?_) gd (by show X.A.units + (PyData.depth (.dict []) + 1) < cLine; have : PyData.depth (.dict []) = 1 := by decide
                                                                omega) (fun _ _ e => e) (fun h' u tk kept => ?_) (by decide)
    · have z' : sysModules = a := by simpa using z
      rw [← z'] at hS
      cases hS
    · exact ⟨.str _, H, I.kept kept, ⟨_, rfl⟩, q⟩
theorem call_reprA {X : Cx} {A : Around} (hA : X.A = A) (gd : A.guards = some []) (un : A.units + 64 < cLine) : CallR X (.builtin "repr") (rReprD X.K) := by
  subst hA
  exact call_reprR gd un
end GG

set_option maxHeartbeats 4000000
namespace GG
open PySem PySem.Spec PyProof.Rows L2 LamX
/-! ### the end of a law's row whose text makes lambdas -/
section
variable {P : Program} {w : World} {K : PySem.W.Frag} {mg mb : Str → Option Value} {CX : CXT} {k : Nat} {fa a : Addr} {cs : List (Addr × Addr)} {fd : FuncData}
  {x : Str} {sp : Sp} {s₁ : Shared} {vs : List Value} {ns : List Int}
theorem law_coreM {H : Hp} (KX : K.In s₁.heap) (ng : s₁.heap.Ns mainGlobals mg) (nb : s₁.heap.Ns builtinsNs mb)
    (bb : ∀ x : Str, x ≠ "__name__" → mb x = bootBuiltins x) (lim : s₁.heap.NoLimit) (sm : ∃ mm, s₁.heap.Ns sysModules mm) (g0 : s₁.gens = #[])
    (empties : ∀ p ∈ cs, s₁.heap.get? p.2 = some { cls := .none, data := .fields #[] }) (notT : ∀ p ∈ cs, K.lookup p.2 = none)
    (code : ∀ p ∈ cs, PySem.W.CodeHd s₁.heap p.1 p.2)
    (hbm : ∃ (bm : Addr) (ob : Obj), mg "__builtins__" = some (.ref bm) ∧ bm ≠ builtinsNs ∧ s₁.heap.get? bm = some ob ∧ ob.cls = .type "module" ∧ ob.dict = some builtinsNs ∧ ob.data = .plain)
    (ha : s₁.heap.get? a = some { cls := .type "list", data := .seq vs.toArray }) (room : Room k callerA)
    (F : ∀ base : Heap, K.In base → base.Ns mainGlobals mg → (∀ p ∈ cs, TabB base mg p.1 p.2) → (∃ mm, base.Ns sysModules mm) → FnG P w K mg base CX k fa fd [x] sp)
    (bind : ∀ (s : Shared) (u : Value), BindsTo s fd ⟨[u], []⟩ [(x, u)])
    (want : sp [.ref a] H (fun v _ => v = .bl true) fun _ _ _ => False)
    (noX : ∀ H e s', CX [] H s₁ (fun _ _ _ => False) e s' → False)
    (tabs : ∀ p ∈ cs, H p.2 = some (.tbl #[]))
    (only : ∀ b, H b = none ∨ b ∈ cs.map (·.2) ∨ ∃ o xs, H b = some (.frz o (.lst xs))) (ok : HOk P w H s₁.heap)
    (where_ : ∀ b, H b ≠ none → b = a ∨ b ∈ cs.map (·.2)) (notK : H a ≠ none → K.lookup a = none) :
    codeAny (model P w) callerA (.call (.ref fa) ⟨[.ref a], []⟩)
      (fun r s' => r = .ok (.ret (.bool true)) ∧ OldK s₁.heap s'.heap ∧ s'.os = s₁.os ∧ AllBare s'.gens) s₁ := by
  have tabAt : ∀ b : Addr, b ∈ cs.map (·.2) → s₁.heap.get? b = some { cls := .none, data := .fields #[] } := by
    intro b hb
    obtain ⟨p, hp, e⟩ := List.mem_map.mp hb
    rw [← e]
    exact empties p hp
  have untracked : ∀ {b : Addr} {o : Obj}, s₁.heap.get? b = some o → (∀ vs n, o.data ≠ .seq vs n) → o.data ≠ .fields #[] → H b = none := by
    intro b o e h1 h2
    rcases hq : H b with _ | u
    · rfl
    · rcases where_ b (fun z => by rw [z] at hq; cases hq) with e' | e'
      · rw [e', ha] at e
        cases e
        exact (h1 _ _ rfl).elim
      · rw [tabAt b e'] at e
        cases e
        exact (h2 rfl).elim
  have dictFree : ∀ {b : Addr} {o : Obj} {es : Array DictEntry} {ep : Nat}, s₁.heap.get? b = some o → o.data = .dict es ep → H b = none := by
    intro b o es ep e d
    exact untracked e (fun vs n z => by rw [d] at z; cases z) (fun z => by rw [d] at z; cases z)
  have nsB : ∀ {b : Addr} {m : Str → Option Value}, s₁.heap.Ns b m → (hidT s₁.heap H).Ns b m := by
    rintro b m ⟨o, es, ep, e, d, r⟩
    exact ⟨o, es, ep, hidT_get e (dictFree e d), d, r⟩
  have KB : K.In (hidT s₁.heap H) := by
    intro b o e
    refine hidT_get (KX b o e) ?_
    rcases hq : H b with _ | u
    · rfl
    · rcases where_ b (fun z => by rw [z] at hq; cases hq) with e' | e'
      · rw [e'] at e hq
        rw [notK (fun z => by rw [z] at hq; cases hq)] at e
        cases e
      · obtain ⟨p, hp, ep⟩ := List.mem_map.mp e'
        rw [← ep, notT p hp] at e
        cases e
  have TB : ∀ p ∈ cs, TabB (hidT s₁.heap H) mg p.1 p.2 := by
    intro p hp
    have atP := empties p hp
    refine ⟨?_, ?_, fun z => ?_⟩
    · obtain ⟨o, us, file, tf, flags, tg, inF, text, tt, e1, r1, r2, r3, r4, r5, r6, r7, r8, hne⟩ := code p hp
      refine ⟨o, us, file, tf, flags, tg, inF, text, tt, hidT_get e1 (untracked e1 (fun vs n z => ?_) fun z => ?_), r1, r2, r3, r4, r5, r6, r7, r8, hne⟩
      · rw [r2] at z
        cases z
      · rw [r2] at z
        cases z
        simp at r3
    · obtain ⟨bm, ob, b1, b2, b3, b4, b5, b6⟩ := hbm
      have notG : bm ≠ mainGlobals := by
        intro q
        obtain ⟨o, es, ep, e, hd, _⟩ := ng
        rw [q, e] at b3
        cases b3
        rw [hd] at b6
        cases b6
      have notP : bm ≠ p.2 := by
        intro q
        rw [q, atP] at b3
        cases b3
        cases b6
      refine ⟨bm, ob, b1, b2, notG, notP, hidT_get b3 (untracked b3 (fun vs n z => ?_) fun z => ?_), b4, b5, b6⟩
      · rw [b6] at z
        cases z
      · rw [b6] at z
        cases z
    · obtain ⟨o, es, ep, e, hd, _⟩ := ng
      rw [z, atP] at e
      cases e
      cases hd
  have en : Env0 P w K mg (hidT s₁.heap H) callerA [] s₁ H := by
    refine ⟨rfl, ⟨KB, nsB ng, ⟨mb, nsB nb, bb⟩, ?_⟩, fun b o e => of_hidT e, Nat.le_of_eq (hidT_size _ _), trivial, ?_, ok, .of_eq g0⟩
    · obtain ⟨mc, h1, h2⟩ := lim
      exact ⟨mc, nsB h1, h2⟩
    · intro b z
      cases (show b ∈ ([] : List Addr) from z)
  refine codeAny_mono ((F _ KB (nsB ng) TB (by obtain ⟨mm, h1⟩ := sm; exact ⟨mm, nsB h1⟩)).go callerA [] s₁ H ⟨[.ref a], []⟩ [.ref a] [.ref a] _ _ rfl room en
    (bind s₁ (.ref a)) (.cons rfl .nil) want) ?_
  intro r s' z
  cases r with
  | error e => exact (noX H e s' z).elim
  | ok fl =>
    cases fl with
    | next => exact z.elim
    | brk => exact z.elim
    | cont => exact z.elim
    | ret u =>
      obtain ⟨v, H', os, bare, un, ok', rv, q⟩ := z
      cases (show v = .bl true from q)
      cases (show u = Value.bool true from rv)
      have stays : ∀ b o, b ∉ cs.map (·.2) → s₁.heap.get? b = some o → s'.heap.get? b = some o := by
        intro b o nb e
        rcases only b with hq | hq | ⟨ob, xs, hq⟩
        · exact un.keep b o e hq (fun z => by cases (show b ∈ ([] : List Addr) from z)) (fun z => by cases z)
        · exact absurd hq nb
        · have f1 := (ok b _ hq).left
          have f2 := (ok' b _ (un.frzs b ob _ hq)).left
          rw [e] at f1
          cases f1
          exact f2
      have grows : ∀ p ∈ cs, ∃ more : Array Value, s'.heap.get? p.2 = some { cls := .none, data := .fields more } := by
        intro p hp
        obtain ⟨more, z⟩ := un.tbls p.2 #[] (tabs p hp)
        exact ⟨_, ok' p.2 _ z⟩
      refine ⟨rfl, ⟨fun b o e => ?_, fun b o e => ?_⟩, os, bare⟩
      · by_cases hb : b ∈ cs.map (·.2)
        · obtain ⟨p, hp, ep⟩ := List.mem_map.mp hb
          obtain ⟨more, hm⟩ := grows p hp
          rw [← ep] at e ⊢
          rw [empties p hp] at e
          cases e
          exact .inr (.inl ⟨((code p hp).tab (empties p hp)).isCodeTable, rfl, #[], more, rfl, by rw [Array.empty_append]; exact hm⟩)
        · exact .inl (stays b o hb e)
      · by_cases hb : b ∈ cs.map (·.2)
        · obtain ⟨p, hp, ep⟩ := List.mem_map.mp hb
          obtain ⟨more, hm⟩ := grows p hp
          rw [← ep]
          exact ⟨_, hm⟩
        · exact ⟨o, stays b o hb e⟩
/-- the heap at the law's entry: the script, the tables -/
def entryHM (known : Bool) (a : Addr) (vs : List Value) (ns : List Int) (ts : List Addr) : Hp := fun b =>
  if b = a ∧ known = false then some (.frz { cls := .type "list", data := .seq vs.toArray } (.lst (ns.map V.int)))
  else if b ∈ ts then some (.tbl #[]) else none
theorem law_callM (KX : K.In s₁.heap) (ng : s₁.heap.Ns mainGlobals mg) (nb : s₁.heap.Ns builtinsNs mb)
    (bb : ∀ x : Str, x ≠ "__name__" → mb x = bootBuiltins x) (lim : s₁.heap.NoLimit) (sm : ∃ mm, s₁.heap.Ns sysModules mm) (g0 : s₁.gens = #[])
    (empties : ∀ p ∈ cs, s₁.heap.get? p.2 = some { cls := .none, data := .fields #[] }) (notT : ∀ p ∈ cs, K.lookup p.2 = none)
    (code : ∀ p ∈ cs, PySem.W.CodeHd s₁.heap p.1 p.2)
    (hbm : ∃ (bm : Addr) (ob : Obj), mg "__builtins__" = some (.ref bm) ∧ bm ≠ builtinsNs ∧ s₁.heap.get? bm = some ob ∧ ob.cls = .type "module" ∧ ob.dict = some builtinsNs ∧ ob.data = .plain)
    (ha : s₁.heap.get? a = some { cls := .type "list", data := .seq vs.toArray }) (hi : IntsAre vs ns) (hl : ns.length ≤ sizeLine) (room : Room k callerA)
    (F : ∀ base : Heap, K.In base → base.Ns mainGlobals mg → (∀ p ∈ cs, TabB base mg p.1 p.2) → (∃ mm, base.Ns sysModules mm) → FnG P w K mg base CX k fa fd [x] sp)
    (bind : ∀ (s : Shared) (u : Value), BindsTo s fd ⟨[u], []⟩ [(x, u)])
    (want : ∀ H : Hp, (∀ p ∈ cs, H p.2 = some (.tbl #[])) → SqL K H a (ns.map V.int) → sp [.ref a] H (fun v _ => v = .bl true) fun _ _ _ => False)
    (noX : ∀ H e s', CX [] H s₁ (fun _ _ _ => False) e s' → False) :
    codeAny (model P w) callerA (.call (.ref fa) ⟨[.ref a], []⟩)
      (fun r s' => r = .ok (.ret (.bool true)) ∧ OldK s₁.heap s'.heap ∧ s'.os = s₁.os ∧ AllBare s'.gens) s₁ := by
  have vi := vals_ints hi
  have tabAt : ∀ b : Addr, b ∈ cs.map (·.2) → s₁.heap.get? b = some { cls := .none, data := .fields #[] } := by
    intro b hb
    obtain ⟨p, hp, e⟩ := List.mem_map.mp hb
    rw [← e]
    exact empties p hp
  have aT : a ∉ cs.map (·.2) := by
    intro z
    have q := tabAt a z
    rw [ha] at q
    cases (show Data.seq vs.toArray _ = Data.fields #[] from congrArg Obj.data (Option.some.inj q))
  have atTab : ∀ (kn : Bool) b, b ∈ cs.map (·.2) → entryHM kn a vs ns (cs.map (·.2)) b = some (.tbl #[]) := by
    intro kn b hb
    unfold entryHM
    rw [if_neg (fun (z : b = a ∧ kn = false) => aT (z.1 ▸ hb)), if_pos hb]
  have inTabs : ∀ p ∈ cs, p.2 ∈ cs.map (·.2) := fun p hp => List.mem_map.mpr ⟨p, hp, rfl⟩
  have cases3 : ∀ (kn : Bool) b, (b = a ∧ kn = false ∧ entryHM kn a vs ns (cs.map (·.2)) b = some (.frz { cls := .type "list", data := .seq vs.toArray } (.lst (ns.map V.int)))) ∨
      (b ∈ cs.map (·.2) ∧ entryHM kn a vs ns (cs.map (·.2)) b = some (.tbl #[])) ∨ entryHM kn a vs ns (cs.map (·.2)) b = none := by
    intro kn b
    by_cases h1 : b = a ∧ kn = false
    · exact .inl ⟨h1.1, h1.2, if_pos h1⟩
    · by_cases h2 : b ∈ cs.map (·.2)
      · exact .inr (.inl ⟨h2, atTab kn b h2⟩)
      · refine .inr (.inr ?_)
        unfold entryHM
        rw [if_neg h1, if_neg h2]
  have main : ∀ kn : Bool, SqL K (entryHM kn a vs ns (cs.map (·.2))) a (ns.map V.int) → (kn = false → K.lookup a = none) →
      codeAny (model P w) callerA (.call (.ref fa) ⟨[.ref a], []⟩)
        (fun r s' => r = .ok (.ret (.bool true)) ∧ OldK s₁.heap s'.heap ∧ s'.os = s₁.os ∧ AllBare s'.gens) s₁ := by
    intro kn sq hk
    refine law_coreM KX ng nb bb lim sm g0 empties notT code hbm ha room F bind (want _ (fun p hp => atTab kn _ (inTabs p hp)) sq) noX
      (fun p hp => atTab kn _ (inTabs p hp)) (fun b => ?_) (fun b u z => ?_) (fun b z => ?_) (fun z => ?_)
    · rcases cases3 kn b with ⟨_, _, e⟩ | ⟨e, _⟩ | e
      · exact .inr (.inr ⟨_, _, e⟩)
      · exact .inr (.inl e)
      · exact .inl e
    · rcases cases3 kn b with ⟨rfl, _, e⟩ | ⟨m, e⟩ | e
      · rw [e] at z
        cases z
        exact ⟨ha, by rw [List.length_map]; exact hl, vs, _, vi, ha⟩
      · rw [e] at z
        cases z
        exact tabAt b m
      · rw [e] at z
        cases z
    · rcases cases3 kn b with ⟨e, _⟩ | ⟨m, _⟩ | e
      · exact .inl e
      · exact .inr m
      · exact absurd e z
    · rcases cases3 kn a with ⟨_, e, _⟩ | ⟨m, _⟩ | e
      · exact hk e
      · exact absurd m aT
      · exact absurd e z
  rcases hk : K.lookup a with _ | o
  · refine main false (.inl (.inr ⟨{ cls := .type "list", data := .seq vs.toArray }, if_pos ⟨rfl, rfl⟩⟩)) (fun _ => hk)
  · have e := KX a o hk
    rw [ha] at e
    cases e
    refine main true (.inr ⟨_, vs.toArray, _, hk, rfl, rfl, rfl, by rw [List.size_toArray, hi.length]; exact hl, by simpa using vi⟩) (fun z => by cases z)
end
/-- what is known of the law's promise at the head's heap h -/
def LawM (l : PySem.W.OpenLaw) (w : World) (K : PySem.W.Frag) (CX : CXT) (k n : Nat) (x : Str) (mg : Str → Option Value) (fa : Addr) (h : Heap) : Prop :=
  ∃ (fd : FuncData) (cs : List (Addr × Addr)) (sp : Sp), (∀ p ∈ cs, h.get? p.2 = some { cls := .none, data := .fields #[] }) ∧ (∀ p ∈ cs, K.lookup p.2 = none) ∧
    (∀ p ∈ cs, PySem.W.CodeHd h p.1 p.2) ∧ (∀ (s : Shared) (u : Value), BindsTo s fd ⟨[u], []⟩ [(x, u)]) ∧
    (∀ (H : Hp) (a : Addr) (ns : List Int), ns.length ≤ n → (∀ p ∈ cs, H p.2 = some (.tbl #[])) → SqL K H a (ns.map V.int) →
      sp [.ref a] H (fun v _ => v = .bl true) fun _ _ _ => False) ∧
    ∀ base : Heap, K.In base → base.Ns mainGlobals mg → (∀ p ∈ cs, TabB base mg p.1 p.2) → (∃ mm, base.Ns sysModules mm) → FnG l.prog w K mg base CX k fa fd [x] sp
theorem walkM {l : PySem.W.OpenLaw} {n k : Nat} {q : Program} {loose : List Str} {XP : (Str → Option Value) → Heap → Prop} {YP : World → Heap → Prop} {d : DefRec}
    {K : Params → PySem.W.Frag} {CX : World → CXT} {x : Str}
    (imp : importsNone q = true) (hn : l.most = some n) (hn2 : n ≤ sizeLine) (hdf : d.params.defaults = []) (room : Room k callerA) (hY : ∀ (w : World) (h : Heap), YP w h → (K w.params).In h)
    (F : ∀ (w : World) (mg : Str → Option Value) (fa : Addr) (h : Heap), YP w h → (K w.params).In h → h.Ns mainGlobals mg → mg d.name = some (.ref fa) →
      LawM l w (K w.params) (CX w) k n x mg fa h)
    (noX : ∀ (w : World) (H : Hp) (s : Shared) (e : Value) (s' : Shared), CX w [] H s (fun _ _ _ => False) e s' → False) :
    PySem.W.WalkO q loose XP YP l.row.toRowW d [] (fun f vs => PySem.call f vs) := by
  apply Att.attach_call hn hdf
  intro w s₀ s₁ mg mb fa o pm cd doc a vs ns G Y ho hd hcd hmg hobj hints hlen hg
  obtain ⟨fd, cs, sp, h1, h2, h3, hb, hsp, hF⟩ := F w mg fa _ Y (hY w _ Y) G.T.g hmg
  exact law_callM (hY w _ Y) G.T.g G.T.b G.T.builtins G.T.nolimit (by obtain ⟨mm, h1, _⟩ := (G.T.seer imp).mods; exact ⟨mm, h1⟩) hg h1 h2 h3 G.T.bmain hobj hints (Nat.le_trans hlen hn2) room hF hb
    (fun H hH hS => hsp H a ns hlen hH hS) (fun H e s' => noX w H s₁ e s')
end GG

set_option maxHeartbeats 4000000
namespace GG
open PySem PySem.Spec PyProof.Rows L2
/-! ### repr of what was made in the law itself: dicts of one int to one int may lie within -/
mutual
inductive Rn (H : Hp) : V → PyData → Prop
  | non : Rn H .non .none
  | bl (b : Bool) : Rn H (.bl b) (.bool b)
  | int (i : Int) : Rn H (.int i) (.int i)
  | str (x : Str) : Rn H (.str x) (.str x)
  | lst {a : Addr} {xs : List V} {ds : List PyData} : H a = some (.lst xs) → RnAll H xs ds → Rn H (.ref a) (.list ds)
  | tup {a : Addr} {xs : List V} {ds : List PyData} : H a = some (.tup xs) → RnAll H xs ds → Rn H (.ref a) (.tuple ds)
  | dct0 {a : Addr} : H a = some (.dK []) → Rn H (.ref a) (.dict [])
  | dct {a : Addr} {i j : Int} : H a = some (.dK [(.inl i, .int j)]) → Rn H (.ref a) (.dict [(.int i, .int j)])
inductive RnAll (H : Hp) : List V → List PyData → Prop
  | nil : RnAll H [] []
  | cons {v : V} {vs : List V} {d : PyData} {ds : List PyData} : Rn H v d → RnAll H vs ds → RnAll H (v :: vs) (d :: ds)
end
section
variable {X : Cx} {pins : List (Addr × Obj)} {σ : L2.St} {H : Hp} {s : Shared}
/-- the table of modules is none of the tracked ones -/
theorem not_mods (I : Inv X pins σ H s) (sm : ∃ mm, X.base.Ns sysModules mm) {a : Addr} {o : HO} (h : H a = some o) : a ≠ sysModules := by
  intro z
  subst z
  obtain ⟨mm, ob, es, ep, e, _⟩ := sm
  rw [(I.bs _ _ e).2] at h
  cases h
mutual
theorem Rn.reads (I : Inv X pins σ H s) (sm : ∃ mm, X.base.Ns sysModules mm) : ∀ (d : PyData) (v : V) (u : Value), Rn H v d → RelV v u → ∃ as, Reads s.heap u d as ∧ sysModules ∉ as
  | .none, _, _, h, r => by
    cases h
    cases r
    exact ⟨_, .none, List.not_mem_nil⟩
  | .bool b, _, _, h, r => by
    cases h
    cases r
    exact ⟨_, .bool b, List.not_mem_nil⟩
  | .int i, _, _, h, r => by
    cases h
    obtain ⟨t, rfl⟩ := r
    exact ⟨_, .int i t, List.not_mem_nil⟩
  | .str x, _, _, h, r => by
    cases h
    obtain ⟨t, rfl⟩ := r
    exact ⟨_, .str x t, List.not_mem_nil⟩
  | .list ds, _, _, h, r => by
    cases h with
    | @lst a xs _ ha hd =>
      cases r
      obtain ⟨_, its, n, rv, e⟩ := (show ObjOk X.prog X.w H s.heap a (.lst xs) from I.hok a _ ha)
      obtain ⟨as, ra, na⟩ := Rn.readsAll I sm ds _ its hd rv
      refine ⟨_, .list e rfl rfl ra, fun z => ?_⟩
      rcases List.mem_cons.mp z with z | z
      · exact not_mods I sm ha z.symm
      · exact na z
  | .tuple ds, _, _, h, r => by
    cases h with
    | @tup a xs _ ha hd =>
      cases r
      obtain ⟨_, its, rv, o, e, hc, n, hdt⟩ := (show ObjOk X.prog X.w H s.heap a (.tup xs) from I.hok a _ ha)
      obtain ⟨as, ra, na⟩ := Rn.readsAll I sm ds _ its hd rv
      exact ⟨_, .tuple e hc hdt ra, na⟩
  | .dict kvs, _, _, h, r => by
    cases h with
    | @dct0 a ha =>
      cases r
      obtain ⟨_, _, vs, rk, o, es, ep, h1, h2, h3, _, h5, _⟩ := (show ObjOk X.prog X.w H s.heap a (.dK []) from I.hok a _ ha)
      cases rk
      cases hl : es.toList with
      | nil =>
        refine ⟨a :: ([] ++ []), .dict h1 h2.1 h3 ?_ ?_, fun z => ?_⟩
        · rw [hl]
          exact .nil
        · rw [hl]
          exact .nil
        · have z' : sysModules = a := by simpa using z
          exact not_mods I sm ha z'.symm
      | cons en r =>
        rw [hl] at h5
        cases h5
    | @dct a i j ha =>
      cases r
      obtain ⟨_, _, vs, rk, o, es, ep, h1, h2, h3, _, h5, _⟩ := (show ObjOk X.prog X.w H s.heap a (.dK [(.inl i, .int j)]) from I.hok a _ ha)
      cases rk with
      | cons r1 r2 =>
        cases r2
        obtain ⟨ek, ev⟩ := r1
        cases hl : es.toList with
        | nil =>
          rw [hl] at h5
          cases h5
        | cons en r =>
          rw [hl] at h5
          cases h5 with
          | cons p1 p2 p3 =>
            cases p3
            rw [← ek] at p1
            obtain ⟨i', t, e1, e2⟩ | ⟨x, t, e1, e2⟩ := keyIs_shape (k := Sum.inl i) (v := en.key) p1
            · cases e1
              obtain ⟨t2, e3⟩ := ev
              refine ⟨a :: ([] ++ []) ++ ([] ++ []), .dict h1 h2.1 h3 ?_ ?_, fun z => ?_⟩
              · rw [hl]
                show ReadsAll s.heap [en.key] [.int i] ([] ++ [])
                rw [e2]
                exact .cons (.int i t) .nil
              · rw [hl]
                show ReadsAll s.heap [en.val] [.int j] ([] ++ [])
                rw [p2, e3]
                exact .cons (.int j t2) .nil
              · have z' : sysModules = a := by simpa using z
                exact not_mods I sm ha z'.symm
            · cases e1
theorem Rn.readsAll (I : Inv X pins σ H s) (sm : ∃ mm, X.base.Ns sysModules mm) : ∀ (ds : List PyData) (vs : List V) (us : List Value), RnAll H vs ds → Vals vs us → ∃ as, ReadsAll s.heap us ds as ∧ sysModules ∉ as
  | [], _, _, h, r => by
    cases h
    cases r
    exact ⟨_, .nil, List.not_mem_nil⟩
  | d :: ds, _, _, h, r => by
    cases h with
    | cons h1 h2 =>
      cases r with
      | cons r1 r2 =>
        obtain ⟨as, q1, n1⟩ := Rn.reads I sm d _ _ h1 r1
        obtain ⟨bs, q2, n2⟩ := Rn.readsAll I sm ds _ _ h2 r2
        exact ⟨_, .cons q1 q2, fun z => (List.mem_append.mp z).elim n1 n2⟩
end
end
def rReprN : List V → Hp → VK → Prop := fun xs H Q => ∃ x d, xs = [x] ∧ Rn H x d ∧ d.showable = true ∧ d.depth ≤ 40 ∧ d.shown.length ≤ sizeLine ∧ Q (.str d.shown) H
/-- all but what call_reprU asks: where the value is a list, a tuple or a dict; scalars go by call_reprU -/
theorem call_reprN {X : Cx} (gd : X.A.guards = some []) (un : X.A.units + 64 < cLine) (sm : ∃ mm, X.base.Ns sysModules mm) : CallR X (.builtin "repr") rReprN := by
  intro pins s σ H xs us Q I r h
  obtain ⟨x, d, rfl, hd, sh, dp, sz, q⟩ := h
  have flat : Dp X.K H x d → d.hasDict = false → wpAny (model X.prog X.w) X.A (call (.builtin "repr") us) (EP X pins σ Q) X.xe s := fun h1 h2 =>
    call_reprU gd un pins s σ H _ us Q I r ⟨x, d, rfl, h1, ⟨sh, h2, dp, sz⟩, q⟩
  have deep : ∀ a, x = .ref a → wpAny (model X.prog X.w) X.A (call (.builtin "repr") us) (EP X pins σ Q) X.xe s := by
    rintro a rfl
    obtain ⟨u, rfl, ru⟩ := vals1 r
    cases (show u = Value.ref a from ru)
    obtain ⟨as, rd, na⟩ := Rn.reads I sm d _ _ hd rfl
    refine repr_of_reads' rd sh (fun _ => na) gd (by omega) (fun _ _ e => e) (fun h' u tk kept => ?_) sz
    exact ⟨.str _, H, I.kept kept, ⟨_, rfl⟩, q⟩
  cases hd with
  | non => exact flat .non rfl
  | bl b => exact flat (.bl b) rfl
  | int i => exact flat (.int i) rfl
  | str z => exact flat (.str z) rfl
  | lst h1 h2 => exact deep _ rfl
  | tup h1 h2 => exact deep _ rfl
  | dct0 h1 => exact deep _ rfl
  | dct h1 => exact deep _ rfl
end GG

set_option maxHeartbeats 4000000
namespace K03
open PySem PySem.Spec PyProof.Rows L2 GG
def topS (i : Nat) : Stmt := PySem.Challenge.pw_onebetween_k03_whole_divisors_and_moebiu.main.body.getD i (.Pass ⟨0, 0, 0, 0⟩)
abbrev sDice : Stmt := topS 13
abbrev sRoll : Stmt := topS 14
abbrev sPick : Stmt := topS 15
theorem scDice : FnScope ["script", "spot", "cell", "left"] ["script", "spot"] (defScope sDice) := ⟨rfl, rfl, rfl, by decide +kernel, rfl, by decide +kernel, by decide +kernel⟩
theorem scRoll : FnScope ["dice", "total", "found", "one", "two"] ["dice", "total"] (defScope sRoll) := ⟨rfl, rfl, rfl, by decide +kernel, rfl, by decide +kernel, by decide +kernel⟩
theorem scPick : FnScope ["dice", "items"] ["dice", "items"] (defScope sPick) := ⟨rfl, rfl, rfl, by decide +kernel, rfl, by decide +kernel, by decide +kernel⟩
section
variable {P : Program} {w : World} {K : PySem.W.Frag} {mg : Str → Option Value} {base : Heap}
theorem ok_dice {f : Addr} {fd : FuncData} {k : Nat} (F : Fun K "_law_dice" "_law_dice" sDice f fd)
    (ml : mg "len" = none) (mi : mg "int" = none) (mx : mg "max" = none) (ma : mg "abs" = none) :
    FnOk P w K mg base CX0 (k + 1) f fd ["script", "spot"] (spDice K) := by
  refine F.ok scDice (fun vs H Q E h => ?_) (fun cdv A outer s H vs Q E hr h => ?_)
  · obtain ⟨a, ns, spot, rfl, _⟩ := h
    rfl
  · obtain ⟨a, ns, spot, rfl, hS, hsp, q⟩ := h
    refine ⟨_, pss_cons (ps_set (i := 2) scDice.nd rfl (.inl rfl)
        (pe_ifExp (pt_cmpR op_lt (pv 1) (pe_callB call_len_seq (by rfl) ml PySem.boot_len (pa_cons (pv 0) pa_nil)) (nomark _))
          (pe_callTy call_int1 (by rfl) mi (by decide +kernel) (pa_cons (pe_ix ix_list (pv 0) (pv 1) (fun _ _ => rfl)) pa_nil))
          (pe_op op_add (pe_op op_mul pe_int (pv 1)) pe_int)))
      (pss_cons (ps_set (i := 3) scDice.nd rfl (.inl rfl)
        (pe_op op_mod (pe_callB (call_max2 rfl) (by rfl) mx (by decide +kernel) (pa_cons pe_int (pa_cons (pe_op op_sub (pe_callB call_abs (by rfl) ma (by decide +kernel) (pa_cons (pv 2) pa_nil)) (pe_op op_pow pe_int pe_int)) pa_nil)))
          (pe_op op_mulW (pe_op op_pow pe_int pe_int) (pe_op op_pow pe_int pe_int))))
      (pss_one (ps_ret (pe_lst (pa_cons (pv 3) (pa_cons
        (pe_op op_add (pe_op op_add (pe_op op_add (pe_op op_mul (pe_op op_mod (pe_callB call_abs (by rfl) ma (by decide +kernel) (pa_cons (pv 2) pa_nil)) pe_int) pe_int) (pe_op op_mul pe_int (pv 1)))
          (pe_op op_mul pe_int (pe_callTy call_int1 (by rfl) mi (by decide +kernel) (pa_cons (pe_cmpR op_lt (pv 2) pe_int (nomark _)) pa_nil)))) pe_int)
        (pa_cons pe_int pa_nil))))))), ?_⟩
    refine ⟨.int spot, rfl, .ref a, rfl, a, _, rfl, .inl hS, _, _, rfl, rfl, _, rfl, ite2 (fun e => ?_) (fun e => ?_)⟩
    · have e1 := of_decide_eq_true e
      rw [List.length_map] at e1
      have e2 : spot < ns.length := by omega
      have g : (ns.map V.int)[spot]? = some (.int ns[spot]) := by
        rw [List.getElem?_map, List.getElem?_eq_getElem e2]
        rfl
      refine ⟨.ref a, rfl, .int spot, rfl, a, _, spot, .int ns[spot], rfl, rfl, hS, atI_nat g, .inl ⟨_, rfl, ?_⟩⟩
      refine ⟨_, rfl, _, rfl, _, _, rfl, rfl, ⟨by decide, by decide, by decide⟩, _, _, rfl, rfl, _, _, rfl, _, _, rfl, rfl, ⟨by decide, by decide, by decide⟩, _, _, rfl, rfl, ⟨by decide, by decide, by decide⟩, _, _, rfl, rfl, mul60, _, _, rfl, rfl, pos60, ?_⟩
      refine ⟨_, rfl, _, rfl, _, rfl, _, _, rfl, rfl, (show (0 : Int) < 1152921504606846809 by decide), _, _, rfl, rfl, .inr (by decide), _, rfl, _, _, rfl, rfl, .inl (by decide), _, _, rfl, rfl, _, rfl, _, _, rfl, rfl, .inr ⟨_, rfl, _, _, rfl, rfl, .inl (by decide), _, _, rfl, rfl, _, _, rfl, rfl, (by show 3 ≤ sizeLine; decide), fun p np => ?_⟩⟩
      exact q _ p (sameUpd np) np ⟨_, _, _, upd_same, Int.emod_nonneg _ (by have := pos60; omega)⟩
    · refine ⟨_, rfl, _, _, rfl, rfl, .inl (by decide), _, _, rfl, rfl, ?_⟩
      refine ⟨_, rfl, _, rfl, _, _, rfl, rfl, ⟨by decide, by decide, by decide⟩, _, _, rfl, rfl, _, _, rfl, _, _, rfl, rfl, ⟨by decide, by decide, by decide⟩, _, _, rfl, rfl, ⟨by decide, by decide, by decide⟩, _, _, rfl, rfl, mul60, _, _, rfl, rfl, pos60, ?_⟩
      refine ⟨_, rfl, _, rfl, _, rfl, _, _, rfl, rfl, (show (0 : Int) < 1152921504606846809 by decide), _, _, rfl, rfl, .inr (by decide), _, rfl, _, _, rfl, rfl, .inl (by decide), _, _, rfl, rfl, _, rfl, _, _, rfl, rfl, .inr ⟨_, rfl, _, _, rfl, rfl, .inl (by decide), _, _, rfl, rfl, _, _, rfl, rfl, (by show 3 ≤ sizeLine; decide), fun p np => ?_⟩⟩
      exact q _ p (sameUpd np) np ⟨_, _, _, upd_same, Int.emod_nonneg _ (by have := pos60; omega)⟩
theorem ok_roll {f : Addr} {fd : FuncData} {k : Nat} (F : Fun K "_law_roll" "_law_roll" sRoll f fd) (mi : mg "int" = none) :
    FnOk P w K mg base CX0 (k + 1) f fd ["dice", "total"] spRoll := by
  refine F.ok scRoll (fun vs H Q E h => ?_) (fun cdv A outer s H vs Q E hr h => ?_)
  · obtain ⟨a, n, rfl, _⟩ := h
    rfl
  · obtain ⟨l, n, rfl, ⟨a, b, c, hd, ha⟩, h0, h1, q⟩ := h
    have at0 : atI [V.int a, .int b, .int c] 0 = some (.int a) := rfl
    have at1 : atI [V.int a, .int b, .int c] 1 = some (.int b) := rfl
    have at2 : atI [V.int a, .int b, .int c] 2 = some (.int c) := rfl
    refine ⟨_, pss_cons (ps_if (pt_cmpR op_gt (pe_ix ix_list (pv 0) pe_int (fun _ _ => rfl)) pe_int (nomark _))
        (pss_cons (ps_set (i := 2) scRoll.nd rfl (.inl rfl) (pe_op op_mod (pe_callTy call_int1 (by rfl) mi (by decide +kernel) (pa_cons (pe_ix ix_list (pv 0) pe_int (fun _ _ => rfl)) pa_nil)) (pv 1)))
        (pss_cons (ps_asg (pe_op op_fdiv (pe_ix ix_list (pv 0) pe_int (fun _ _ => rfl)) (pv 1)) (pg_sub (pv 0) pe_int set_list))
        (pss_one (ps_ret (pv 2))))) pss_nil)
      (pss_cons (ps_asg (pe_op op_add (pe_ix ix_list (pv 0) pe_int (fun _ _ => rfl)) pe_int) (pg_sub (pv 0) pe_int set_list))
      (pss_cons (ps_set (i := 3) scRoll.nd rfl (.inl rfl) (pe_op op_mod (pe_callTy call_int1 (by rfl) mi (by decide +kernel)
          (pa_cons (pe_op op_add (pe_ix ix_list (pv 0) pe_int (fun _ _ => rfl)) (pe_op op_mul pe_int (pe_ix ix_list (pv 0) pe_int (fun _ _ => rfl)))) pa_nil)) pe_int))
      (pss_cons (ps_set (i := 4) scRoll.nd rfl (.inl rfl) (pe_op op_add (pe_op op_mul (pe_op op_mod (pe_callTy call_int1 (by rfl) mi (by decide +kernel)
          (pa_cons (pe_op op_add (pe_op op_mul (pv 3) (pv 3)) (pe_op op_mul pe_int (pe_ix ix_list (pv 0) pe_int (fun _ _ => rfl)))) pa_nil)) pe_int) pe_int) (pv 3)))
      (pss_one (ps_ret (pe_op op_mod (pe_callTy call_int1 (by rfl) mi (by decide +kernel) (pa_cons (pe_op op_fdiv (pv 4) pe_int) pa_nil)) (pv 1))))))), ?_⟩
    refine ⟨.ref l, rfl, l, _, 0, _, rfl, rfl, .of hd, at0, a, 0, rfl, rfl, _, rfl, ite2 (fun e => ?_) (fun e => ?_)⟩
    · refine ⟨.ref l, rfl, l, _, 0, _, rfl, rfl, .of hd, at0, .inl ⟨a, rfl, .int n, rfl, a, n, rfl, rfl, h0, ?_⟩⟩
      refine ⟨.ref l, rfl, l, _, 0, _, rfl, rfl, .of hd, at0, .int n, rfl, a, n, rfl, rfl, ⟨h0, h1⟩, .ref l, rfl, l, _, 0, 0, rfl, rfl, hd, rfl, ?_⟩
      refine ⟨_, rfl, q _ _ .at ⟨a / n, b, c, upd_same, Int.ediv_nonneg ha (by omega)⟩ (Int.emod_nonneg _ (by omega)) (Int.emod_lt_of_pos _ h0)⟩
    · refine ⟨.ref l, rfl, l, _, 2, _, rfl, rfl, .of hd, at2, c, 1, rfl, rfl, .ref l, rfl, l, _, 2, 2, rfl, rfl, hd, rfl, ?_⟩
      have hd' : (upd H l (.lst [.int a, .int b, .int (c + 1)])) l = some (.lst [.int a, .int b, .int (c + 1)]) := upd_same
      have at1 : atI [V.int a, .int b, .int (c + 1)] 1 = some (.int b) := rfl
      have at2 : atI [V.int a, .int b, .int (c + 1)] 2 = some (.int (c + 1)) := rfl
      have p1 : (0 : Int) < 2305843009213693669 := by decide
      have p2 : (0 : Int) < 1152921504606846779 := by decide
      refine ⟨.ref l, rfl, l, _, 1, _, rfl, rfl, .of hd', at1, .ref l, rfl, l, _, 2, _, rfl, rfl, .of hd', at2, _, _, rfl, rfl, .inl (by decide), _, _, rfl, rfl, .inl ⟨_, rfl, _, _, rfl, rfl, p1, ?_⟩⟩
      have b0 := Int.emod_nonneg (b + 86028121 * (c + 1)) (show (2305843009213693669 : Int) ≠ 0 by decide)
      have b1 := Int.emod_lt_of_pos (b + 86028121 * (c + 1)) p1
      refine ⟨_, rfl, _, rfl, _, _, rfl, rfl, .inl ⟨Int.lt_of_lt_of_le (by decide) b0, Int.lt_trans b1 (by decide)⟩, .ref l, rfl, l, _, 2, _, rfl, rfl, .of hd', at2, _, _, rfl, rfl, .inl (by decide), _, _, rfl, rfl, .inl ⟨_, rfl, _, _, rfl, rfl, p2, ?_⟩⟩
      refine ⟨_, _, rfl, rfl, .inr (by decide), _, rfl, _, _, rfl, rfl, ?_⟩
      refine ⟨_, rfl, _, _, rfl, rfl, ⟨by decide, by decide⟩, .inl ⟨_, rfl, .int n, rfl, _, n, rfl, rfl, h0, ?_⟩⟩
      exact q _ _ .at ⟨a, b, c + 1, upd_same, ha⟩ (Int.emod_nonneg _ (by omega)) (Int.emod_lt_of_pos _ h0)
theorem ok_pick {f fR : Addr} {fd fdR : FuncData} (F : Fun K "_law_pick" "_law_pick" sPick f fd) (FR : Fun K "_law_roll" "_law_roll" sRoll fR fdR)
    (bR : Binds K fdR ["dice", "total"] []) (gR : mg "_law_roll" = some (.ref fR)) (ml : mg "len" = none) (mi : mg "int" = none) :
    FnOk P w K mg base CX0 2 f fd ["dice", "items"] (spPick K) := by
  have GR : FnOk P w K mg base CX0 1 fR fdR ["dice", "total"] spRoll := ok_roll FR mi
  refine F.ok scPick (fun vs H Q E h => ?_) (fun cdv A outer s H vs Q E hr h => ?_)
  · obtain ⟨l, a, xs, rfl, _⟩ := h
    rfl
  · obtain ⟨l, a, xs, rfl, hd, ne, hx, h0, h1, q⟩ := h
    refine ⟨_, pss_one (ps_ret (pe_ix ix_seq (pv 1) (pe_call GR hr (by rfl) gR FR.kp bR .nil pass0
      (pa_cons (pv 0) (pa_cons (pe_callB call_len_seq (by rfl) ml PySem.boot_len (pa_cons (pv 1) pa_nil)) pa_nil))) (fun _ _ => rfl))), ?_⟩
    refine ⟨.ref a, rfl, .ref l, rfl, .ref a, rfl, a, xs, rfl, hx, l, xs.length, rfl, hd, by omega, by omega, fun H' r bt hd' r0 r1 => ?_⟩
    have e : xs[r.toNat]? = some xs[r.toNat] := List.getElem?_eq_getElem (by omega)
    have e2 : atI xs r = some xs[r.toNat] := by
      have := atI_nat e
      rwa [show ((r.toNat : Nat) : Int) = r by omega] at this
    rcases hx with hx | hx
    · exact .inl ⟨a, xs, r, _, rfl, rfl, bt.seqL ne hx, e2, q H' r.toNat _ bt hd' e⟩
    · exact .inr (.inl ⟨a, xs, r, _, rfl, rfl, bt.seqT ne hx, e2, q H' r.toNat _ bt hd' e⟩)
end
end K03

set_option maxHeartbeats 4000000
namespace K03
open PySem PySem.Spec PyProof.Rows L2 GG
abbrev sInteger : Stmt := topS 3
abbrev sWithin : Stmt := topS 4
theorem scInteger : FnScope ["value"] ["value"] (defScope sInteger) := ⟨rfl, rfl, rfl, by decide +kernel, rfl, by decide +kernel, by decide +kernel⟩
theorem scWithin : FnScope ["value", "least", "most"] ["value", "least", "most"] (defScope sWithin) := ⟨rfl, rfl, rfl, by decide +kernel, rfl, by decide +kernel, by decide +kernel⟩
section
variable {P : Program} {w : World} {K : PySem.W.Frag} {mg : Str → Option Value} {base : Heap}
theorem ok_integer {f : Addr} {fd : FuncData} {k : Nat} {tB : Tok} (F : Fun K "is_integer" "is_integer" sInteger f fd)
    (mi : mg "int" = none) (mb : mg "bool" = none) (ms : mg "isinstance" = none) (mB : mg "_BOUND" = some (.int BND tB)) :
    FnOk P w K mg base CX0 (k + 1) f fd ["value"] (spInteger K) := by
  refine F.ok scInteger (fun vs H Q E h => ?_) (fun cdv A outer s H vs Q E hr h => ?_)
  · obtain ⟨v, rfl, _⟩ := h
    rfl
  · obtain ⟨v, rfl, h⟩ := h
    refine ⟨_, pss_one (ps_ret (pe_and (pe_callB call_isi (by rfl) ms (by decide +kernel) (pa_cons (pv 0) (pa_cons (pe_bltn (v := .ty "int") (by rfl) mi (by decide +kernel) rfl) pa_nil)))
      (pe_and (pe_not (pe_callB call_isi (by rfl) ms (by decide +kernel) (pa_cons (pv 0) (pa_cons (pe_bltn (v := .ty "bool") (by rfl) mb (by decide +kernel) rfl) pa_nil))))
      (pe_one (pe_chain op_lt op_lt (pe_un un_neg (pe_glob (v := .int BND) (by rfl) mB ⟨_, rfl⟩)) (pv 0) (pe_glob (v := .int BND) (by rfl) mB ⟨_, rfl⟩)))))), ?_⟩
    rcases h with ⟨i, rfl, q⟩ | ⟨⟨b, rfl⟩ | ⟨t, ty, kb⟩, q⟩
    · refine ⟨_, rfl, _, _, _, _, true, rfl, .ty _, .base (.int i), kit_ty (by decide +kernel), true, rfl, iteT ?_⟩
      refine ⟨_, rfl, _, _, _, _, false, rfl, .ty _, .base (.int i), kit_ty (by decide +kernel), false, rfl, true, rfl, iteT ?_⟩
      refine ⟨_, rfl, _, rfl, _, _, rfl, rfl, _, rfl, ite2 (fun e => ?_) (fun e => ?_)⟩
      · refine ⟨_, _, rfl, rfl, ?_⟩
        have e' : intOk i = decide (i < BND) := by
          unfold intOk
          rw [e, Bool.true_and]
        rw [e'] at q
        exact q
      · have e' : intOk i = false := by
          unfold intOk
          rw [Bool.not_eq_true _ |>.mp e, Bool.false_and]
        rw [e'] at q
        exact q
    · refine ⟨_, rfl, _, _, _, _, true, rfl, .ty _, .base (.bl b), kit_ty (by decide +kernel), true, rfl, iteT ?_⟩
      exact ⟨_, rfl, _, _, _, _, true, rfl, .ty _, .base (.bl b), kit_ty (by decide +kernel), true, rfl, false, rfl, iteF q⟩
    · exact ⟨_, rfl, _, _, _, _, false, rfl, .ty _, ty, kit_ty kb, false, rfl, iteF q⟩
theorem ok_within {f fI : Addr} {fd fdI : FuncData} (F : Fun K "is_within" "is_within" sWithin f fd) (bI : Binds K fdI ["value"] [])
    (GI : FnOk P w K mg base CX0 1 fI fdI ["value"] (spInteger K)) (gI : mg "is_integer" = some (.ref fI)) (kI : PySem.W.keepIn K (.ref fI) = true) :
    FnOk P w K mg base CX0 2 f fd ["value", "least", "most"] (spWithin K) := by
  refine F.ok scWithin (fun vs H Q E h => ?_) (fun cdv A outer s H vs Q E hr h => ?_)
  · obtain ⟨v, lo, hi, rfl, _⟩ := h
    rfl
  · obtain ⟨v, lo, hi, rfl, h⟩ := h
    refine ⟨_, pss_one (ps_ret (pe_and (pe_call GI hr (by rfl) gI kI bI .nil pass0 (pa_cons (pv 0) pa_nil))
      (pe_one (pe_chain op_le op_le (pv 1) (pv 0) (pv 2))))), ?_⟩
    rcases h with ⟨i, rfl, q⟩ | ⟨no, q⟩
    · refine ⟨_, rfl, _, rfl, .inl ⟨i, rfl, _, rfl, and2 (d := decide (lo ≤ i) && decide (i ≤ hi)) (fun _ Q' z => ?_) q⟩⟩
      refine ⟨_, rfl, _, rfl, _, _, rfl, rfl, _, rfl, ite2 (fun e => ⟨_, rfl, _, _, rfl, rfl, ?_⟩) (fun e => ?_)⟩
      · rw [e, Bool.true_and] at z
        exact z
      · rw [Bool.not_eq_true _ |>.mp e, Bool.false_and] at z
        exact z
    · exact ⟨_, rfl, _, rfl, .inr ⟨no, _, rfl, iteF q⟩⟩
end
end K03

set_option maxHeartbeats 4000000
namespace K03
open PySem
/-! ### the mathematics, in natural numbers -/
/-- the divisors from 1 to k -/
def low (n k : Nat) : List Nat := ((List.range k).map (· + 1)).filter fun p => n % p == 0
def high (n : Nat) (ps : List Nat) : List Nat := (ps.filter fun p => !(p * p == n)).map fun p => n / p
def rt (n : Nat) : Nat := PySem.Float64.isqrt n
def dv (n : Nat) : List Nat := low n (rt n) ++ high n (low n (rt n)).reverse
def muGo : List Nat → Int → Nat → Int
  | [], s, r => if 1 < r then -s else s
  | p :: ps, s, r => if r < p * p then (if 1 < r then -s else s) else
      if r % p == 0 then (if r / p % p == 0 then 0 else muGo ps (-s) (r / p)) else muGo ps s r
def primes : List Nat := [2, 3, 5, 7, 11, 13, 17, 19, 23, 29, 31]
def mu (n : Nat) : Int := muGo primes 1 n
theorem low_succ (n k : Nat) : low n (k + 1) = low n k ++ (if n % (k + 1) == 0 then [k + 1] else []) := by
  unfold low
  rw [List.range_succ, List.map_append, List.filter_append]
  congr 1
  by_cases h : n % (k + 1) == 0
  · rw [if_pos h]
    simp only [List.map_cons, List.map_nil, List.filter_cons, h, if_true, List.filter_nil]
  · rw [if_neg h]
    simp only [List.map_cons, List.map_nil, List.filter_cons, h, if_false, List.filter_nil]
    rfl
def muSum (n : Nat) : Int := ((low n n).map mu).sum
def chk (n : Nat) : Bool := (dv n == low n n) && decide (muSum n = if n = 1 then 1 else 0) && (decide (mu n = -1) || decide (mu n = 0) || decide (mu n = 1))

def chkTo (a k : Nat) : Bool := match k with
  | 0 => true
  | k + 1 => chk (a + k + 1) && chkTo a k
theorem chkTo_get {a k : Nat} (h : chkTo a k = true) {n : Nat} (h1 : a + 1 ≤ n) (h2 : n ≤ a + k) : chk n = true := by
  induction k with
  | zero => omega
  | succ k ih =>
    unfold chkTo at h
    obtain ⟨x, y⟩ := Bool.and_eq_true_iff.mp h
    by_cases e : n = a + k + 1
    · rw [e]; exact x
    · exact ih y (by omega)
theorem c0 : chkTo 0 400 = true := by decide +kernel
theorem c1 : chkTo 400 200 = true := by decide +kernel
theorem c2 : chkTo 600 200 = true := by decide +kernel
theorem c3 : chkTo 800 200 = true := by decide +kernel
theorem chk_all {n : Nat} (h1 : 1 ≤ n) (h2 : n ≤ 1000) : chk n = true := by
  by_cases a : n ≤ 400
  · exact chkTo_get c0 (by omega) (by omega)
  by_cases b : n ≤ 600
  · exact chkTo_get c1 (by omega) (by omega)
  by_cases c : n ≤ 800
  · exact chkTo_get c2 (by omega) (by omega)
  · exact chkTo_get c3 (by omega) (by omega)
end K03

set_option maxHeartbeats 4000000
namespace GG
open PySem PySem.Spec PyProof.Rows L2
/-! ### math.isqrt -/
def rIsqrt : List V → Hp → VK → Prop := fun vs H Q => ∃ a : Int, vs = [.int a] ∧ 0 ≤ a ∧ a < 2 ^ 64 ∧ Q (.int ((PySem.Float64.isqrt a.toNat : Nat) : Int)) H
theorem cr_isqrt {X : Cx} : CallR X (.builtin "math.isqrt") rIsqrt := by
  intro pins s σ H vs us Q I r h
  obtain ⟨a, rfl, h0, h1, q⟩ := h
  obtain ⟨u, rfl, ru⟩ := vals1 r
  obtain ⟨t, rfl⟩ := ru
  exact PySem.W.mg_isqrt h0 h1 ⟨.int _, H, I.tok _, ⟨_, rfl⟩, q⟩
end GG
namespace K03
open PySem PySem.Spec PyProof.Rows L2 GG
end K03

set_option maxHeartbeats 8000000
namespace GG
def clsBody : PySem.Stmt → List PySem.Stmt
  | .ClassDef _ _ _ b _ _ _ _ _ _ _ => b
  | _ => []
end GG
namespace K03
open PySem PySem.Spec PyProof.Rows L2 GG
abbrev sDiv : Stmt := topS 10
abbrev sMu : Stmt := topS 11
abbrev sLimit : Stmt := topS 16
theorem scDiv : FnScope ["number", "low", "high", "part"] ["number"] (defScope sDiv) := ⟨rfl, rfl, rfl, by decide +kernel, rfl, by decide +kernel, by decide +kernel⟩
theorem scMu : FnScope ["number", "sign", "rest", "prime"] ["number"] (defScope sMu) := ⟨rfl, rfl, rfl, by decide +kernel, rfl, by decide +kernel, by decide +kernel⟩
theorem scLimit : FnScope [] [] (defScope sLimit) := ⟨rfl, rfl, rfl, by decide +kernel, rfl, by decide +kernel, by decide +kernel⟩
abbrev XN (K : PySem.W.Frag) (mg : Str → Option Value) (C fI : Addr) : Prop :=
  PySem.GX.OwnX K mg "InvalidNumber" "value" [.type "IndexError", .type "LookupError", .type "Exception", .type "BaseException", .type "object"] "IndexError.__new__" C fI
abbrev xdv (v : V) : HO := .xd [("value", v)]
def Raised (E : XK) (C : Addr) (v : V) (H : Hp) : Prop := ∀ H' d, Same H H' → H' d = none → E (.ref C) (some d) (upd H' d (xdv v))
def Out (K : PySem.W.Frag) (H : Hp) (v : V) (lo hi : Int) : Prop := (∃ n, v = .int n ∧ inOk lo hi n = false) ∨ NoInt K H v
abbrev vN (k : Nat) : V := .int k
def spDiv (K : PySem.W.Frag) (C : Addr) : Sp := fun vs H Q E => ∃ v, vs = [v] ∧
  ((∃ n : Nat, v = .int n ∧ 1 ≤ n ∧ n ≤ 1000 ∧ ∀ H' p, Same H H' → H p = none → H' p = some (.tup ((dv n).map vN)) → Q (.ref p) H') ∨ (Out K H v 1 1000 ∧ Raised E C v H))
def spMu (K : PySem.W.Frag) (C : Addr) : Sp := fun vs H Q E => ∃ v, vs = [v] ∧
  ((∃ n : Nat, v = .int n ∧ 1 ≤ n ∧ n ≤ 1000 ∧ Q (.int (mu n)) H) ∨ (Out K H v 1 1000 ∧ Raised E C v H))
theorem in1000 {n : Nat} (h1 : 1 ≤ n) (h2 : n ≤ 1000) : inOk 1 1000 (n : Int) = true := by
  unfold inOk
  rw [intOk_small (by omega) (by omega), decide_eq_true (show (1 : Int) ≤ n by omega), decide_eq_true (show (n : Int) ≤ 1000 by omega)]
  rfl
theorem rt_all {n : Nat} (h2 : n ≤ 1000) : rt n ≤ 31 := by
  have h : ((List.range 1001).all fun n => decide (rt n ≤ 31)) = true := by decide +kernel
  exact of_decide_eq_true (List.all_eq_true.mp h n (List.mem_range.mpr (by omega)))
theorem low_len (n k : Nat) : (low n k).length ≤ k := by
  unfold low
  refine Nat.le_trans (List.length_filter_le _ _) ?_
  rw [List.length_map, List.length_range]
  exact Nat.le_refl _
theorem low_mem {n k p : Nat} (h : p ∈ low n k) : 1 ≤ p ∧ p ≤ k ∧ n % p = 0 := by
  obtain ⟨h1, h2⟩ := List.mem_filter.mp h
  obtain ⟨j, hj, rfl⟩ := List.mem_map.mp h1
  have := List.mem_range.mp hj
  exact ⟨by omega, by omega, by simpa using h2⟩
theorem vint_inj {a b : Int} (h : V.int a = V.int b) : a = b := by cases h; rfl
/-- high of the first i of ps -/
theorem high_take (n : Nat) (ps : List Nat) (i p : Nat) (h : ps[i]? = some p) : high n (ps.take (i + 1)) = high n (ps.take i) ++ (if p * p = n then [] else [n / p]) := by
  unfold high
  rw [List.take_add_one, h, List.filter_append, List.map_append]
  congr 1
  by_cases e : p * p = n
  · rw [if_pos e]
    simp [e]
  · rw [if_neg e]
    simp [e]
section
variable {P : Program} {w : World} {K : PySem.W.Frag} {mg : Str → Option Value} {base : Heap}
theorem ok_limit {f : Addr} {fd : FuncData} {k : Nat} (F : Fun K "_law_limit" "_law_limit" sLimit f fd) :
    FnOk P w K mg base CX0 (k + 1) f fd [] spLimit := by
  refine F.ok scLimit (fun vs H Q E h => ?_) (fun cdv A outer s H vs Q E hr h => ?_)
  · rw [h.1]
    rfl
  · obtain ⟨rfl, q⟩ := h
    refine ⟨_, pss_one (ps_ret (pe_op op_powW (pe_op op_pow pe_int pe_int) pe_int)), ?_⟩
    refine ⟨_, _, rfl, rfl, ⟨by decide, by decide, by decide⟩, _, _, rfl, rfl, ⟨by decide, by decide +kernel⟩, ?_⟩
    rw [← limE] at q
    exact q
theorem ok_div {f fW C fE : Addr} {fd fdW : FuncData} {tL : Tok} (F : Fun K "divisors" "divisors" sDiv f fd) (bW : Binds K fdW ["value", "least", "most"] [])
    (GW : FnOk P w K mg base CX0 2 fW fdW ["value", "least", "most"] (spWithin K)) (gW : mg "is_within" = some (.ref fW)) (kW : PySem.W.keepIn K (.ref fW) = true)
    (mL : mg "_LIMIT" = some (.int 1000 tL)) (mr : mg "range" = none) (mt : mg "tuple" = none) (mq : mg "isqrt" = some (.builtin "math.isqrt"))
    (T : XN K mg C fE) (init : PySem.GX.InitOk K "value" C fE) :
    FnOk P w K mg base (L2.CX P w) 3 f fd ["number"] (spDiv K C) := by
  refine F.okX scDiv (fun vs H Q E h => ?_) (fun cdv A outer s H vs Q E hr h => ?_)
  · obtain ⟨v, rfl, _⟩ := h
    rfl
  · obtain ⟨v, rfl, h⟩ := h
    have hr1 := hr.mono (show 1 ≤ 2 by decide)
    have N := scDiv.nd
    refine ⟨_, pss_cons (ps_if (pt_not (pt_val (pe_call GW hr (by rfl) gW kW bW .nil pass0 (pa_cons (pv 0) (pa_cons pe_int (pa_cons (pe_glob (v := .int 1000) (by rfl) mL ⟨_, rfl⟩) pa_nil))))))
        (pss_one (ps_raiseX PySem.F.excBase_IndexError rfl T init hr1 (takes_of rfl rfl rfl rfl) (pa_cons (pv 0) pa_nil))) pss_nil)
      (pss_cons (ps_setLc (i := 1) (own := [("part", 3)]) (g := gName 3) rfl N rfl rfl (sw_true rfl rfl rfl (by decide +kernel))
          (pi_range2 (by rfl) mr (pa_cons pe_int (pa_cons (pe_op op_add (pe_callBfun cr_isqrt (by rfl) mq (pa_cons (pv 0) pa_nil)) pe_int) pa_nil)))
          (blkOk_by (own := [("part", 3)]) (N := ["number", "low", "high", "part"]) (sc := defScope sDiv) (by decide +kernel))
          (fun _ _ _ _ _ => pg_name (i := 3) N rfl (Or.inl rfl)) (fun _ _ _ _ _ => pts_one (pt_cmpR op_eq (pe_op op_mod (pv 0) (pv 3)) pe_int (nomark _))) (fun _ _ _ _ _ => pv 3))
      (pss_cons (ps_setLc (i := 2) (own := [("part", 3)]) (g := gName 3) rfl N rfl rfl (sw_true rfl rfl rfl (by decide +kernel))
          (pi_list (pe_revL (pv 1)))
          (blkOk_by (own := [("part", 3)]) (N := ["number", "low", "high", "part"]) (sc := defScope sDiv) (by decide +kernel))
          (fun _ _ _ _ _ => pg_name (i := 3) N rfl (Or.inl rfl)) (fun _ _ _ _ _ => pts_one (pt_cmpR op_ne (pe_op op_mul (pv 3) (pv 3)) (pv 0) (nomark _))) (fun _ _ _ _ _ => pe_op op_fdiv (pv 0) (pv 3)))
      (pss_one (ps_ret (pe_callTy call_tuple_of (by rfl) mt (by decide +kernel) (pa_cons (pe_op op_cat (pv 1) (pv 2)) pa_nil)))))), ?_⟩
    rcases h with ⟨n, rfl, n1, n2, q⟩ | ⟨out, q⟩
    · have r31 := rt_all n2
      have pl : ∀ p ∈ low n (rt n), 1 ≤ p ∧ p ≤ 31 := fun p hp => by
        obtain ⟨a, b, _⟩ := low_mem hp
        omega
      have hll := low_len n (rt n)
      have rng : (1 + ((rt n : Nat) : Int) - 1).toNat = rt n := by omega
      refine ⟨_, rfl, _, _, _, rfl, .inl ⟨(n : Int), rfl, true, by rw [in1000 n1 n2], iteF ?_⟩⟩
      refine ⟨_, rfl, _, rfl, by omega, by omega, _, _, rfl, rfl, _, _, rfl, ⟨by omega, by omega, ?_, ?_⟩, fun D nD => ?_⟩
      · have := r31
        show -(2 ^ 62) ≤ ((rt n : Nat) : Int) + 1
        omega
      · have := r31
        show ((rt n : Nat) : Int) + 1 < 2 ^ 62
        omega
      refine lc_range (lo := 1) (n := (((rt n : Nat) : Int) + 1 - 1).toNat) (fun k H2 => Same H H2 ∧ H2 D = some (.lst ((low n k).map vN))) ⟨sameUpd nD, upd_same⟩ (fun k H2 hk hP => ?_) (fun H2 hP => ?_)
      · obtain ⟨sm, hD⟩ := hP
        have kk : (1 : Int) + (k : Int) = ((k + 1 : Nat) : Int) := by omega
        refine ⟨rfl, _, rfl, _, rfl, _, _, rfl, rfl, (by omega), rfl, _, rfl, ?_⟩
        have md : ((n : Int) % (1 + (k : Int))) = ((n % (k + 1) : Nat) : Int) := by
          rw [kk]
          rfl
        have sc := low_succ n k
        refine ite2 (fun e => ?_) (fun e => ?_)
        · have e0 : n % (k + 1) = 0 := by
            have := vint_inj (show V.int ((n : Int) % (1 + (k : Int))) = V.int 0 from of_decide_eq_true e)
            rw [md] at this
            omega
          refine ⟨_, rfl, _, hD, ?_, fun b o eb => ?_, ?_⟩
          · have := low_len n k
            rw [List.length_map]
            exact small1000 (by omega)
          · rw [upd_ne (ne_of_none eb nD)]
            exact sm b o eb
          · rw [upd_same, sc, if_pos (by rw [e0]; rfl), List.map_append, kk]
            rfl
        · have e0 : n % (k + 1) ≠ 0 := by
            intro z
            refine e (decide_eq_true ?_)
            show V.int ((n : Int) % (1 + (k : Int))) = V.int 0
            rw [md, z]
            rfl
          refine ⟨sm, ?_⟩
          rw [hD, sc, if_neg (by simpa using e0), List.append_nil]
      · obtain ⟨sm, hD⟩ := hP
        rw [show (((rt n : Nat) : Int) + 1 - 1).toNat = rt n by omega] at hD
        refine ⟨_, rfl, D, _, rfl, .of hD, fun R nR => ⟨R, rfl, ⟨_, .of upd_same⟩, fun D2 nD2 => ?_⟩⟩
        have sR : Same H (upd H2 R (.lst ((low n (rt n)).map vN).reverse)) := fun b o eb => sameUpd nR _ _ (sm b o eb)
        have hR : (upd H2 R (.lst ((low n (rt n)).map vN).reverse)) R = some (.lst ((low n (rt n)).reverse.map vN)) := by
          rw [upd_same, List.map_reverse]
        refine lc_list (a := R) (xs := (low n (rt n)).reverse.map vN) (fun k H3 => Same (upd H2 R (.lst ((low n (rt n)).map vN).reverse)) H3 ∧ H3 D2 = some (.lst ((high n ((low n (rt n)).reverse.take k)).map vN))) ⟨sameUpd nD2, upd_same⟩
          (fun k H3 hk hP => .of (hP.1 _ _ hR)) (fun k v H3 hv hP => ?_) (fun H3 hP => ?_)
        · obtain ⟨sm3, hD2⟩ := hP
          rw [List.getElem?_map] at hv
          obtain ⟨p, hp, rfl⟩ := Option.map_eq_some_iff.mp hv
          have pm := pl p (List.mem_reverse.mp (List.mem_of_getElem? hp))
          have ht := high_take n _ k p hp
          have kl : k < (low n (rt n)).reverse.length := (List.getElem?_eq_some_iff.mp hp).1
          rw [List.length_reverse] at kl
          refine ⟨rfl, _, rfl, _, rfl, _, _, rfl, rfl, .inl ⟨by omega, by omega⟩, _, rfl, rfl, _, rfl, ?_⟩
          by_cases e : p * p = n
          · have e' : (V.int ((p : Int) * (p : Int))) = V.int (n : Int) := by
              rw [← e]
              rfl
            refine iteFo (by rw [decide_eq_true e']; rfl) ⟨sm3, ?_⟩
            rw [hD2, ht, if_pos e, List.append_nil]
          · have e' : ¬ (V.int ((p : Int) * (p : Int))) = V.int (n : Int) := by
              intro z
              have : (p : Int) * (p : Int) = n := vint_inj z
              exact e (by exact_mod_cast this)
            refine iteTo (by rw [decide_eq_false e']; rfl) ⟨_, rfl, _, rfl, _, _, rfl, rfl, ⟨by omega, by omega⟩, _, hD2, ?_, fun b o eb => ?_, ?_⟩
            · rw [List.length_map]
              unfold high
              rw [List.length_map]
              refine small1000 ?_
              have a := List.length_filter_le (fun p => !(p * p == n)) ((low n (rt n)).reverse.take k)
              rw [List.length_take] at a
              omega
            · rw [upd_ne (ne_of_none eb nD2)]
              exact sm3 b o eb
            · rw [upd_same, ht, if_neg e, List.map_append]
              rfl
        · obtain ⟨sm3, hD2⟩ := hP
          have tk : (low n (rt n)).reverse.take ((low n (rt n)).reverse.map vN).length = (low n (rt n)).reverse := by
            rw [List.length_map, List.take_length]
          rw [tk] at hD2
          have hDD := sm3 _ _ (sameUpd nR _ _ hD)
          have hl : ((low n (rt n)).map vN ++ (high n (low n (rt n)).reverse).map vN).length ≤ 62 := by
            rw [List.length_append, List.length_map, List.length_map]
            unfold high
            rw [List.length_map]
            have a := List.length_filter_le (fun p => !(p * p == n)) (low n (rt n)).reverse
            rw [List.length_reverse] at a
            omega
          refine ⟨_, rfl, _, rfl, D, D2, _, _, rfl, rfl, hDD, hD2, (by rw [List.length_append] at hl; rw [sizeLine_eq]; omega), fun L nL => ⟨L, _, rfl, .inl ⟨.of upd_same, fun t nt => ?_⟩⟩⟩
          refine q _ _ (fun b o eb => sameUpd nt _ _ (sameUpd nL _ _ (sm3 _ _ (sR b o eb)))) ?_ ?_
          · rcases hq : H t with _ | o
            · rfl
            · have := sameUpd (o := .lst ((low n (rt n)).map vN ++ (high n (low n (rt n)).reverse).map vN)) nL _ _ (sm3 _ _ (sR t o hq))
              rw [nt] at this
              cases this
          · rw [upd_same]
            unfold dv
            rw [List.map_append]
    · rcases out with ⟨n, rfl, hn⟩ | no
      · exact ⟨_, rfl, _, _, _, rfl, .inl ⟨n, rfl, false, by rw [hn], iteT ⟨_, rfl, _, rfl, fun d hd => q H d (.refl H) hd⟩⟩⟩
      · exact ⟨_, rfl, _, _, _, rfl, .inr ⟨no, false, rfl, iteT ⟨_, rfl, _, rfl, fun d hd => q H d (.refl H) hd⟩⟩⟩
end
end K03

set_option maxHeartbeats 8000000
namespace K03
open PySem PySem.Spec PyProof.Rows L2 GG
theorem primes_small : ∀ p ∈ primes, 1 ≤ p ∧ p ≤ 31 := by decide
theorem drop_at {i p : Nat} (h : primes[i]? = some p) : primes.drop i = p :: primes.drop (i + 1) := by
  obtain ⟨h1, rfl⟩ := List.getElem?_eq_some_iff.mp h
  exact List.drop_eq_getElem_cons h1
theorem vdvd {r p : Nat} : (V.int ((r : Int) % (p : Int)) = V.int 0) ↔ r % p = 0 := by
  constructor
  · intro h
    have := vint_inj h
    omega
  · intro h
    have : ((r : Int) % (p : Int)) = ((r % p : Nat) : Int) := rfl
    rw [this, h]
    rfl
section
variable {P : Program} {w : World} {K : PySem.W.Frag} {mg : Str → Option Value} {base : Heap}
theorem ok_mu {f fW C fE pA : Addr} {fd fdW : FuncData} {tL : Tok} (F : Fun K "moebius" "moebius" sMu f fd) (bW : Binds K fdW ["value", "least", "most"] [])
    (GW : FnOk P w K mg base CX0 2 fW fdW ["value", "least", "most"] (spWithin K)) (gW : mg "is_within" = some (.ref fW)) (kW : PySem.W.keepIn K (.ref fW) = true)
    (mL : mg "_LIMIT" = some (.int 1000 tL)) (mP : mg "_PRIMES" = some (.ref pA)) (sP : ∀ H, SqT K H pA (primes.map vN))
    (T : XN K mg C fE) (init : PySem.GX.InitOk K "value" C fE) :
    FnOk P w K mg base (L2.CX P w) 3 f fd ["number"] (spMu K C) := by
  refine F.okX scMu (fun vs H Q E h => ?_) (fun cdv A outer s H vs Q E hr h => ?_)
  · obtain ⟨v, rfl, _⟩ := h
    rfl
  · obtain ⟨v, rfl, h⟩ := h
    have hr1 := hr.mono (show 1 ≤ 2 by decide)
    have N := scMu.nd
    refine ⟨_, pss_cons (ps_if (pt_not (pt_val (pe_call GW hr (by rfl) gW kW bW .nil pass0 (pa_cons (pv 0) (pa_cons pe_int (pa_cons (pe_glob (v := .int 1000) (by rfl) mL ⟨_, rfl⟩) pa_nil))))))
        (pss_one (ps_raiseX PySem.F.excBase_IndexError rfl T init hr1 (takes_of rfl rfl rfl rfl) (pa_cons (pv 0) pa_nil))) pss_nil)
      (PSs.nox (pss_cons (ps_set (i := 1) N rfl (.inl rfl) pe_int)
      (pss_cons (ps_set (i := 2) N rfl (.inl rfl) (pv 0))
      (pss_cons (ps_for PassesOwn.never rfl (pi_tup (pe_glob (v := .ref pA) (by rfl) mP rfl)) (pg_name (i := 3) N rfl (.inl rfl))
        (pss_cons (ps_if (pt_cmpR op_gt (pe_op op_mul (pv 3) (pv 3)) (pv 2) (nomark _)) (pss_one ps_break) pss_nil)
        (pss_one (ps_if (pt_cmpR op_eq (pe_op op_mod (pv 2) (pv 3)) pe_int (nomark _))
          (pss_cons (ps_set (i := 2) N rfl (.inl rfl) (pe_op op_fdiv (pv 2) (pv 3)))
          (pss_cons (ps_if (pt_cmpR op_eq (pe_op op_mod (pv 2) (pv 3)) pe_int (nomark _)) (pss_one (ps_ret pe_int)) pss_nil)
          (pss_one (ps_set (i := 1) N rfl (.inl rfl) (pe_un un_neg (pv 1)))))) pss_nil))))
      (pss_cons (ps_if (pt_cmpR op_gt (pv 2) pe_int (nomark _)) (pss_one (ps_ret (pe_un un_neg (pv 1)))) pss_nil)
      (pss_one (ps_ret (pv 1)))))))), ?_⟩
    rcases h with ⟨n, rfl, n1, n2, q⟩ | ⟨out, q⟩
    · refine ⟨_, rfl, _, _, _, rfl, .inl ⟨(n : Int), rfl, true, by rw [in1000 n1 n2], iteF ?_⟩⟩
      refine ⟨_, rfl, pA, rfl, ⟨_, sP H⟩, ?_⟩
      refine for_tup (xs := primes.map vN) (fun i σ H1 => H1 = H ∧ ∃ (s : Int) (r : Nat) (y : Option V), σ = [some (vN n), some (.int s), some (vN r), y] ∧ 1 ≤ r ∧ r ≤ 1000 ∧ muGo (primes.drop i) s r = mu n)
        ⟨rfl, 1, n, none, rfl, n1, n2, rfl⟩ (fun i σ H1 hi hP => by rw [hP.1]; exact sP H) (fun i x σ H1 hx hP => ?_) (fun σ H1 hP => ?_)
      · obtain ⟨rfl, s, r, y, rfl, r1, r2, em⟩ := hP
        rw [List.getElem?_map] at hx
        obtain ⟨p, hp, rfl⟩ := Option.map_eq_some_iff.mp hx
        obtain ⟨p1, p2⟩ := primes_small p (List.mem_of_getElem? hp)
        rw [drop_at hp, muGo] at em
        refine ⟨_, rfl, _, rfl, _, _, rfl, rfl, .inl ⟨by omega, by omega⟩, _, rfl, _, _, rfl, rfl, _, rfl, ?_⟩
        have cp : ((p : Int) * (p : Int)) = ((p * p : Nat) : Int) := rfl
        refine ite2 (fun e => ?_) (fun e => ?_)
        · have e0 : r < p * p := by
            have := of_decide_eq_true e
            rw [cp] at this
            omega
          rw [if_pos e0] at em
          refine ⟨_, rfl, _, _, rfl, rfl, _, rfl, ite2 (fun e1 => ?_) (fun e1 => ?_)⟩
          · have e2 : 1 < r := by have := of_decide_eq_true e1; omega
            rw [if_pos e2] at em
            refine ⟨_, rfl, _, rfl, ?_⟩
            rw [← em] at q
            exact q
          · have e2 : ¬ 1 < r := fun z => e1 (decide_eq_true (show (1 : Int) < (r : Int) by omega))
            rw [if_neg e2] at em
            rw [← em] at q
            exact ⟨_, rfl, q⟩
        · have e0 : ¬ r < p * p := fun z => e (decide_eq_true (show (r : Int) < (p : Int) * (p : Int) by rw [cp]; omega))
          rw [if_neg e0] at em
          refine ⟨_, rfl, _, rfl, _, _, rfl, rfl, (by omega), rfl, _, rfl, ite2 (fun e1 => ?_) (fun e1 => ?_)⟩
          · have e2 : r % p = 0 := vdvd.mp (of_decide_eq_true e1)
            rw [if_pos (by rw [e2]; rfl)] at em
            refine ⟨_, rfl, _, rfl, _, _, rfl, rfl, ⟨by omega, by omega⟩, ?_⟩
            refine ⟨_, rfl, _, rfl, _, _, rfl, rfl, (by omega), rfl, _, rfl, ite2 (fun e3 => ?_) (fun e3 => ?_)⟩
            · have e4 : r / p % p = 0 := vdvd.mp (of_decide_eq_true e3)
              rw [if_pos (by rw [e4]; rfl)] at em
              rw [← em] at q
              exact q
            · have e4 : ¬ r / p % p = 0 := fun z => e3 (decide_eq_true (vdvd.mpr z))
              rw [if_neg (by simpa using e4)] at em
              have rp : 1 ≤ r / p := by
                have : p ≤ r := Nat.le_of_dvd (by omega) (Nat.dvd_of_mod_eq_zero e2)
                exact (Nat.le_div_iff_mul_le (by omega)).mpr (by omega)
              exact ⟨_, rfl, _, rfl, rfl, _, _, _, rfl, rp, Nat.le_trans (Nat.div_le_self _ _) r2, em⟩
          · have e2 : ¬ r % p = 0 := fun z => e1 (decide_eq_true (vdvd.mpr z))
            rw [if_neg (by simpa using e2)] at em
            exact ⟨rfl, _, _, _, rfl, r1, r2, em⟩
      · obtain ⟨rfl, s, r, y, rfl, r1, r2, em⟩ := hP
        have dz : primes.drop (primes.map vN).length = [] := by decide
        rw [dz, muGo] at em
        refine ⟨_, rfl, _, _, rfl, rfl, _, rfl, ite2 (fun e1 => ?_) (fun e1 => ?_)⟩
        · have e2 : 1 < r := by have := of_decide_eq_true e1; omega
          rw [if_pos e2] at em
          refine ⟨_, rfl, _, rfl, ?_⟩
          rw [← em] at q
          exact q
        · have e2 : ¬ 1 < r := fun z => e1 (decide_eq_true (show (1 : Int) < (r : Int) by omega))
          rw [if_neg e2] at em
          rw [← em] at q
          exact ⟨_, rfl, q⟩
    · rcases out with ⟨n, rfl, hn⟩ | no
      · exact ⟨_, rfl, _, _, _, rfl, .inl ⟨n, rfl, false, by rw [hn], iteT ⟨_, rfl, _, rfl, fun d hd => q H d (.refl H) hd⟩⟩⟩
      · exact ⟨_, rfl, _, _, _, rfl, .inr ⟨no, false, rfl, iteT ⟨_, rfl, _, rfl, fun d hd => q H d (.refl H) hd⟩⟩⟩
end
end K03

set_option maxHeartbeats 8000000
namespace K03
open PySem PySem.Spec PyProof.Rows L2 GG LamX
abbrev sRef : Stmt := topS 17
theorem scRef : FnScope ["call", "e"] ["call"] (defScope sRef) := ⟨rfl, rfl, rfl, by decide +kernel, rfl, by decide +kernel, by decide +kernel⟩
/-- what _law_refused makes of its call -/
def TTref (K : PySem.W.Frag) (CN : Addr) : (XK → Hp → VK → Prop) → Hp → VK → Prop := fun tl H Q =>
  tl (fun cls d H' => cls = .ref CN ∧ ∃ dd v, d = some dd ∧ H' dd = some (xdv v) ∧ ∀ p, H' p = none → Q (.ref p) (upd H' p (.lst [v])))
    H (fun _ H' => Q .non H')
section
variable {X : Cx}
theorem takes_len {X : Cx} {W : WX} {n : Nat} (tk : Takes X W) (hn : X.N.length = n) : Takes X (fun cls d σ H => σ.length = n → W cls d σ H) := by
  intro u s' x
  obtain ⟨a, B, sI, pins, σ, H, cls, d, e, I, nb, up, sky, na, os, ag, wish⟩ := x
  exact tk u s' ⟨a, B, sI, pins, σ, H, cls, d, e, I, nb, up, sky, na, os, ag, wish (I.len.trans hn)⟩
theorem ref_gives {g CN fE : Addr} {cdg : Value} {q : Str} {k : Nat} (hr : Room (k + 1) X.A)
    (T : XN X.K X.mg CN fE) :
    GivesTo X ["call", "e"] "_law_refused" (defScope sRef) g cdg (defBody sRef) "call" q (TTref X.K CN) := by
  intro f c' s H Q tl act hc h
  let Y : Cx := (cxOf C8.CX0 X.prog X.w X.K X.mg X.base ["call", "e"] "_law_refused" (defScope sRef) g cdg X.A X.stack s H C8.E0).nox
  refine ⟨_, pss_cons (ps_tryC (X := Y)
      (tb := fun W D σ H => ∃ Ech : XK, (∀ cls d σ' H', Ech cls d H' → σ'.length = 2 → W cls d σ' H') ∧ σ[0]? = some (some (.ref f)) ∧ H c' = some (CodeO c' q) ∧ tl Ech H (fun _ H1 => D.nx σ H1))
      rfl rfl L2.takes0 (fun W pn xe tk _ => ?_)
      (.named (x := "InvalidNumber") (i := 1) (c := .ref CN) scRef.nd rfl rfl ⟨rfl, by decide, .inl T.gC⟩ (fun a oe cls d pn hz hf => pss_one (ps_ret (pe_lst (pa_cons (pe_byX T hz hf (pv 1)) pa_nil)))) .nil))
    (pss_one (ps_ret pe_non)), ?_⟩
  · constructor
    intro pins s' σ H' D I h'
    obtain ⟨Ech, hW, h1, h2, h3⟩ := h'
    refine (pss_one (ps_expr (act (fun cls d σ H => σ.length = 2 → W cls d σ H) pn xe Ech _ _ (takes_len tk rfl) hW))).run pins s' σ H' D I ⟨h1, h2, h3⟩
  · refine ⟨_, ?_, rfl, hc, h⟩
    rintro cls d σ' H' ⟨rfl, dd, v, ed, ea, q⟩ len
    refine ⟨true, T.te, fun _ a _ => ?_, fun z => by cases z⟩
    obtain ⟨x, y, rfl⟩ : ∃ x y, σ' = [x, y] := by
      match σ', len with
      | [x, y], _ => exact ⟨x, y, rfl⟩
    exact ⟨_, rfl, rfl, rfl, dd, v, ed, ea, (by show 1 ≤ sizeLine; decide), fun p np => q p np⟩
/-- _law_refused(lambda: ..) -/
theorem pe_ref {g CN fE c P : Addr} {fd : FuncData} {k : Nat} {params : Arguments} {body : Expr} {scope : Scope} {t : XK → TE} {p lpos pos : Pos}
    (F : Fun X.K "_law_refused" "_law_refused" sRef g fd) (bM : L2.Binds X.K fd ["call"] []) (hr : Room (k + 2) X.A)
    (N : XN X.K X.mg CN fE) (hg : Gl X "_law_refused") (hm : X.mg "_law_refused" = some (.ref g))
    (TB : TabB X.base X.mg c P) (hcode : X.env.code = .ref c) (L : LamS X.env.scope scope) (hdef : defaultsOf params X.env = ([], []))
    (hbind : ∀ (q : Str) (cl : List (Str × Addr)) (pm cv ctv : Value), bindArgs (PySem.W.kla_fn "<lambda>" q params body scope cl pm cv ctv) ⟨[], []⟩ = pure [])
    (hbody : ∀ (A : Around) (outer : List Env) (s : Shared) (H : Hp) (E : XK) (f c' : Addr), Room k (A.deeper (lamEnv X scope s.heap.objs.size f c')) → PE (lamCx X A outer s H E scope f c') body (t E)) :
    PE X (.Call (.Name "_law_refused" p) [.Lambda params body scope lpos] [] pos) (tLam [(P, X.env.qual ++ "<lambda>")] (TTref X.K CN) t) := by
  obtain ⟨oc, od, kV, doc, pm, an, cdv, ct, osl, rfl, lk, hcd⟩ := F.ex
  exact pe_lamcall hg hm F.kp lk hcd bM scRef rfl (.inl rfl) (ref_gives (k := k + 1) hr N) TB hcode List.mem_cons_self
    (fun q hq _ => by cases List.mem_singleton.mp hq; rfl) hr L hdef hbind hbody
end
end K03

set_option maxHeartbeats 4000000
namespace GG
open PySem PySem.Spec PyProof.Rows L2
/-- a comprehension over enumerate of a tuple -/
theorem lc_enumT {K : PySem.W.Frag} {a : Addr} {xs : List V} {g : TG} {tt : TT} {te : TE} {vs : List Nat} {σ : L2.St} {H1 : Hp} {D : Addr} {Qd : Hp → Prop} (Pv : Nat → Hp → Prop) (h0 : Pv 0 (upd H1 D (.lst [])))
    (hl : ∀ i H, i ≤ xs.length → Pv i H → SqT K H a xs)
    (hs : ∀ i x H T, xs[i]? = some x → H T = none → Pv i H → g (.ref T) (wipe σ vs) (upd H T (.tup [.int (i : Nat), x])) fun σ2 H2 => wipe σ2 vs = wipe σ vs ∧ tt σ2 H2 fun b H3 =>
      if b = true then te σ2 H3 fun y H4 => ∃ acc, H4 D = some (.lst acc) ∧ acc.length < sizeLine ∧ Pv (i + 1) (upd H4 D (.lst (acc ++ [y]))) else Pv (i + 1) H3) (hd : ∀ H, Pv xs.length H → Qd H) :
    ∃ W : Nat → Nat → Hp → Prop, (∃ m, W 0 m (upd H1 D (.lst []))) ∧ ∀ i m H, W i m H →
      ((Itet K a).stop i H ∧ Qd H) ∨ ((Itet K a).go i H ∧ ∃ Nx : Hp → Prop, (∀ H', Nx H' → ∃ m', m' < m ∧ W (i + 1) m' H') ∧ ∀ x H', (Itet K a).yld i H x H' → g x (wipe σ vs) H' fun σ2 H2 => wipe σ2 vs = wipe σ vs ∧ tt σ2 H2 fun b H3 =>
        if b = true then te σ2 H3 fun y H4 => ∃ acc, H4 D = some (.lst acc) ∧ acc.length < sizeLine ∧ Nx (upd H4 D (.lst (acc ++ [y]))) else Nx H3) := by
  refine ⟨fun i m H => m + i = xs.length ∧ Pv i H, ⟨xs.length, rfl, h0⟩, fun i m H w => ?_⟩
  obtain ⟨e, pv⟩ := w
  have sq := hl i H (by omega) pv
  cases m with
  | zero =>
    have z : i = xs.length := by omega
    subst z
    exact .inl ⟨⟨xs, sq, Nat.le_refl _⟩, hd H pv⟩
  | succ m =>
    have lt : i < xs.length := by omega
    refine .inr ⟨⟨xs, xs[i], sq, List.getElem?_eq_getElem lt⟩, Pv (i + 1), fun H' p => ⟨m, Nat.lt_succ_self m, by omega, p⟩, fun x H' y => ?_⟩
    obtain ⟨T, v, rfl, nT, rfl, hv⟩ := y
    exact hs i v H T (hv xs sq) nT pv
/-- a dict comprehension over enumerate of a tuple -/
theorem dc_enumT {K : PySem.W.Frag} {a : Addr} {xs : List V} {g : TG} {tt : TT} {tk tv : TE} {vs : List Nat} {σ : L2.St} {H1 : Hp} {D : Addr} {Qd : Hp → Prop} (Pv : Nat → Hp → Prop) (h0 : Pv 0 (upd H1 D (.dK [])))
    (hl : ∀ i H, i ≤ xs.length → Pv i H → SqT K H a xs)
    (hs : ∀ i x H T, xs[i]? = some x → H T = none → Pv i H → g (.ref T) (wipe σ vs) (upd H T (.tup [.int (i : Nat), x])) fun σ2 H2 => wipe σ2 vs = wipe σ vs ∧ tt σ2 H2 fun b H3 =>
      if b = true then tk σ2 H3 fun y H4 => tv σ2 H4 fun z H5 => ∃ kvs k, y = kV k ∧ H5 D = some (.dK kvs) ∧ kvs.length < sizeLine ∧ Pv (i + 1) (upd H5 D (.dK (putK kvs k z))) else Pv (i + 1) H3) (hd : ∀ H, Pv xs.length H → Qd H) :
    ∃ W : Nat → Nat → Hp → Prop, (∃ m, W 0 m (upd H1 D (.dK []))) ∧ ∀ i m H, W i m H →
      ((Itet K a).stop i H ∧ Qd H) ∨ ((Itet K a).go i H ∧ ∃ Nx : Hp → Prop, (∀ H', Nx H' → ∃ m', m' < m ∧ W (i + 1) m' H') ∧ ∀ x H', (Itet K a).yld i H x H' → g x (wipe σ vs) H' fun σ2 H2 => wipe σ2 vs = wipe σ vs ∧ tt σ2 H2 fun b H3 =>
        if b = true then tk σ2 H3 fun y H4 => tv σ2 H4 fun z H5 => ∃ kvs k, y = kV k ∧ H5 D = some (.dK kvs) ∧ kvs.length < sizeLine ∧ Nx (upd H5 D (.dK (putK kvs k z))) else Nx H3) := by
  refine ⟨fun i m H => m + i = xs.length ∧ Pv i H, ⟨xs.length, rfl, h0⟩, fun i m H w => ?_⟩
  obtain ⟨e, pv⟩ := w
  have sq := hl i H (by omega) pv
  cases m with
  | zero =>
    have z : i = xs.length := by omega
    subst z
    exact .inl ⟨⟨xs, sq, Nat.le_refl _⟩, hd H pv⟩
  | succ m =>
    have lt : i < xs.length := by omega
    refine .inr ⟨⟨xs, xs[i], sq, List.getElem?_eq_getElem lt⟩, Pv (i + 1), fun H' p => ⟨m, Nat.lt_succ_self m, by omega, p⟩, fun x H' y => ?_⟩
    obtain ⟨T, v, rfl, nT, rfl, hv⟩ := y
    exact hs i v H T (hv xs sq) nT pv
/-! ### how long a shown int is -/
theorem int_rp {K : PySem.W.Frag} {H : Hp} {i : Int} (h : i.natAbs < 10 ^ 300) : Rp K H (.int i) (.int i) := by
  have l1 : (PyData.shown (.int i)).length ≤ 301 := by
    show (Str.ofString (toString i)).length ≤ 301
    rw [PySem.ofString_length]
    exact int_text_length_le10 (k := 300) (by decide) h
  refine .inl ⟨.int i, ?_, rfl, Nat.zero_le _, ?_⟩
  · exact decide_eq_true (PySem.Flt.log2_lt_of (by decide) (Nat.lt_trans h (by decide +kernel)))
  · exact Nat.le_trans l1 (by rw [sizeLine_eq]; decide)
theorem ints_dp {K : PySem.W.Frag} {H : Hp} : ∀ fs : List Int, DpAll K H (fs.map V.int) (fs.map PyData.int)
  | [] => .nil
  | _ :: r => .cons (.int _) (ints_dp r)
theorem ints_shown : ∀ fs : List Int, (∀ f ∈ fs, f.natAbs < 10 ^ 12) → ((PyData.shownAll (fs.map PyData.int)).map (·.length)).sum ≤ 13 * fs.length
  | [], _ => Nat.zero_le _
  | f :: r, h => by
    have a := PyData.shown_int_le (h f List.mem_cons_self)
    have b := ints_shown r fun g hg => h g (List.mem_cons_of_mem _ hg)
    simp only [List.map_cons, PyData.shownAll, List.sum_cons, List.length_cons]
    omega
theorem ints_showable : ∀ fs : List Int, (∀ f ∈ fs, f.natAbs < 10 ^ 12) → PyData.showableAll (fs.map PyData.int) = true ∧ PyData.hasDictAll (fs.map PyData.int) = false ∧ PyData.depthAll (fs.map PyData.int) = 0 ∧ PyData.canLayAll0 (fs.map PyData.int) = true
  | [], _ => ⟨rfl, rfl, rfl, rfl⟩
  | f :: r, h => by
    obtain ⟨a, b, c, d⟩ := ints_showable r fun g hg => h g (List.mem_cons_of_mem _ hg)
    have e : (PyData.int f).showable = true := decide_eq_true (PySem.Flt.log2_lt_of (by decide) (Nat.lt_trans (h f List.mem_cons_self) (by decide +kernel)))
    refine ⟨?_, ?_, ?_, ?_⟩
    · rw [List.map_cons, PyData.showableAll, e, a]
      rfl
    · rw [List.map_cons, PyData.hasDictAll, b]
      rfl
    · rw [List.map_cons, PyData.depthAll, c]
      rfl
    · rw [List.map_cons, PyData.canLayAll0, d]
      rfl
theorem tup_rp {K : PySem.W.Frag} {H : Hp} {a : Addr} {fs : List Int} (ha : H a = some (.tup (fs.map V.int))) (hl : fs.length ≤ 1000) (h : ∀ f ∈ fs, f.natAbs < 10 ^ 12) :
    Rp K H (.ref a) (.tuple (fs.map PyData.int)) := by
  obtain ⟨s1, s2, s3, _⟩ := ints_showable fs h
  refine .inl ⟨.tup (.of ha) (ints_dp fs), ?_, ?_, ?_, ?_⟩
  · rw [PyData.showable]
    exact s1
  · rw [PyData.hasDict]
    exact s2
  · rw [PyData.depth, s3]
    decide
  · have e := tupleText_len_le (PyData.shownAll (fs.map PyData.int))
    have e2 := ints_shown fs h
    rw [PyData.shownAll_length, List.length_map] at e
    rw [PyData.shown, sizeLine_eq]
    omega
theorem tup_eqv {fs : List Int} (h : ∀ f ∈ fs, f.natAbs < 10 ^ 12) : SeqAt.shaped (.tuple (fs.map PyData.int)) = true ∧ PyData.eqv (.tuple (fs.map PyData.int)) (.tuple (fs.map PyData.int)) = true := by
  obtain ⟨_, _, s3, s4⟩ := ints_showable fs h
  have c : (PyData.tuple (fs.map PyData.int)).canLay0 = true := by
    rw [PyData.canLay0]
    exact s4
  refine ⟨?_, SeqAt.eqv_refl _ c⟩
  unfold SeqAt.shaped
  rw [c, PyData.depth, s3]
  rfl
theorem passN {X : Cx} : Passes (L2.CX X.prog X.w) X C8.E0 := passes_call L2.takes0 fun _ _ _ _ h => h
theorem call_lenK {X : Cx} {K : PySem.W.Frag} (h : X.K = K) : CallR X (.builtin "len") (fun xs H Q => ∃ p ys, xs = [V.ref p] ∧ (SqL K H p ys ∨ SqT K H p ys) ∧ Q (V.int ↑ys.length) H) := by
  subst h
  exact call_len_seq
theorem iteV {c : Bool} {x y z : V} {σ : L2.St} {H : Hp} {Q : VK} (e : (if c = true then x else y) = z) (h : Q z H) : if c = true then tC x σ H Q else tC y σ H Q := by
  subst e
  cases c
  · exact h
  · exact h
theorem iteVar {c : Bool} {n : Nat} {x y z : V} {σ : L2.St} {H : Hp} {Q : VK} (hs : σ[n]? = some (some x)) (e : (if c = true then x else y) = z) (h : Q z H) : if c = true then tVar n σ H Q else tC y σ H Q := by
  subst e
  cases c
  · exact h
  · exact ⟨_, hs, h⟩
theorem neI {a b : Int} (h : a = b) : (!decide (V.int a = V.int b)) = false := by
  subst h
  rw [decide_eq_true rfl]
  rfl
theorem neS {a b : Str} (h : a = b) : (!decide (V.str a = V.str b)) = false := by
  subst h
  rw [decide_eq_true rfl]
  rfl
end GG

set_option maxHeartbeats 16000000
namespace K03
open PySem PySem.Spec PyProof.Rows L2 GG
abbrev sRight : Stmt := topS 18
theorem scRight : FnScope ["number", "due", "one"] ["number"] (defScope sRight) := ⟨rfl, rfl, rfl, by decide +kernel, rfl, by decide +kernel, by decide +kernel⟩
def spRight : Sp := fun vs H Q _ => ∃ n : Nat, vs = [.int n] ∧ 1 ≤ n ∧ n ≤ 1000 ∧ ∀ H', Same H H' → Q (.bl true) H'
theorem facts {n : Nat} (h1 : 1 ≤ n) (h2 : n ≤ 1000) : dv n = low n n ∧ muSum n = (if n = 1 then 1 else 0) ∧ (mu n = -1 ∨ mu n = 0 ∨ mu n = 1) := by
  have h := chk_all h1 h2
  unfold chk at h
  simp only [Bool.and_eq_true, Bool.or_eq_true, decide_eq_true_eq, beq_iff_eq] at h
  obtain ⟨⟨a, b⟩, c⟩ := h
  refine ⟨a, b, ?_⟩
  rcases c with (c | c) | c
  · exact .inl c
  · exact .inr (.inl c)
  · exact .inr (.inr c)
theorem mapN (xs : List Nat) : xs.map vN = (xs.map fun k : Nat => (k : Int)).map V.int := by
  rw [List.map_map]
  rfl
section
variable {P : Program} {w : World} {K : PySem.W.Frag} {mg : Str → Option Value} {base : Heap}
theorem ok_right {f fD fM CN : Addr} {fd fdD fdM : FuncData} (F : Fun K "_law_right" "_law_right" sRight f fd)
    (bD : Binds K fdD ["number"] []) (bM : Binds K fdM ["number"] [])
    (GD : FnOk P w K mg base (L2.CX P w) 3 fD fdD ["number"] (spDiv K CN)) (GM : FnOk P w K mg base (L2.CX P w) 3 fM fdM ["number"] (spMu K CN))
    (gD : mg "divisors" = some (.ref fD)) (gM : mg "moebius" = some (.ref fM))
    (kD : PySem.W.keepIn K (.ref fD) = true) (kM : PySem.W.keepIn K (.ref fM) = true)
    (mp : mg "repr" = none) (mr : mg "range" = none) (mt : mg "tuple" = none) (ms : mg "sum" = none) (mi : mg "int" = none) :
    FnG P w K mg base CX0 4 f fd ["number"] spRight := by
  refine fnG0 (k := 3) F scRight (fun vs H Q E h => ?_) (fun cdv A outer s H vs Q E gd hr h => ?_)
  · obtain ⟨n, rfl, _⟩ := h
    rfl
  · obtain ⟨n, rfl, n1, n2, q⟩ := h
    have un := hr.units
    have N := scRight.nd
    refine ⟨_, pss_cons (ps_setLc (i := 1) (own := [("one", 2)]) (g := gName 2) rfl N rfl rfl (sw_true rfl rfl rfl (by decide +kernel))
          (pi_range2 (by rfl) mr (pa_cons pe_int (pa_cons (pe_op op_add (pv 0) pe_int) pa_nil)))
          (blkOk_by (own := [("one", 2)]) (N := ["number", "due", "one"]) (sc := defScope sRight) (by decide +kernel))
          (fun _ _ _ _ _ => pg_name (i := 2) N rfl (Or.inl rfl)) (fun _ _ _ _ _ => pts_one (pt_cmpR op_eq (pe_op op_mod (pv 0) (pv 2)) pe_int (nomark _))) (fun _ _ _ _ _ => pv 2))
      (pss_cons (ps_if (pt_cmpR op_ne (pe_callB (call_reprR gd un) (by rfl) mp (by decide +kernel) (pa_cons (pe_call GD hr (by rfl) gD kD bD .nil passN (pa_cons (pv 0) pa_nil)) pa_nil))
            (pe_callB (call_reprR gd un) (by rfl) mp (by decide +kernel) (pa_cons (pe_callTy call_tuple_of (by rfl) mt (by decide +kernel) (pa_cons (pv 1) pa_nil)) pa_nil)) (nomark _))
          (pss_one (ps_ret pe_bl)) pss_nil)
      (pss_one (ps_ret (pe_and (pe_cmpR op_in_seq (pe_call GM hr (by rfl) gM kM bM .nil passN (pa_cons (pv 0) pa_nil)) (pe_tup (pa_cons (pe_op op_sub pe_int pe_int) (pa_cons pe_int (pa_cons pe_int pa_nil)))) (by rfl))
        (pe_one (pe_cmpR op_eq (pe_callB (cr_sum rfl) (by rfl) ms (by decide +kernel) (pa_cons
            (pe_lc (own := [("one", 2)]) (g := gName 2) (tt := tYes) rfl N (pi_list (pv 1))
              (blkOk_by (own := [("one", 2)]) (N := ["number", "due", "one"]) (sc := defScope sRight) (by decide +kernel))
              (fun _ _ _ _ _ => pg_name (i := 2) N rfl (Or.inl rfl)) (fun _ _ _ _ _ => pts_nil)
              (fun _ _ _ _ _ => pe_call GM hr (by rfl) gM kM bM .nil passN (pa_cons (pv 2) pa_nil))) pa_nil))
          (pe_callTy call_int1 (by rfl) mi (by decide +kernel) (pa_cons (pe_cmpR op_eq (pv 0) pe_int (nomark _)) pa_nil)) (nomark _))))))), ?_⟩
    obtain ⟨f1, f2, f3⟩ := facts n1 n2
    have small : ∀ k ∈ low n n, 1 ≤ k ∧ k ≤ 1000 := fun k hk => by
      obtain ⟨a, b, _⟩ := low_mem hk
      omega
    have hll := low_len n n
    have hb : -(2 ^ 62) ≤ ((n : Nat) : Int) + 1 ∧ ((n : Nat) : Int) + 1 < 2 ^ 62 := by omega
    refine ⟨_, rfl, _, _, rfl, rfl, _, _, rfl, ⟨by decide, by decide, hb.1, hb.2⟩, fun D nD => ?_⟩
    refine lc_range (lo := 1) (n := ((n : Int) + 1 - 1).toNat) (fun k H2 => Same H H2 ∧ H2 D = some (.lst ((low n k).map vN))) ⟨sameUpd nD, upd_same⟩ (fun k H2 hk hP => ?_) (fun H2 hP => ?_)
    · obtain ⟨sm, hD⟩ := hP
      have kk : (1 : Int) + (k : Int) = ((k + 1 : Nat) : Int) := by omega
      refine ⟨rfl, _, rfl, _, rfl, _, _, rfl, rfl, (by omega), rfl, _, rfl, ?_⟩
      have md : ((n : Int) % (1 + (k : Int))) = ((n % (k + 1) : Nat) : Int) := by
        rw [kk]
        rfl
      have sc := low_succ n k
      refine ite2 (fun e => ?_) (fun e => ?_)
      · have e0 : n % (k + 1) = 0 := by
          have := vint_inj (show V.int ((n : Int) % (1 + (k : Int))) = V.int 0 from of_decide_eq_true e)
          rw [md] at this
          omega
        refine ⟨_, rfl, _, hD, ?_, fun b o eb => ?_, ?_⟩
        · have := low_len n k
          rw [List.length_map]
          exact small1000 (by omega)
        · rw [upd_ne (ne_of_none eb nD)]
          exact sm b o eb
        · rw [upd_same, sc, if_pos (by rw [e0]; rfl), List.map_append, kk]
          rfl
      · have e0 : n % (k + 1) ≠ 0 := by
          intro z
          refine e (decide_eq_true ?_)
          show V.int ((n : Int) % (1 + (k : Int))) = V.int 0
          rw [md, z]
          rfl
        refine ⟨sm, ?_⟩
        rw [hD, sc, if_neg (by simpa using e0), List.append_nil]
    · obtain ⟨sm, hD⟩ := hP
      rw [show ((n : Int) + 1 - 1).toNat = n by omega] at hD
      refine ⟨_, rfl, _, rfl, .inl ⟨n, rfl, n1, n2, fun H3 p sm3 np hp => ?_⟩⟩
      have hD3 := sm3 _ _ hD
      rw [f1, mapN] at hp
      have sz : ∀ f ∈ (low n n).map (fun k : Nat => (k : Int)), f.natAbs < 10 ^ 12 := fun f hf => by
        obtain ⟨k, hk, rfl⟩ := List.mem_map.mp hf
        have := small k hk
        omega
      have ln : ((low n n).map (fun k : Nat => (k : Int))).length ≤ 1000 := by
        rw [List.length_map]
        omega
      refine ⟨_, _, rfl, tup_rp hp ln sz, _, rfl, D, _, rfl, .inl ⟨.of hD3, fun t nt => ?_⟩⟩
      have ht : (upd H3 t (.tup ((low n n).map vN))) t = some (.tup (((low n n).map (fun k : Nat => (k : Int))).map V.int)) := by
        rw [upd_same, mapN]
      refine ⟨_, _, rfl, tup_rp ht ln sz, rfl, _, rfl, iteFo (neS rfl) ?_⟩
      have s4 : Same H (upd H3 t (.tup ((low n n).map vN))) := fun b o eb => sameUpd nt _ _ (sm3 _ _ (sm b o eb))
      have hD4 := sameUpd (o := .tup ((low n n).map vN)) nt _ _ hD3
      refine ⟨_, rfl, _, rfl, .inl ⟨n, rfl, n1, n2, ?_⟩⟩
      refine ⟨_, _, rfl, rfl, (by show 3 ≤ sizeLine; decide), fun u nu => ⟨u, _, rfl, .inr (.of upd_same), rfl, rfl, ?_⟩⟩
      have hin : inV (.int (mu n)) [V.int (0 - 1), .int 0, .int 1] = true := by
        rcases f3 with e | e | e <;> rw [e] <;> decide
      refine ⟨true, congrArg V.bl hin, iteT ?_⟩
      have hD5 := sameUpd (o := .tup [V.int (0 - 1), .int 0, .int 1]) nu _ _ hD4
      refine ⟨_, rfl, D, rfl, ⟨_, .of hD5⟩, fun D2 nD2 => ?_⟩
      refine lc_list (a := D) (xs := (low n n).map vN) (fun k H6 => Same (upd (upd H3 t (.tup ((low n n).map vN))) u (.tup [V.int (0 - 1), .int 0, .int 1])) H6 ∧ H6 D2 = some (.lst ((((low n n).take k).map mu).map V.int))) ⟨sameUpd nD2, upd_same⟩
        (fun k H6 hk hP => .of (hP.1 _ _ hD5)) (fun k v H6 hv hP => ?_) (fun H6 hP => ?_)
      · obtain ⟨sm6, hD2⟩ := hP
        rw [List.getElem?_map] at hv
        obtain ⟨m, hm, rfl⟩ := Option.map_eq_some_iff.mp hv
        obtain ⟨m1, m2⟩ := small m (List.mem_of_getElem? hm)
        have kl : k < (low n n).length := (List.getElem?_eq_some_iff.mp hm).1
        refine ⟨rfl, _, rfl, _, rfl, .inl ⟨m, rfl, m1, m2, ?_⟩⟩
        refine ⟨_, hD2, ?_, fun b o eb => ?_, ?_⟩
        · rw [List.length_map, List.length_map, List.length_take]
          exact small1000 (by omega)
        · rw [upd_ne (ne_of_none eb nD2)]
          exact sm6 b o eb
        · rw [upd_same, List.take_add_one, hm, List.map_append, List.map_append]
          rfl
      · obtain ⟨sm6, hD2⟩ := hP
        rw [List.length_map, List.take_length] at hD2
        refine ⟨D2, _, rfl, .of hD2, ?_⟩
        refine ⟨_, rfl, rfl, .inr ⟨_, rfl, rfl, ?_⟩⟩
        have sE : ((low n n).map mu).sum = if decide (V.int (n : Int) = V.int 1) = true then 1 else 0 := by
          rw [show ((low n n).map mu).sum = muSum n from rfl, f2]
          by_cases e : n = 1
          · rw [if_pos e, if_pos (decide_eq_true (by rw [e]; rfl))]
          · rw [if_neg e, if_neg (fun z => e (by have := vint_inj (of_decide_eq_true z); omega))]
        rw [← sE]
        rw [decide_eq_true rfl]
        exact q _ (fun b o eb => sm6 _ _ (sameUpd nu _ _ (s4 b o eb)))
end
end K03

set_option maxHeartbeats 16000000
namespace K03
open PySem PySem.Spec PyProof.Rows L2 GG LamX
abbrev sLaw : Stmt := topS 19
theorem scLaw : FnScope ["script", "spot", "dice", "begin", "drawn", "number", "told", "odd", "turn"] ["script"] (defScope sLaw) := ⟨rfl, rfl, rfl, by decide +kernel, rfl, by decide +kernel, by decide +kernel⟩
abbrev lamT (P : Addr) : List (Addr × Str) := [(P, (("law" : Str) ++ ".<locals>.") ++ "<lambda>")]
def spLaw (K : PySem.W.Frag) (HK : Addr) : Sp := fun vs H Q _ => ∃ (a : Addr) (ns : List Int), vs = [.ref a] ∧ SqL K H a (ns.map V.int) ∧ ns.length ≤ 63 ∧ H HK = some (.tbl #[]) ∧ ∀ H', Q (.bl true) H'
/-! ### the odd values -/
inductive OddB (H : Hp) : V → PyData → Prop
  | non : OddB H .non .none
  | bl : OddB H (.bl true) (.bool true)
  | str : OddB H (.str "1") (.str "1")
  | tup {a : Addr} : H a = some (.tup [.int 1]) → OddB H (.ref a) (.tuple [.int 1])
  | lst {a : Addr} : H a = some (.lst []) → OddB H (.ref a) (.list [])
  | zero : OddB H (.int 0) (.int 0)
  | neg : OddB H (.int (-1)) (.int (-1))
  | more : OddB H (.int 1001) (.int 1001)
  | lim : OddB H (.int BND) (.int BND)
  | dct {a : Addr} : H a = some (.dK []) → OddB H (.ref a) (.dict [])
theorem OddB.extN {H H' : Hp} {v : V} {d : PyData} (h : OddB H v d) (e : ExtN H H') : OddB H' v d := by
  cases h with
  | non => exact .non
  | bl => exact .bl
  | str => exact .str
  | tup h => exact .tup (e _ _ h (fun ps z => by cases z))
  | lst h => exact .lst (e _ _ h (fun ps z => by cases z))
  | zero => exact .zero
  | neg => exact .neg
  | more => exact .more
  | lim => exact .lim
  | dct h => exact .dct (e _ _ h (fun ps z => by cases z))
theorem OddB.ne {p : Addr} {H : Hp} {v : V} {d : PyData} (h : OddB H v d) (n : H p = none) : v ≠ .ref p := by
  cases h with
  | tup h => exact fun z => by cases z; rw [n] at h; cases h
  | lst h => exact fun z => by cases z; rw [n] at h; cases h
  | dct h => exact fun z => by cases z; rw [n] at h; cases h
  | _ => exact fun z => by cases z
theorem OddB.up {p : Addr} {H : Hp} {o : HO} {v : V} {d : PyData} (h : OddB H v d) (n : v ≠ .ref p) : OddB (upd H p o) v d := by
  cases h with
  | non => exact .non
  | bl => exact .bl
  | str => exact .str
  | tup h => exact .tup (by rw [upd_ne (fun z => n (by rw [z]))]; exact h)
  | lst h => exact .lst (by rw [upd_ne (fun z => n (by rw [z]))]; exact h)
  | zero => exact .zero
  | neg => exact .neg
  | more => exact .more
  | lim => exact .lim
  | dct h => exact .dct (by rw [upd_ne (fun z => n (by rw [z]))]; exact h)
theorem OddB.out {K : PySem.W.Frag} {H : Hp} {v : V} {d : PyData} (h : OddB H v d) : Out K H v 1 1000 := by
  cases h with
  | non => exact .inr (.inr ⟨_, .base .non, by decide +kernel⟩)
  | bl => exact .inr (.inl ⟨true, rfl⟩)
  | str => exact .inr (.inr ⟨_, .base (.str _), by decide +kernel⟩)
  | tup h => exact .inr (.inr ⟨_, .base (.tup h), by decide +kernel⟩)
  | lst h => exact .inr (.inr ⟨_, .base (.lst h), by decide +kernel⟩)
  | zero => exact .inl ⟨_, rfl, by decide +kernel⟩
  | neg => exact .inl ⟨_, rfl, by decide +kernel⟩
  | more => exact .inl ⟨_, rfl, by decide +kernel⟩
  | lim => exact .inl ⟨_, rfl, by decide +kernel⟩
  | dct h => exact .inr (.inr ⟨_, .base (.dK h), by decide +kernel⟩)
theorem OddB.rn {H : Hp} {v : V} {d : PyData} (h : OddB H v d) : Rn H v d := by
  cases h with
  | non => exact .non
  | bl => exact .bl _
  | str => exact .str _
  | tup h => exact .tup h (.cons (.int _) .nil)
  | lst h => exact .lst h .nil
  | zero => exact .int _
  | neg => exact .int _
  | more => exact .int _
  | lim => exact .int _
  | dct h => exact .dct0 h
abbrev toldD (d : PyData) : PyData := .list [.list [d], .list [d]]
theorem OddB.ok {H : Hp} {v : V} {d : PyData} (h : OddB H v d) : (toldD d).showable = true ∧ (toldD d).depth ≤ 40 ∧ (toldD d).shown.length ≤ sizeLine := by
  cases h <;> decide +kernel
/-- a raise of InvalidNumber, refused -/
theorem ref_num {K : PySem.W.Frag} {CN P : Addr} {q : Str} {t : XK → TE} {σ : L2.St} {H : Hp} {Q : VK} {v : V} (tb : Tabs [(P, q)] H)
    (thr : ∀ H1, ExtN H H1 → ∀ E Q', Raised E CN v H1 → t E σ H1 Q')
    (k : ∀ H2 p, ExtN H H2 → Tabs [(P, q)] H2 → H2 p = none → Q (.ref p) (upd H2 p (.lst [v]))) : tLam [(P, q)] (TTref K CN) t σ H Q := by
  refine ⟨tb, fun H1 e1 t1 => thr H1 e1 _ _ fun H2 x sm nx => ?_⟩
  have e2 : ExtN H (upd H2 x (xdv v)) := e1.trans (ExtN.of fun b o h => by rw [upd_ne (ne_of_none (sm b o h) nx)]; exact sm b o h)
  exact ⟨rfl, x, v, rfl, upd_same, fun p np => k _ p e2 (t1.ext fun b o h => by rw [upd_ne (ne_of_none (sm b o h) nx)]; exact sm b o h) np⟩
theorem Tabs.put {P p : Addr} {q : Str} {H : Hp} {xs : List V} (t : Tabs [(P, q)] H) (h : H p = some (.lst xs)) (ys : List V) : Tabs [(P, q)] (upd H p (.lst ys)) := by
  intro z hz
  cases List.mem_singleton.mp hz
  obtain ⟨ps, h1, h2, h3⟩ := t _ List.mem_cons_self
  have n1 : P ≠ p := fun e => by
    rw [e] at h1
    rw [h] at h1
    cases h1
  refine ⟨ps, by rw [upd_ne n1]; exact h1, h2, fun pos cv hc => ?_⟩
  obtain ⟨c, e1, e2⟩ := h3 pos cv hc
  have n2 : c ≠ p := fun e => by
    rw [e] at e2
    rw [h] at e2
    cases e2
  exact ⟨c, e1, by rw [upd_ne n2]; exact e2⟩
theorem Tabs.but {P l : Addr} {q : Str} {H H' : Hp} {xs : List V} (t : Tabs [(P, q)] H) (h : H l = some (.lst xs)) (b : But l H H') : Tabs [(P, q)] H' := by
  intro z hz
  cases List.mem_singleton.mp hz
  obtain ⟨ps, h1, h2, h3⟩ := t _ List.mem_cons_self
  have n1 : P ≠ l := fun e => by
    rw [e] at h1
    rw [h] at h1
    cases h1
  refine ⟨ps, b _ _ n1 h1, h2, fun pos cv hc => ?_⟩
  obtain ⟨c, e1, e2⟩ := h3 pos cv hc
  have n2 : c ≠ l := fun e => by
    rw [e] at e2
    rw [h] at e2
    cases e2
  exact ⟨c, e1, b _ _ n2 e2⟩
theorem Dice.lst {H : Hp} {l : Addr} (d : Dice H l) : ∃ xs, H l = some (.lst xs) := by
  obtain ⟨a, b, c, h, _⟩ := d
  exact ⟨_, h⟩
theorem Dice.ext {H H' : Hp} {l : Addr} (d : Dice H l) (e : ExtN H H') : Dice H' l := by
  obtain ⟨a, b, c, h, n⟩ := d
  exact ⟨a, b, c, e _ _ h (fun ps z => by cases z), n⟩
theorem seqL_ext {K : PySem.W.Frag} {H H' : Hp} {a : Addr} {xs : List V} (e : ExtN H H') (h : SqL K H a xs) : SqL K H' a xs := by
  rcases h with (h | ⟨o, h⟩) | h
  · exact .inl (.inl (e _ _ h (fun ps z => by cases z)))
  · exact .inl (.inr ⟨o, e _ _ h (fun ps z => by cases z)⟩)
  · exact .inr h
theorem seqL_but {K : PySem.W.Frag} {H0 H H' : Hp} {a p : Addr} {xs : List V} (e : But p H H') (n : H0 p = none) (s : Same H0 H) (h : SqL K H0 a xs) : SqL K H' a xs := by
  rcases h with (h | ⟨o, h⟩) | h
  · exact .inl (.inl (e _ _ (ne_of_none h n) (s _ _ h)))
  · exact .inl (.inr ⟨o, e _ _ (ne_of_none h n) (s _ _ h)⟩)
  · exact .inr h
theorem seqL_upd {K : PySem.W.Frag} {H0 H : Hp} {a p : Addr} {o : HO} {xs : List V} (n : H0 p = none) (h0 : SqL K H0 a xs) (h : SqL K H a xs) : SqL K (upd H p o) a xs := by
  have d : a ≠ p ∨ SqL K (upd H p o) a xs := by
    rcases h0 with (h0 | ⟨o, h0⟩) | h0
    · exact .inl (ne_of_none h0 n)
    · exact .inl (ne_of_none h0 n)
    · exact .inr (.inr h0)
  rcases d with d | d
  · rcases h with (h | ⟨o, h⟩) | h
    · exact .inl (.inl (by rw [upd_ne d]; exact h))
    · exact .inl (.inr ⟨o, by rw [upd_ne d]; exact h⟩)
    · exact .inr h
  · exact d
theorem seqL_same {K : PySem.W.Frag} {H H' : Hp} {a : Addr} {xs : List V} (s : Same H H') (h : SqL K H a xs) : SqL K H' a xs := seqL_ext (ExtN.of s) h
def lastN : List Nat := [1, 2, 4, 6, 12, 30, 961]
theorem last_small : ∀ m ∈ lastN, 1 ≤ m ∧ m ≤ 1000 := by decide
abbrev lastD : PyData := .list [.int 1, .int (-1), .int 0, .int 1, .int 0, .int (-1), .int 0]
theorem lastE : SeqAt.shaped lastD = true ∧ PyData.eqv lastD lastD = true := by decide +kernel
theorem rng_b (L : Int) : -(2 ^ 62) ≤ (if (if L < 4 then L else 4) > 1 then (if L < 4 then L else 4) else 1) ∧ (if (if L < 4 then L else 4) > 1 then (if L < 4 then L else 4) else 1) < 2 ^ 62 ∧
    (if (if L < 4 then L else 4) > 1 then (if L < 4 then L else 4) else 1).toNat ≤ 4 := by
  refine ⟨?_, ?_, ?_⟩ <;> (repeat' split) <;> omega
section
variable {P : Program} {w : World} {K : PySem.W.Frag} {mg : Str → Option Value} {base : Heap}
theorem ok_law {f fD fR fK fL fG fV fM fX CN CI c HK : Addr} {fdD fdR fdK fdL fdG fdV fdM fdX : FuncData} {oc : Value} {od an : Option Addr} {osl : Array (Option Value)} {kV doc pm ct : Value}
    (lk : K.lookup f = some ⟨oc, od, .func (PySem.W.fnOf "law" "law" (defArgs sLaw) (defBody sLaw) (defScope sLaw) .none kV doc pm an (.ref c) ct), osl⟩)
    (hcd : PySem.W.codeIn K (.ref c) "law" = true) (TB : TabB base mg c HK) (sm : ∃ mm, base.Ns sysModules mm)
    (FX : Fun K "_law_refused" "_law_refused" sRef fX fdX) (bX : Binds K fdX ["call"] [])
    (bD : Binds K fdD ["script", "spot"] []) (bR : Binds K fdR ["dice", "total"] []) (bK : Binds K fdK ["dice", "items"] []) (bL : Binds K fdL [] []) (bG : Binds K fdG ["number"] [])
    (bV : Binds K fdV ["number"] []) (bM : Binds K fdM ["number"] [])
    (GD : FnOk P w K mg base CX0 1 fD fdD ["script", "spot"] (spDice K)) (GR : FnOk P w K mg base CX0 1 fR fdR ["dice", "total"] spRoll)
    (GK : FnOk P w K mg base CX0 2 fK fdK ["dice", "items"] (spPick K)) (GL : FnOk P w K mg base CX0 1 fL fdL [] spLimit) (GG' : FnG P w K mg base CX0 4 fG fdG ["number"] spRight)
    (GV : FnOk P w K mg base (L2.CX P w) 3 fV fdV ["number"] (spDiv K CN)) (GM : FnOk P w K mg base (L2.CX P w) 3 fM fdM ["number"] (spMu K CN))
    (gX : mg "_law_refused" = some (.ref fX)) (gD : mg "_law_dice" = some (.ref fD)) (gR : mg "_law_roll" = some (.ref fR)) (gK : mg "_law_pick" = some (.ref fK)) (gL : mg "_law_limit" = some (.ref fL)) (gG : mg "_law_right" = some (.ref fG))
    (gV : mg "divisors" = some (.ref fV)) (gM : mg "moebius" = some (.ref fM))
    (kD : PySem.W.keepIn K (.ref fD) = true) (kR : PySem.W.keepIn K (.ref fR) = true) (kK : PySem.W.keepIn K (.ref fK) = true) (kL : PySem.W.keepIn K (.ref fL) = true) (kG : PySem.W.keepIn K (.ref fG) = true)
    (kV' : PySem.W.keepIn K (.ref fV) = true) (kM : PySem.W.keepIn K (.ref fM) = true)
    (T : XN K mg CN CI)
    (mr : mg "range" = none) (mx : mg "max" = none) (mn : mg "min" = none) (ml : mg "len" = none) (mli : mg "list" = none) (mp : mg "repr" = none) :
    FnG P w K mg base CX0 6 f (PySem.W.fnOf "law" "law" (defArgs sLaw) (defBody sLaw) (defScope sLaw) .none kV doc pm an (.ref c) ct) ["script"] (spLaw K HK) := by
  refine fnG_lk (k := 5) lk hcd scLaw (fun vs H Q E h => ?_) (fun A outer s H vs Q E gd hr h => ?_)
  · obtain ⟨a, ns, rfl, _⟩ := h
    rfl
  · obtain ⟨a, ns, rfl, hS, hlen, hT, q⟩ := h
    have hr1 := hr.mono (show 1 ≤ 5 by decide)
    have hr2 := hr.mono (show 2 ≤ 5 by decide)
    have hr3 := hr.mono (show 3 ≤ 5 by decide)
    have un := hr.units
    have N := scLaw.nd
    refine ⟨_, PSs.nox (pss_cons (ps_for PassesOwn.never rfl (pi_range1 (by rfl) mr (pa_cons (pe_callB (call_max2 rfl) (by rfl) mx (by decide +kernel) (pa_cons pe_int (pa_cons
          (pe_callB (call_min2 rfl) (by rfl) mn (by decide +kernel) (pa_cons pe_int (pa_cons (pe_callB call_len_seq (by rfl) ml PySem.boot_len (pa_cons (pv 0) pa_nil)) pa_nil))) pa_nil))) pa_nil))
          (pg_name (i := 1) N rfl (.inl rfl))
        (pss_cons (ps_set (i := 2) N rfl (.inr rfl) (pe_call GD hr1 (by rfl) gD kD bD .nil pass0 (pa_cons (pv 0) (pa_cons (pv 1) pa_nil))))
        (pss_cons (ps_set (i := 3) N rfl (.inl rfl) (pe_call GR hr1 (by rfl) gR kR bR .nil pass0 (pa_cons (pv 2) (pa_cons pe_int pa_nil))))
        (pss_cons (ps_setLc (i := 4) (own := [("turn", 8)]) (g := gName 8) (tt := tYes) rfl N rfl rfl (sw_true rfl rfl rfl (by decide +kernel)) (pi_range1 (by rfl) mr (pa_cons pe_int pa_nil))
          (blkOk_by (own := [("turn", 8)]) (N := ["script", "spot", "dice", "begin", "drawn", "number", "told", "odd", "turn"]) (sc := defScope sLaw) (by decide +kernel))
          (fun _ _ _ _ _ => pg_name (i := 8) N rfl (Or.inl rfl)) (fun _ _ _ _ _ => pts_nil)
          (fun _ _ _ _ _ => pe_op op_add pe_int (pe_call GR hr1 (by rfl) gR kR bR .nil pass0 (pa_cons (pv 2) (pa_cons pe_int pa_nil)))))
        (pss_cons (ps_for PassesOwn.never rfl (pi_list (pe_op op_cat (pe_op op_cat (pe_listRg rfl (by rfl) mli (prg_2 (by rfl) mr (pe_op op_add (pv 3) pe_int) (pe_op op_add (pv 3) pe_int)))
              (pe_lst (pa_cons pe_int (pa_cons pe_int (pa_cons pe_int (pa_cons pe_int pa_nil)))))) (pv 4))) (pg_name (i := 5) N rfl (.inl rfl))
            (pss_one (ps_if (pt_not (pt_val (pe_callG GG' gd (hr.mono (by decide)) (by rfl) gG kG bG .nil pass0 (pa_cons (pv 5) pa_nil)))) (pss_one (ps_ret pe_bl)) pss_nil)))
        (pss_cons (ps_set (i := 7) N rfl (.inr rfl) (pe_call GK hr2 (by rfl) gK kK bK .nil pass0 (pa_cons (pv 2) (pa_cons (pe_lst (pa_cons pe_non (pa_cons pe_bl (pa_cons pe_str (pa_cons (pe_tup (pa_cons pe_int pa_nil)) (pa_cons (pe_lst pa_nil) (pa_cons pe_int (pa_cons (pe_op op_sub pe_int pe_int)
            (pa_cons pe_int (pa_cons (pe_call0 GL hr1 (by rfl) gL kL bL .nil pass0) (pa_cons pe_dnewK pa_nil))))))))))) pa_nil))))
        (pss_cons (ps_set (i := 6) N rfl (.inl rfl) (pe_lst (pa_cons (pe_ref FX bX (k := 3) hr T (by rfl) gX TB rfl (lamS_by (by kernel_rfl)) rfl (fun _ _ _ _ _ => rfl) (fun A outer s H E f c' hr' => pe_call GV (hr'.mono (by decide)) (by rfl) gV kV' bV .nil (passes_call (takes_of rfl rfl rfl rfl) fun _ _ _ _ h => h) (pa_cons (pv 7) pa_nil))) pa_nil)))
        (pss_cons (ps_expr (pe_bm PySem.F.plainAttrs_list PySem.F.slot_list_append PySem.F.type_list_append mt_append (pv 6) (pa_cons (pe_ref FX bX (k := 3) hr T (by rfl) gX TB rfl (lamS_by (by kernel_rfl)) rfl (fun _ _ _ _ _ => rfl) (fun A outer s H E f c' hr' => pe_call GM (hr'.mono (by decide)) (by rfl) gM kM bM .nil (passes_call (takes_of rfl rfl rfl rfl) fun _ _ _ _ h => h) (pa_cons (pv 7) pa_nil))) pa_nil)))
        (pss_one (ps_if (pt_cmpR op_ne (pe_callB (call_reprN gd un sm) (by rfl) mp (by decide +kernel) (pa_cons (pv 6) pa_nil)) (pe_callB (call_reprN gd un sm) (by rfl) mp (by decide +kernel) (pa_cons (pe_op op_rep (pe_lst (pa_cons (pe_lst (pa_cons (pv 7) pa_nil)) pa_nil)) pe_int) pa_nil)) (nomark _))
          (pss_one (ps_ret pe_bl)) pss_nil))))))))))
      (pss_one (ps_ret (pe_cmpR (op_eqD un) (pe_lc (own := [("number", 5)]) (g := gName 5) (tt := tYes) rfl N (pi_tup (pe_tup (pa_cons pe_int (pa_cons pe_int (pa_cons pe_int (pa_cons pe_int (pa_cons pe_int (pa_cons pe_int (pa_cons pe_int pa_nil)))))))))
          (blkOk_by (own := [("number", 5)]) (N := ["script", "spot", "dice", "begin", "drawn", "number", "told", "odd", "turn"]) (sc := defScope sLaw) (by decide +kernel))
          (fun _ _ _ _ _ => pg_name (i := 5) N rfl (Or.inl rfl)) (fun _ _ _ _ _ => pts_nil)
          (fun _ _ _ _ _ => pe_call GM hr3 (by rfl) gM kM bM .nil passN (pa_cons (pv 5) pa_nil)))
        (pe_lst (pa_cons pe_int (pa_cons (pe_op op_sub pe_int pe_int) (pa_cons pe_int (pa_cons pe_int (pa_cons pe_int (pa_cons (pe_op op_sub pe_int pe_int) (pa_cons pe_int pa_nil)))))))) (nomark _))))), ?_⟩
    have hM := rng_b (ns.map V.int).length
    refine ⟨.ref a, rfl, a, _, rfl, .inl hS, _, _, rfl, _, _, rfl, _, rfl, hM.1, hM.2.1, ?_⟩
    refine for_range (lo := 0) (fun i σ H1 => ∃ y1 y2 y3 y4 y5 y6 y7 y8, σ = [some (.ref a), y1, y2, y3, y4, y5, y6, y7, y8] ∧ SqL K H1 a (ns.map V.int) ∧ Tabs (lamT HK) H1)
      ⟨_, _, _, _, _, _, _, _, rfl, hS, fun z hz => by cases List.mem_singleton.mp hz; exact .nil hT⟩ (fun i σ H1 hi hP => ?_) (fun σ H1 hP => ?_)
    · obtain ⟨y1, y2, y3, y4, y5, y6, y7, y8, rfl, hS1, t1⟩ := hP
      refine ⟨.ref a, rfl, _, rfl, a, ns, i, by rw [Int.zero_add]; rfl, hS1, by omega, fun H2 p s2 np d2 => ?_⟩
      have t2 := t1.ext s2
      refine ⟨.ref p, rfl, p, 300, rfl, d2, by decide, by decide, fun H3 b b3 d3 b0 b1 => ?_⟩
      refine ⟨5, rfl, by decide, by decide, fun D nD => ?_⟩
      refine lc_range (lo := 0) (n := 5) (fun k H4 => ∃ fs : List Nat, fs.length = k ∧ (∀ f ∈ fs, 1 ≤ f ∧ f ≤ 1000) ∧ H4 D = some (.lst (fs.map vN)) ∧ But p H3 H4 ∧ Dice H4 p) ?_ (fun k H4 hk hP => ?_) (fun H4 hP => ?_)
      · exact ⟨[], rfl, fun f hf => absurd hf List.not_mem_nil, upd_same, But.refl.new nD, d3.new nD⟩
      · obtain ⟨fs, fl, ff, hD, b4, d4⟩ := hP
        have pD : p ≠ D := d3.ne nD
        refine ⟨rfl, .ref p, rfl, p, 1000, rfl, d4, by decide, by decide, fun H5 r b5 d5 r0 r1 => ?_⟩
        refine ⟨_, _, rfl, rfl, _, b5 _ _ pD.symm hD, ?_, fs ++ [1 + r.toNat], ?_, ?_, ?_, ?_, ?_⟩
        · rw [List.length_map]
          exact small1000 (by omega)
        · rw [List.length_append, fl]
          rfl
        · intro g hg
          rcases List.mem_append.mp hg with hg | hg
          · exact ff g hg
          · cases List.mem_singleton.mp hg
            omega
        · rw [upd_same, List.map_append]
          have e : V.int (1 + r) = vN (1 + r.toNat) := congrArg V.int (by omega)
          show some (HO.lst (fs.map vN ++ [V.int (1 + r)])) = _
          rw [e]
          rfl
        · intro b o nl e
          rw [upd_ne (ne_of_none e nD)]
          exact b5 b o nl (b4 b o nl e)
        · obtain ⟨x, y, z, h, n⟩ := d5
          exact ⟨x, y, z, by rw [upd_ne pD]; exact h, n⟩
      · obtain ⟨fs, fl, ff, hD, b4, d4⟩ := hP
        have t4 : Tabs (lamT HK) H4 := by
          obtain ⟨xs2, l2⟩ := K03.Dice.lst d2
          exact Tabs.but t2 l2 (b3.trans b4)
        have S4 : SqL K H4 a (ns.map V.int) := seqL_but (b3.trans b4) np s2 hS1
        refine ⟨_, rfl, _, _, rfl, rfl, _, rfl, _, _, rfl, rfl, _, _, rfl, rfl, RgOk.of_le (by omega) (by omega) (by omega) (by omega), fun L1 n1 => ?_⟩
        refine ⟨(by show 4 ≤ sizeLine; decide), fun L2 n2 => ?_⟩
        refine ⟨L1, L2, _, _, rfl, rfl, sameUpd n2 _ _ upd_same, upd_same, ?_, fun L3 n3 => ?_⟩
        · rw [rgV_length, sizeLine_eq]
          show (b + 101 - (b + 1)).toNat + 4 ≤ _
          omega
        refine ⟨_, rfl, L3, D, _, _, rfl, rfl, upd_same, sameUpd n3 _ _ (sameUpd n2 _ _ (sameUpd n1 _ _ hD)), ?_, fun L4 n4 => ?_⟩
        · rw [List.length_append, rgV_length, List.length_map, sizeLine_eq]
          show (b + 101 - (b + 1)).toNat + 4 + fs.length ≤ _
          omega
        refine ⟨L4, rfl, ⟨_, .of upd_same⟩, ?_⟩
        refine for_list (xs := rgV (b + 1) (b + 101) ++ [V.int 1, .int 1000, .int 840, .int 961] ++ fs.map vN)
          (fun k σ H5 => (∃ y5, σ = [some (.ref a), some (.int (0 + (i : Int))), some (.ref p), some (.int b), some (.ref D), y5, y6, y7, y8]) ∧ Same H4 H5 ∧ H5 L4 = some (.lst (rgV (b + 1) (b + 101) ++ [V.int 1, .int 1000, .int 840, .int 961] ++ fs.map vN)))
          ⟨⟨_, rfl⟩, fun b o e => sameUpd n4 _ _ (sameUpd n3 _ _ (sameUpd n2 _ _ (sameUpd n1 _ _ e))), upd_same⟩ (fun k σ H5 hk hP => .of hP.2.2) (fun k v σ H5 hv hP => ?_) (fun σ H5 hP => ?_)
        · obtain ⟨⟨y5', rfl⟩, s5, h5⟩ := hP
          obtain ⟨n, rfl, n1', n2'⟩ : ∃ n : Nat, v = .int n ∧ 1 ≤ n ∧ n ≤ 1000 := by
            have m := List.mem_of_getElem? hv
            rcases List.mem_append.mp m with m | m
            · rcases List.mem_append.mp m with m | m
              · obtain ⟨j, hj, rfl⟩ := List.mem_map.mp m
                have := List.mem_range.mp hj
                exact ⟨(b + 1 + j).toNat, congrArg V.int (by omega), by omega, by omega⟩
              · simp only [List.mem_cons, List.mem_nil_iff, or_false] at m
                rcases m with rfl | rfl | rfl | rfl
                · exact ⟨1, rfl, by decide, by decide⟩
                · exact ⟨1000, rfl, by decide, by decide⟩
                · exact ⟨840, rfl, by decide, by decide⟩
                · exact ⟨961, rfl, by decide, by decide⟩
            · obtain ⟨f, hf, rfl⟩ := List.mem_map.mp m
              exact ⟨f, rfl, ff f hf⟩
          exact ⟨_, rfl, n, rfl, n1', n2', fun H6 s6 => ⟨true, rfl, iteF ⟨⟨_, rfl⟩, s5.trans s6, s6 _ _ h5⟩⟩⟩
        · obtain ⟨⟨y5', rfl⟩, s5, _⟩ := hP
          have t5 := t4.ext s5
          have S5 := seqL_same s5 S4
          have d5 := d4.same s5
          refine ⟨_, rfl, (by show 1 ≤ sizeLine; decide), fun pt nt => ⟨(by show 0 ≤ sizeLine; decide), fun pe ne => ⟨_, _, rfl, rfl, rfl, fun pd nd => ⟨(by show 10 ≤ sizeLine; decide), fun pi ni => ?_⟩⟩⟩⟩
          have e1 := d5.new (o := .tup [.int 1]) nt
          have e2 := e1.new (o := .lst []) ne
          have e3 := e2.new (o := .dK []) nd
          refine ⟨p, pi, _, rfl, e3.new ni, (e3.ne ni).symm, .inl (.of upd_same), (by show 0 < 10; decide), (by show 10 ≤ 1000; decide), fun H7 j v bt dl7 hv => ?_⟩
          have b7 : But p H5 H7 := (((((But.refl (l := p)).new nt).new ne).new nd).new ni).trans bt
          obtain ⟨d, od⟩ : ∃ d, OddB H7 v d := by
            have m := List.mem_of_getElem? hv
            simp only [List.mem_cons, List.mem_nil_iff, or_false] at m
            rcases m with rfl | rfl | rfl | rfl | rfl | rfl | rfl | rfl | rfl | rfl
            · exact ⟨_, .non⟩
            · exact ⟨_, .bl⟩
            · exact ⟨_, .str⟩
            · exact ⟨_, .tup (bt _ _ (d5.ne nt).symm (sameUpd ni _ _ (sameUpd nd _ _ (sameUpd ne _ _ upd_same))))⟩
            · exact ⟨_, .lst (bt _ _ (e1.ne ne).symm (sameUpd ni _ _ (sameUpd nd _ _ upd_same)))⟩
            · exact ⟨_, .zero⟩
            · exact ⟨_, .neg⟩
            · exact ⟨_, .more⟩
            · exact ⟨_, .lim⟩
            · exact ⟨_, .dct (bt _ _ (e2.ne nd).symm (sameUpd ni _ _ upd_same))⟩
          have t7 : Tabs (lamT HK) H7 := by
            obtain ⟨xs5, l5⟩ := K03.Dice.lst d5
            exact Tabs.but t5 l5 b7
          have S7 : SqL K H7 a (ns.map V.int) := seqL_but ((b3.trans b4).trans (But.trans (But.ofSame s5) b7)) np s2 hS1
          refine ref_num (v := v) t7 (fun H1 e E Q' R => ⟨v, rfl, v, rfl, .inr ⟨(od.extN e).out, R⟩⟩) (fun H8 q1 x8 t8 n8 => ⟨(by show 1 ≤ sizeLine; decide), fun pT nT => ?_⟩)
          have od8 := od.extN x8
          have S8 := seqL_ext x8 S7
          have t9 : Tabs (lamT HK) (upd (upd H8 q1 (.lst [v])) pT (.lst [.ref q1])) := (t8.ext (sameUpd n8)).ext (sameUpd nT)
          have od9 : OddB (upd (upd H8 q1 (.lst [v])) pT (.lst [.ref q1])) v d := (od8.extN (ExtN.of (sameUpd n8))).extN (ExtN.of (sameUpd nT))
          refine ⟨.ref pT, rfl, .inl ⟨rfl, _, .inl (.inl upd_same)⟩, ref_num (v := v) t9 (fun H1 e E Q' R => ⟨v, rfl, v, rfl, .inr ⟨(od9.extN e).out, R⟩⟩) (fun H10 q2 x10 t10 n10 => ?_)⟩
          have hT10 : H10 pT = some (.lst [.ref q1]) := x10 _ _ upd_same (fun ps z => by cases z)
          have h110 : H10 q1 = some (.lst [v]) := x10 _ _ (sameUpd nT _ _ upd_same) (fun ps z => by cases z)
          have q1T : q1 ≠ pT := ne_of_none (H := upd H8 q1 (.lst [v])) upd_same nT
          have q2T : q2 ≠ pT := (ne_of_none hT10 n10).symm
          have hT11 : (upd H10 q2 (.lst [v])) pT = some (.lst [.ref q1]) := sameUpd n10 _ _ hT10
          refine ⟨pT, _, _, rfl, rfl, hT11, small1000 (show 1 ≤ 1000 by decide), ?_⟩
          have od10 := od9.extN x10
          have vT : v ≠ .ref pT := (od8.extN (ExtN.of (sameUpd (o := .lst [v]) n8))).ne nT
          have odZ : OddB (upd (upd H10 q2 (.lst [v])) pT (.lst ([.ref q1] ++ [.ref q2]))) v d := (od10.extN (ExtN.of (sameUpd n10))).up vT
          have hZ1 : (upd (upd H10 q2 (.lst [v])) pT (.lst ([.ref q1] ++ [.ref q2]))) q1 = some (.lst [v]) := by
            rw [upd_ne q1T]
            exact sameUpd n10 _ _ h110
          have hZ2 : (upd (upd H10 q2 (.lst [v])) pT (.lst ([.ref q1] ++ [.ref q2]))) q2 = some (.lst [v]) := by
            rw [upd_ne q2T]
            exact upd_same
          obtain ⟨sh, dp, sz⟩ := od.ok
          refine ⟨_, rfl, .ref pT, toldD d, rfl, .lst upd_same (.cons (.lst hZ1 (.cons odZ.rn .nil)) (.cons (.lst hZ2 (.cons odZ.rn .nil)) .nil)), sh, dp, sz, ?_⟩
          refine ⟨_, rfl, (by show 1 ≤ sizeLine; decide), fun m1 k1 => ⟨(by show 1 ≤ sizeLine; decide), fun m2 k2 => ⟨m2, 2, _, rfl, rfl, upd_same, by decide, by decide, (by show 2 ≤ sizeLine; decide), fun m3 k3 => ?_⟩⟩⟩
          have odY := ((odZ.extN (ExtN.of (sameUpd (o := .lst [v]) k1))).extN (ExtN.of (sameUpd (o := .lst [.ref m1]) k2))).extN (ExtN.of (sameUpd (o := .lst (List.replicate (2 : Int).toNat [V.ref m1]).flatten) k3))
          have hm1 := sameUpd (o := .lst (List.replicate (2 : Int).toNat [V.ref m1]).flatten) k3 _ _ (sameUpd (o := .lst [.ref m1]) k2 _ _ (upd_same (H := upd (upd H10 q2 (.lst [v])) pT (.lst ([.ref q1] ++ [.ref q2]))) (a := m1) (o := .lst [v])))
          refine ⟨.ref m3, toldD d, rfl, .lst upd_same (.cons (.lst hm1 (.cons odY.rn .nil)) (.cons (.lst hm1 (.cons odY.rn .nil)) .nil)), sh, dp, sz, rfl, _, rfl, iteFo (neS rfl) ?_⟩
          have S10 : SqL K H10 a (ns.map V.int) := seqL_ext x10 (seqL_same (sameUpd nT) (seqL_same (sameUpd n8) S8))
          have S11 : SqL K (upd (upd H10 q2 (.lst [v])) pT (.lst ([.ref q1] ++ [.ref q2]))) a (ns.map V.int) := seqL_upd nT (seqL_same (sameUpd n8) S8) (seqL_same (sameUpd n10) S10)
          have t11 : Tabs (lamT HK) (upd (upd H10 q2 (.lst [v])) pT (.lst ([.ref q1] ++ [.ref q2]))) := Tabs.put (t10.ext (sameUpd n10)) hT11 _
          exact ⟨_, _, _, _, _, _, _, _, rfl, seqL_same (sameUpd k3) (seqL_same (sameUpd k2) (seqL_same (sameUpd k1) S11)), ((t11.ext (sameUpd k1)).ext (sameUpd k2)).ext (sameUpd k3)⟩
    · obtain ⟨y1, y2, y3, y4, y5, y6, y7, y8, rfl, hS1, t1⟩ := hP
      refine ⟨(by show 7 ≤ sizeLine; decide), fun t nt => ⟨t, rfl, ⟨_, .of upd_same⟩, fun D nD => ?_⟩⟩
      refine lc_tup (a := t) (xs := lastN.map vN) (fun k H4 => Same (upd H1 t (.tup (lastN.map vN))) H4 ∧ H4 D = some (.lst (((lastN.take k).map mu).map V.int))) ⟨sameUpd nD, upd_same⟩
        (fun k H4 hk hP => .of (hP.1 _ _ upd_same)) (fun k v H4 hv hP => ?_) (fun H4 hP => ?_)
      · obtain ⟨s4, hD⟩ := hP
        rw [List.getElem?_map] at hv
        obtain ⟨m, hm, rfl⟩ := Option.map_eq_some_iff.mp hv
        obtain ⟨m1, m2⟩ := last_small m (List.mem_of_getElem? hm)
        have kl : k < lastN.length := (List.getElem?_eq_some_iff.mp hm).1
        have kl' : k < 7 := kl
        refine ⟨rfl, _, rfl, _, rfl, .inl ⟨m, rfl, m1, m2, ?_⟩⟩
        refine ⟨_, hD, ?_, fun b o eb => ?_, ?_⟩
        · rw [List.length_map, List.length_map, List.length_take]
          exact small1000 (by omega)
        · rw [upd_ne (ne_of_none eb nD)]
          exact s4 b o eb
        · rw [upd_same, List.take_add_one, hm, List.map_append, List.map_append]
          rfl
      · obtain ⟨s4, hD⟩ := hP
        have lastM : (lastN.take (lastN.map vN).length).map mu = [1, -1, 0, 1, 0, -1, 0] := by decide +kernel
        rw [lastM] at hD
        refine ⟨_, _, rfl, rfl, _, _, rfl, rfl, (by show 7 ≤ sizeLine; decide), fun y ny => ?_⟩
        refine ⟨lastD, lastD, ?_, ?_, lastE.1, lastE.1, ?_⟩
        · exact .lst (.of (sameUpd ny _ _ hD)) (.cons (.int 1) (.cons (.int (-1)) (.cons (.int 0) (.cons (.int 1) (.cons (.int 0) (.cons (.int (-1)) (.cons (.int 0) .nil)))))))
        · exact .lst (.of upd_same) (.cons (.int 1) (.cons (.int (-1)) (.cons (.int 0) (.cons (.int 1) (.cons (.int 0) (.cons (.int (-1)) (.cons (.int 0) .nil)))))))
        · rw [lastE.2]
          exact q _
end
end K03

set_option maxHeartbeats 4000000
namespace K03
open PySem PySem.Spec PyProof.Rows GG PySem.W PySem.Calls PySem.HandSPX
def sInit_CN : Stmt := (clsBody (topS 6)).getD 0 (.Pass ⟨0, 0, 0, 0⟩)
theorem init_ok_CN {K : Frag} {mg : Str → Option Value} {C fI : Addr} (T : XN K mg C fI) {oc : Value} {od an : Option Addr} {doc pm cdv ct : Value} {osl : Array (Option Value)}
    (ho : K.lookup fI = some ⟨oc, od, .func (fnOf "__init__" "InvalidNumber.__init__" (L2.defArgs sInit_CN) (L2.defBody sInit_CN) (L2.defScope sInit_CN) .none .none doc pm an cdv ct), osl⟩)
    (hcd : codeIn K cdv "InvalidNumber.__init__" = true) : PySem.GX.InitOk K "value" C fI := by
  intro prog w A R s x t0 v X lim hx hnx deep hq
  obtain ⟨cd, hcl, hov, hdi⟩ := T.over
  refine Att.call_fn (binds := [("self", .ref x), ("value", v)]) X lim ho hcd deep (BindsTo.of_eq (by first | rfl | with_unfolding_all rfl)) (by first | rfl | decide | with_unfolding_all rfl) (fun s₁ IC => ?_) rfl rfl rfl
  obtain ⟨h₁, tk₁, rfl⟩ := IC.toInCall.same
  have k : ∀ b o, s.heap.get? b = some o → h₁.get? b = some o := IC.toInCall.keep
  have hn := IC.toInCall.ns
  have X₁ : K.In h₁ := X.keeps k
  have hx₁ := k _ _ hx
  show wpAny _ _ (execs _ _) _ _ _
  refine wpAny_execs_cons (plainObj_wpAny_Assign_Attribute ?_)
  refine PySem.GX.loadLoc (v := v) hn (by first | rfl | with_unfolding_all rfl | kernel_rfl) (PySem.GX.loadLoc (v := .ref x) hn (by first | rfl | with_unfolding_all rfl | kernel_rfl) ?_)
  refine set_plain X₁ (ox := excO C t0) (od := none) ⟨hx₁, rfl, rfl, trivial⟩ T.sa ?_
  refine PySem.GX.osaX PySem.F.store_IndexError X₁ hx₁ hcl hov hdi T.noN (fun h₃ tk₃ dx k₃ dn dne hx₃ hn₃ => ?_)
  show wpAny _ _ (execs _ _) _ _ _
  have z : s.heap.objs.size < h₁.objs.size := hn.lt
  exact wpAny_execs_nil (hq h₃ tk₃ dx ⟨fun b o hb e => k₃ b o hb (k b o e), hx₃, Nat.le_of_lt (Nat.lt_of_lt_of_le z dn), dne, hn₃⟩)
end K03

set_option maxHeartbeats 4000000
namespace K03
open PySem PySem.Spec PyProof.Rows L2 GG
theorem all_mk {l : PySem.W.OpenLaw} {w : World} {K : PySem.W.Frag} {h : Heap} {mg : Str → Option Value} {f_is_integer f_is_within f_divisors f_moebius f__law_dice f__law_roll f__law_pick f__law_limit f__law_refused f__law_right f_law fa CN fI_CN  c_law HK_law p_PRIMES : Addr} 
    (X : K.In h) (G : h.Ns mainGlobals mg) (hfa : mg "law" = some (.ref fa))
    {od0 an0 : Option Addr} {sl0 : Array (Option Value)} {oc0 kV0 dc0 pm0 cd0 ct0 : Value}
    (a0 : PySem.W.nsIn K mainGlobals "is_integer" = some (some (.ref f_is_integer)))
    (l0 : K.lookup f_is_integer = some ⟨oc0, od0, .func (PySem.W.fnOf "is_integer" "is_integer" (defArgs sInteger) (defBody sInteger) (defScope sInteger) .none kV0 dc0 pm0 an0 cd0 ct0), sl0⟩)
    (c0 : PySem.W.codeIn K cd0 "is_integer" = true) (k0 : PySem.W.keepIn K (.ref f_is_integer) = true)
    {od1 an1 : Option Addr} {sl1 : Array (Option Value)} {oc1 kV1 dc1 pm1 cd1 ct1 : Value}
    (a1 : PySem.W.nsIn K mainGlobals "is_within" = some (some (.ref f_is_within)))
    (l1 : K.lookup f_is_within = some ⟨oc1, od1, .func (PySem.W.fnOf "is_within" "is_within" (defArgs sWithin) (defBody sWithin) (defScope sWithin) .none kV1 dc1 pm1 an1 cd1 ct1), sl1⟩)
    (c1 : PySem.W.codeIn K cd1 "is_within" = true) (k1 : PySem.W.keepIn K (.ref f_is_within) = true)
    {od2 an2 : Option Addr} {sl2 : Array (Option Value)} {oc2 kV2 dc2 pm2 cd2 ct2 : Value}
    (a2 : PySem.W.nsIn K mainGlobals "divisors" = some (some (.ref f_divisors)))
    (l2 : K.lookup f_divisors = some ⟨oc2, od2, .func (PySem.W.fnOf "divisors" "divisors" (defArgs sDiv) (defBody sDiv) (defScope sDiv) .none kV2 dc2 pm2 an2 cd2 ct2), sl2⟩)
    (c2 : PySem.W.codeIn K cd2 "divisors" = true) (k2 : PySem.W.keepIn K (.ref f_divisors) = true)
    {od3 an3 : Option Addr} {sl3 : Array (Option Value)} {oc3 kV3 dc3 pm3 cd3 ct3 : Value}
    (a3 : PySem.W.nsIn K mainGlobals "moebius" = some (some (.ref f_moebius)))
    (l3 : K.lookup f_moebius = some ⟨oc3, od3, .func (PySem.W.fnOf "moebius" "moebius" (defArgs sMu) (defBody sMu) (defScope sMu) .none kV3 dc3 pm3 an3 cd3 ct3), sl3⟩)
    (c3 : PySem.W.codeIn K cd3 "moebius" = true) (k3 : PySem.W.keepIn K (.ref f_moebius) = true)
    {od4 an4 : Option Addr} {sl4 : Array (Option Value)} {oc4 kV4 dc4 pm4 cd4 ct4 : Value}
    (a4 : PySem.W.nsIn K mainGlobals "_law_dice" = some (some (.ref f__law_dice)))
    (l4 : K.lookup f__law_dice = some ⟨oc4, od4, .func (PySem.W.fnOf "_law_dice" "_law_dice" (defArgs sDice) (defBody sDice) (defScope sDice) .none kV4 dc4 pm4 an4 cd4 ct4), sl4⟩)
    (c4 : PySem.W.codeIn K cd4 "_law_dice" = true) (k4 : PySem.W.keepIn K (.ref f__law_dice) = true)
    {od5 an5 : Option Addr} {sl5 : Array (Option Value)} {oc5 kV5 dc5 pm5 cd5 ct5 : Value}
    (a5 : PySem.W.nsIn K mainGlobals "_law_roll" = some (some (.ref f__law_roll)))
    (l5 : K.lookup f__law_roll = some ⟨oc5, od5, .func (PySem.W.fnOf "_law_roll" "_law_roll" (defArgs sRoll) (defBody sRoll) (defScope sRoll) .none kV5 dc5 pm5 an5 cd5 ct5), sl5⟩)
    (c5 : PySem.W.codeIn K cd5 "_law_roll" = true) (k5 : PySem.W.keepIn K (.ref f__law_roll) = true)
    {od6 an6 : Option Addr} {sl6 : Array (Option Value)} {oc6 kV6 dc6 pm6 cd6 ct6 : Value}
    (a6 : PySem.W.nsIn K mainGlobals "_law_pick" = some (some (.ref f__law_pick)))
    (l6 : K.lookup f__law_pick = some ⟨oc6, od6, .func (PySem.W.fnOf "_law_pick" "_law_pick" (defArgs sPick) (defBody sPick) (defScope sPick) .none kV6 dc6 pm6 an6 cd6 ct6), sl6⟩)
    (c6 : PySem.W.codeIn K cd6 "_law_pick" = true) (k6 : PySem.W.keepIn K (.ref f__law_pick) = true)
    {od7 an7 : Option Addr} {sl7 : Array (Option Value)} {oc7 kV7 dc7 pm7 cd7 ct7 : Value}
    (a7 : PySem.W.nsIn K mainGlobals "_law_limit" = some (some (.ref f__law_limit)))
    (l7 : K.lookup f__law_limit = some ⟨oc7, od7, .func (PySem.W.fnOf "_law_limit" "_law_limit" (defArgs sLimit) (defBody sLimit) (defScope sLimit) .none kV7 dc7 pm7 an7 cd7 ct7), sl7⟩)
    (c7 : PySem.W.codeIn K cd7 "_law_limit" = true) (k7 : PySem.W.keepIn K (.ref f__law_limit) = true)
    {od8 an8 : Option Addr} {sl8 : Array (Option Value)} {oc8 kV8 dc8 pm8 cd8 ct8 : Value}
    (a8 : PySem.W.nsIn K mainGlobals "_law_refused" = some (some (.ref f__law_refused)))
    (l8 : K.lookup f__law_refused = some ⟨oc8, od8, .func (PySem.W.fnOf "_law_refused" "_law_refused" (defArgs sRef) (defBody sRef) (defScope sRef) .none kV8 dc8 pm8 an8 cd8 ct8), sl8⟩)
    (c8 : PySem.W.codeIn K cd8 "_law_refused" = true) (k8 : PySem.W.keepIn K (.ref f__law_refused) = true)
    {od9 an9 : Option Addr} {sl9 : Array (Option Value)} {oc9 kV9 dc9 pm9 cd9 ct9 : Value}
    (a9 : PySem.W.nsIn K mainGlobals "_law_right" = some (some (.ref f__law_right)))
    (l9 : K.lookup f__law_right = some ⟨oc9, od9, .func (PySem.W.fnOf "_law_right" "_law_right" (defArgs sRight) (defBody sRight) (defScope sRight) .none kV9 dc9 pm9 an9 cd9 ct9), sl9⟩)
    (c9 : PySem.W.codeIn K cd9 "_law_right" = true) (k9 : PySem.W.keepIn K (.ref f__law_right) = true)
    {od10 an10 : Option Addr} {sl10 : Array (Option Value)} {oc10 kV10 dc10 pm10 ct10 : Value}
    (a10 : PySem.W.nsIn K mainGlobals "law" = some (some (.ref f_law)))
    (l10 : K.lookup f_law = some ⟨oc10, od10, .func (PySem.W.fnOf "law" "law" (defArgs sLaw) (defBody sLaw) (defScope sLaw) .none kV10 dc10 pm10 an10 (.ref c_law) ct10), sl10⟩)
    (c10 : PySem.W.codeIn K (.ref c_law) "law" = true) (k10 : PySem.W.keepIn K (.ref f_law) = true)
    (z_isinstance : PySem.W.nsIn K mainGlobals "isinstance" = some none)
    (z_int : PySem.W.nsIn K mainGlobals "int" = some none)
    (z_bool : PySem.W.nsIn K mainGlobals "bool" = some none)
    (z_len : PySem.W.nsIn K mainGlobals "len" = some none)
    (z_max : PySem.W.nsIn K mainGlobals "max" = some none)
    (z_min : PySem.W.nsIn K mainGlobals "min" = some none)
    (z_abs : PySem.W.nsIn K mainGlobals "abs" = some none)
    (z_range : PySem.W.nsIn K mainGlobals "range" = some none)
    (z_repr : PySem.W.nsIn K mainGlobals "repr" = some none)
    (z_tuple : PySem.W.nsIn K mainGlobals "tuple" = some none)
    (z_sum : PySem.W.nsIn K mainGlobals "sum" = some none)
    (z_list : PySem.W.nsIn K mainGlobals "list" = some none)
    {t_BOUND : Tok} (y_BOUND : PySem.W.nsIn K mainGlobals "_BOUND" = some (some (.int BND t_BOUND)))
    {t_LIMIT : Tok} (y_LIMIT : PySem.W.nsIn K mainGlobals "_LIMIT" = some (some (.int 1000 t_LIMIT)))
    (v_isqrt : PySem.W.nsIn K mainGlobals "isqrt" = some (some (.builtin "math.isqrt")))
    {u_PRIMES0 u_PRIMES1 u_PRIMES2 u_PRIMES3 u_PRIMES4 u_PRIMES5 u_PRIMES6 u_PRIMES7 u_PRIMES8 u_PRIMES9 u_PRIMES10 : Tok} {od_PRIMES : Option Addr} {sl_PRIMES : Array (Option Value)} {n_PRIMES : Nat}
    (w_PRIMES : PySem.W.nsIn K mainGlobals "_PRIMES" = some (some (.ref p_PRIMES)))
    (x_PRIMES : K.lookup p_PRIMES = some ⟨.type "tuple", od_PRIMES, .seq #[.int 2 u_PRIMES0, .int 3 u_PRIMES1, .int 5 u_PRIMES2, .int 7 u_PRIMES3, .int 11 u_PRIMES4, .int 13 u_PRIMES5, .int 17 u_PRIMES6, .int 19 u_PRIMES7, .int 23 u_PRIMES8, .int 29 u_PRIMES9, .int 31 u_PRIMES10] n_PRIMES, sl_PRIMES⟩)
    {nmCN qnCN : Str} {NnCN : Addr} {bsCN : List Value} {snCN : List Str} {subCN : List Value} {abCN : Bool} {colCN : Option Bool} {ddCN : Option Addr} {m0CN m1CN m2CN m3CN m5CN : Option Value}
    {odICN anICN : Option Addr} {slICN : Array (Option Value)} {ocICN dcICN pmICN cdICN ctICN : Value}
    (xN_CN : PySem.W.nsIn K mainGlobals "InvalidNumber" = some (some (.ref CN)))
    (xL_CN : K.lookup CN = some (excClassObj nmCN qnCN CN NnCN bsCN [.type "IndexError", .type "LookupError", .type "Exception", .type "BaseException", .type "object"] true snCN subCN abCN colCN ddCN m0CN m1CN m2CN m3CN m5CN "IndexError.__new__"))
    (xsa_CN : PySem.W.findIn K (.ref CN) "__setattr__" = some (some (.builtin "object.__setattr__")))
    (xga_CN : PySem.W.findIn K (.ref CN) "__getattribute__" = some (some (.builtin "BaseException.__getattribute__")))
    (xgg_CN : PySem.W.findIn K (.ref CN) "__getattr__" = some none)
    (xnb_CN : PySem.W.findIn K (.ref CN) "value" = some none)
    (xi_CN : PySem.W.findIn K (.ref CN) "__init__" = some (some (.ref fI_CN)))
    (xt_CN : PySem.W.typeIn K (.ref fI_CN) = some (.type "function"))
    (xil_CN : K.lookup fI_CN = some ⟨ocICN, odICN, .func (PySem.W.fnOf "__init__" "InvalidNumber.__init__" (defArgs sInit_CN) (defBody sInit_CN) (defScope sInit_CN) .none .none dcICN pmICN anICN cdICN ctICN), slICN⟩)
    (xic_CN : PySem.W.codeIn K cdICN "InvalidNumber.__init__" = true)
    (xk_CN : PySem.W.keepIn K (.ref CN) = true)
    (xe_CN : PySem.W.subIn K (.ref CN) (.type "BaseException") = some true)
    (xty_CN : PySem.W.typeIn K (.ref CN) = some (.type "type"))
    (xh_CN : PySem.W.hasDictIn K CN = true)
    (xss_CN : PySem.W.subIn K (.ref CN) (.ref CN) = some true)
    {odc_law : Option Addr} {vsc_law : Array Value} {slc_law : Array (Option Value)}
    (qL_law : K.lookup c_law = some ⟨.type "code", odc_law, .fields vsc_law, slc_law⟩)
    (qT_law : vsc_law[11]? = some (.ref HK_law))
    (qC_law : PySem.W.codeHdIn K c_law HK_law = true)
    (qN_law : K.lookup HK_law = none)
    (qB_law : h.get? HK_law = some { cls := .none, data := .fields #[] })
    : LawM l w K L2.CX0 6 63 "script" mg fa h := by
  have e := hfa.symm.trans (PySem.W.mg_of X G a10)
  cases e
  have F_is_integer := fun_mk (st := sInteger) l0 c0 k0
  have b_is_integer := F_is_integer.binds (ps := ["value"]) fun _ _ _ _ _ _ us hl => match us, hl with | [_], _ => rfl
  have g_is_integer := PySem.W.mg_of X G a0
  have q_is_integer := F_is_integer.kp
  have F_is_within := fun_mk (st := sWithin) l1 c1 k1
  have b_is_within := F_is_within.binds (ps := ["value", "least", "most"]) fun _ _ _ _ _ _ us hl => match us, hl with | [_, _, _], _ => rfl
  have g_is_within := PySem.W.mg_of X G a1
  have q_is_within := F_is_within.kp
  have F_divisors := fun_mk (st := sDiv) l2 c2 k2
  have b_divisors := F_divisors.binds (ps := ["number"]) fun _ _ _ _ _ _ us hl => match us, hl with | [_], _ => rfl
  have g_divisors := PySem.W.mg_of X G a2
  have q_divisors := F_divisors.kp
  have F_moebius := fun_mk (st := sMu) l3 c3 k3
  have b_moebius := F_moebius.binds (ps := ["number"]) fun _ _ _ _ _ _ us hl => match us, hl with | [_], _ => rfl
  have g_moebius := PySem.W.mg_of X G a3
  have q_moebius := F_moebius.kp
  have F__law_dice := fun_mk (st := sDice) l4 c4 k4
  have b__law_dice := F__law_dice.binds (ps := ["script", "spot"]) fun _ _ _ _ _ _ us hl => match us, hl with | [_, _], _ => rfl
  have g__law_dice := PySem.W.mg_of X G a4
  have q__law_dice := F__law_dice.kp
  have F__law_roll := fun_mk (st := sRoll) l5 c5 k5
  have b__law_roll := F__law_roll.binds (ps := ["dice", "total"]) fun _ _ _ _ _ _ us hl => match us, hl with | [_, _], _ => rfl
  have g__law_roll := PySem.W.mg_of X G a5
  have q__law_roll := F__law_roll.kp
  have F__law_pick := fun_mk (st := sPick) l6 c6 k6
  have b__law_pick := F__law_pick.binds (ps := ["dice", "items"]) fun _ _ _ _ _ _ us hl => match us, hl with | [_, _], _ => rfl
  have g__law_pick := PySem.W.mg_of X G a6
  have q__law_pick := F__law_pick.kp
  have F__law_limit := fun_mk (st := sLimit) l7 c7 k7
  have b__law_limit := F__law_limit.binds (ps := []) fun _ _ _ _ _ _ us hl => match us, hl with | [], _ => rfl
  have g__law_limit := PySem.W.mg_of X G a7
  have q__law_limit := F__law_limit.kp
  have F__law_refused := fun_mk (st := sRef) l8 c8 k8
  have b__law_refused := F__law_refused.binds (ps := ["call"]) fun _ _ _ _ _ _ us hl => match us, hl with | [_], _ => rfl
  have g__law_refused := PySem.W.mg_of X G a8
  have q__law_refused := F__law_refused.kp
  have F__law_right := fun_mk (st := sRight) l9 c9 k9
  have b__law_right := F__law_right.binds (ps := ["number"]) fun _ _ _ _ _ _ us hl => match us, hl with | [_], _ => rfl
  have g__law_right := PySem.W.mg_of X G a9
  have q__law_right := F__law_right.kp
  have F_law := fun_mk (st := sLaw) l10 c10 k10
  have m_isinstance := PySem.W.mg_none_of X G z_isinstance
  have m_int := PySem.W.mg_none_of X G z_int
  have m_bool := PySem.W.mg_none_of X G z_bool
  have m_len := PySem.W.mg_none_of X G z_len
  have m_max := PySem.W.mg_none_of X G z_max
  have m_min := PySem.W.mg_none_of X G z_min
  have m_abs := PySem.W.mg_none_of X G z_abs
  have m_range := PySem.W.mg_none_of X G z_range
  have m_repr := PySem.W.mg_none_of X G z_repr
  have m_tuple := PySem.W.mg_none_of X G z_tuple
  have m_sum := PySem.W.mg_none_of X G z_sum
  have m_list := PySem.W.mg_none_of X G z_list
  have m_BOUND := PySem.W.mg_of X G y_BOUND
  have m_LIMIT := PySem.W.mg_of X G y_LIMIT
  have m_isqrt := PySem.W.mg_of X G v_isqrt
  have m_PRIMES := PySem.W.mg_of X G w_PRIMES
  have T_CN : PySem.GX.OwnX K mg "InvalidNumber" "value" [.type "IndexError", .type "LookupError", .type "Exception", .type "BaseException", .type "object"] "IndexError.__new__" CN fI_CN := { gC := PySem.W.mg_of X G xN_CN, cls := ⟨nmCN, qnCN, NnCN, bsCN, _, snCN, subCN, abCN, colCN, ddCN, m0CN, m1CN, m2CN, m3CN, m5CN, xL_CN, by decide +kernel⟩, sa := xsa_CN, ga := xga_CN, gg := xgg_CN, noN := xnb_CN, iC := xi_CN, tC := xt_CN, kC := xk_CN, exC := xe_CN, tyC := xty_CN, hdC := xh_CN, te := PySem.W.exm_ref xe_CN xh_CN xty_CN xss_CN }
  have init_CN := init_ok_CN T_CN xil_CN xic_CN
  refine ⟨PySem.W.fnOf "law" "law" (defArgs sLaw) (defBody sLaw) (defScope sLaw) .none kV10 dc10 pm10 an10 (.ref c_law) ct10, [(c_law, HK_law)], spLaw K HK_law, ?_, ?_, ?_, fun s v => .of_eq rfl, ?_, fun base _ _ TBs sm => ?_⟩
  · intro p hp
    simp only [List.mem_cons, List.mem_nil_iff, or_false] at hp
    rcases hp with rfl
    · exact qB_law
  · intro p hp
    simp only [List.mem_cons, List.mem_nil_iff, or_false] at hp
    rcases hp with rfl
    · exact qN_law
  · intro p hp
    simp only [List.mem_cons, List.mem_nil_iff, or_false] at hp
    rcases hp with rfl
    · exact PySem.W.codeHd_of_K X qC_law
  · exact fun H a ns hl hH hS => ⟨a, ns, rfl, hS, hl, hH _ List.mem_cons_self, fun _ => rfl⟩
  have TB := TBs _ List.mem_cons_self
  have sP : ∀ H, SqT K H p_PRIMES (primes.map vN) := fun H => .inr ⟨_, _, _, x_PRIMES, rfl, rfl, by show 11 ≤ sizeLine; decide,
    .cons ⟨_, rfl⟩ (.cons ⟨_, rfl⟩ (.cons ⟨_, rfl⟩ (.cons ⟨_, rfl⟩ (.cons ⟨_, rfl⟩ (.cons ⟨_, rfl⟩ (.cons ⟨_, rfl⟩ (.cons ⟨_, rfl⟩ (.cons ⟨_, rfl⟩ (.cons ⟨_, rfl⟩ (.cons ⟨_, rfl⟩ .nil))))))))))⟩
  have GD : FnOk l.prog w K mg base CX0 1 _ _ ["script", "spot"] (spDice K) := ok_dice F__law_dice m_len m_int m_max m_abs
  have GR : FnOk l.prog w K mg base CX0 1 _ _ ["dice", "total"] spRoll := ok_roll F__law_roll m_int
  have GK : FnOk l.prog w K mg base CX0 2 _ _ ["dice", "items"] (spPick K) := ok_pick F__law_pick F__law_roll b__law_roll g__law_roll m_len m_int
  have GL : FnOk l.prog w K mg base CX0 1 _ _ [] spLimit := ok_limit F__law_limit
  have GI : FnOk l.prog w K mg base CX0 1 _ _ ["value"] (spInteger K) := ok_integer F_is_integer m_int m_bool m_isinstance m_BOUND
  have GW : FnOk l.prog w K mg base CX0 2 _ _ ["value", "least", "most"] (spWithin K) := ok_within F_is_within b_is_integer GI g_is_integer q_is_integer
  have GV := ok_div F_divisors b_is_within GW g_is_within q_is_within m_LIMIT m_range m_tuple m_isqrt T_CN init_CN
  have GM := ok_mu F_moebius b_is_within GW g_is_within q_is_within m_LIMIT m_PRIMES sP T_CN init_CN
  have GRi := ok_right F__law_right b_divisors b_moebius GV GM g_divisors g_moebius q_divisors q_moebius m_repr m_range m_tuple m_sum m_int
  exact ok_law l10 c10 TB sm F__law_refused b__law_refused b__law_dice b__law_roll b__law_pick b__law_limit b__law_right b_divisors b_moebius GD GR GK GL GRi GV GM g__law_refused g__law_dice g__law_roll g__law_pick g__law_limit g__law_right g_divisors g_moebius
    q__law_dice q__law_roll q__law_pick q__law_limit q__law_right q_divisors q_moebius T_CN m_range m_max m_min m_len m_list m_repr
end K03

set_option maxHeartbeats 4000000
open PySem PySem.W PyProof.Rows
set_option maxHeartbeats 0 in
theorem PySem.Challenge.cw_onebetween_k03_whole_divisors_and_moebiu_holds : PySem.Challenge.rw_onebetween_k03_whole_divisors_and_moebiu.Holds := by
  w_on; o_law; k_head; (case hw => w_witness2)
  k_fill
  refine GG.walkM (l := PySem.Challenge.rw_onebetween_k03_whole_divisors_and_moebiu) (n := 63) (k := 6) (x := "script") (CX := fun _ => L2.CX0)  (by first | kernel_rfl | decide +kernel) rfl (by decide) rfl ⟨rfl, by decide, by decide⟩ (fun w h Y => PySem.W.km_in_of Y) ?F (fun _ _ _ _ _ h => h)
  case F =>
    intro w mg fa h Y KX G hmg
    refine' K03.all_mk KX G hmg ?a0 ?l0 ?c0 ?k0 ?a1 ?l1 ?c1 ?k1 ?a2 ?l2 ?c2 ?k2 ?a3 ?l3 ?c3 ?k3 ?a4 ?l4 ?c4 ?k4 ?a5 ?l5 ?c5 ?k5 ?a6 ?l6 ?c6 ?k6 ?a7 ?l7 ?c7 ?k7 ?a8 ?l8 ?c8 ?k8 ?a9 ?l9 ?c9 ?k9 ?a10 ?l10 ?c10 ?k10 ?z_isinstance ?z_int ?z_bool ?z_len ?z_max ?z_min ?z_abs ?z_range ?z_repr ?z_tuple ?z_sum ?z_list ?y_BOUND ?y_LIMIT ?v_isqrt ?w_PRIMES ?x_PRIMES ?xN_CN ?xL_CN ?xsa_CN ?xga_CN ?xgg_CN ?xnb_CN ?xi_CN ?xt_CN ?xil_CN ?xic_CN ?xk_CN ?xe_CN ?xty_CN ?xh_CN ?xss_CN ?qL_law ?qT_law ?qC_law ?qN_law ?qB_law
    (case a0 => k_is); (case l0 => k_is); (case c0 => k_is); (case k0 => k_is); (case a1 => k_is); (case l1 => k_is); (case c1 => k_is); (case k1 => k_is); (case a2 => k_is); (case l2 => k_is); (case c2 => k_is); (case k2 => k_is); (case a3 => k_is); (case l3 => k_is); (case c3 => k_is); (case k3 => k_is); (case a4 => k_is); (case l4 => k_is); (case c4 => k_is); (case k4 => k_is); (case a5 => k_is); (case l5 => k_is); (case c5 => k_is); (case k5 => k_is); (case a6 => k_is); (case l6 => k_is); (case c6 => k_is); (case k6 => k_is); (case a7 => k_is); (case l7 => k_is); (case c7 => k_is); (case k7 => k_is); (case a8 => k_is); (case l8 => k_is); (case c8 => k_is); (case k8 => k_is); (case a9 => k_is); (case l9 => k_is); (case c9 => k_is); (case k9 => k_is); (case a10 => k_is); (case l10 => k_is); (case c10 => k_is); (case k10 => k_is); (case z_isinstance => k_is); (case z_int => k_is); (case z_bool => k_is); (case z_len => k_is); (case z_max => k_is); (case z_min => k_is); (case z_abs => k_is); (case z_range => k_is); (case z_repr => k_is); (case z_tuple => k_is); (case z_sum => k_is); (case z_list => k_is); (case y_BOUND => k_is); (case y_LIMIT => k_is); (case v_isqrt => k_is); (case w_PRIMES => k_is); (case x_PRIMES => k_is); (case xN_CN => k_is); (case xL_CN => k_is); (case xsa_CN => k_is); (case xga_CN => k_is); (case xgg_CN => k_is); (case xnb_CN => k_is); (case xi_CN => k_is); (case xt_CN => k_is); (case xil_CN => k_is); (case xic_CN => k_is); (case xk_CN => k_is); (case xe_CN => k_is); (case xty_CN => k_is); (case xh_CN => k_is); (case xss_CN => k_is); (case qL_law => k_is); (case qT_law => rfl); (case qC_law => kernel_rfl); (case qN_law => first | k_is | kernel_rfl)
    (case qB_law => exact PySem.W.km_tabs_of Y _ (by k_mem))
