import PyProof.Rows.All
import Wide.All
import OpenK.AllK
import Wide.FinOn
import HandS.ForMost
import HandS.IsInst
import HandS.Wide
import PyProof.ReprRoads
import HandS.ForExc
import HandS.TryMany
import HandS.ExcField
import KE.KExcInit
import HandS.Lambda
import HandS.EndTab
import KE.GoesEnum
import HandS.Iter
import HandS.Walk
import HandS.RevRange
import HandS.WideBits
import HandS.Style
import HandS.TupMul
import HandS.Conv
import PyProof.ReprLen
import HandS.DictComp
import HandS.SortInts
import HandS.Zip
import HandS.TupAny
import PyProof.Rows.TupAdd
import OpenK.KMeth
import OpenK.KOps
import PyProof.InstNe
import HandS.Property
import HandS.Codes
import HandS.ExcIs
import PySem.Challenge.RW_onebetween_k08_errors_of_webs
set_option Elab.async false
set_option linter.all false
set_option maxRecDepth 100000
set_option maxHeartbeats 4000000
namespace GG
open PySem PySem.Spec PyProof.Rows L2

/-! ### promises that are kept where no repr is under way -/
structure FnG (P : Program) (w : World) (K : PySem.W.Frag) (mg : Str → Option Value) (base : Heap) (CX : CXT) (k : Nat)
    (f : Addr) (fd : FuncData) (ps : List Str) (sp : Sp) : Prop where
  lens : ∀ vs H Q E, sp vs H Q E → vs.length = ps.length
  go : ∀ (A : Around) (outer : List Env) (s : Shared) (H : Hp) (ar : Args) (us : List Value) (vs : List V) (Q : VK) (E : XK),
    A.guards = some [] → Room k A → Env0 P w K mg base A outer s H → BindsTo s fd ar (ps.zip us) → Vals vs us →
    sp vs H Q E → codeAny (model P w) A (.call (.ref f) ar) (CR CX outer P w H s Q E) s

section
variable {P : Program} {w : World} {K : PySem.W.Frag} {mg : Str → Option Value} {base : Heap} {CX : CXT} {k : Nat}
  {f : Addr} {fd : FuncData} {ps : List Str} {sp : Sp}
theorem FnG.ofOk (F : FnOk P w K mg base CX k f fd ps sp) : FnG P w K mg base CX k f fd ps sp :=
  ⟨F.len, fun A o s H ar us vs Q E _ hr => F.run A o s H ar us vs Q E hr⟩

theorem fnG_lk {x qual : Str} {st : Stmt} {N : List Str} {oc : Value} {od an : Option Addr} {osl : Array (Option Value)} {kV doc pm cdv ct : Value}
    (lk : K.lookup f = some ⟨oc, od, .func (PySem.W.fnOf x qual (defArgs st) (defBody st) (defScope st) .none kV doc pm an cdv ct), osl⟩)
    (hcd : PySem.W.codeIn K cdv qual = true) (S : FnScope N ps (defScope st))
    (lens : ∀ vs H Q E, sp vs H Q E → vs.length = ps.length)
    (hb : ∀ (A : Around) (outer : List Env) (s : Shared) (H : Hp) (vs : List V) (Q : VK) (E : XK),
      (A.deeper (envOfC qual (defScope st) s.heap.objs.size f cdv)).guards = some [] →
      Room k (A.deeper (envOfC qual (defScope st) s.heap.objs.size f cdv)) → sp vs H Q E →
      ∃ t, PSs (cxOf CX P w K mg base N qual (defScope st) f cdv A outer s H E) (defBody st) t ∧
        t { nx := fun _ H' => Q .non H', rt := Q } (start N vs) H) :
    FnG P w K mg base CX (k + 1) f (PySem.W.fnOf x qual (defArgs st) (defBody st) (defScope st) .none kV doc pm an cdv ct) ps sp := by
  refine ⟨lens, ?_⟩
  intro A outer s H ar us vs Q E gA room en bd vl hs
  have inK : K.In s.heap := en.mod.kin.keeps (fun b o z => (en.bs b o z).left)
  have noL : s.heap.NoLimit := en.mod.nolimit.keeps (fun b o z => (en.bs b o z).left)
  have kinds : ∀ y ∈ ps.zip us, (defScope st).names.lookup y.1 = some .local ∨
      ((defScope st).names.lookup y.1 = some .cell ∧
        ((cellsFrom (s.heap.objs.size + 1) (defScope st).names []).lookup y.1).isSome = true) := by
    intro ⟨n, v⟩ hy
    cases S.par n (List.of_mem_zip hy).left with
    | inl q => exact Or.inl q
    | inr q => exact Or.inr ⟨q, PySem.W.cellsFrom_some _ _ _ (Or.inl q)⟩
  refine codeAny_call_function room.depth (inK _ _ lk) rfl S.co S.gen rfl
    (PySem.W.codeRec_of inK hcd) (bd _ _ _ _ ?_)
  refine wpAny_newFunctionEnv_cells S.kind kinds (fun env he s1 ic => ?_)
  subst he
  refine ⟨noL.keeps ic.toInCall.keep, codeAny_func ?_⟩
  obtain ⟨t, ht, hq⟩ := hb A outer s H vs Q E gA (room.deeper _) hs
  have J := inv_start (CX := CX) (P := P) (E := E) S room.hd en (lens _ _ _ _ hs) vl ic
  refine wpAny_mono (ht.run [] s1 (start N vs) H _ J hq) (fun fl s2 ends => ?_) (fun _ _ z => z)
  cases fl with
  | next =>
    obtain ⟨σ2, H2, I2, q2⟩ := ends
    exact ⟨V.non, H2, I2.os, I2.bare, I2.base, I2.hok, rfl, q2⟩
  | ret u =>
    obtain ⟨v, σ2, H2, I2, rv, q2⟩ := ends
    exact ⟨v, H2, I2.os, I2.bare, I2.base, I2.hok, rv, q2⟩
  | brk => exact ends.elim (fun _ z => z.elim (fun _ z => z.right.elim))
  | cont => exact ends.elim (fun _ z => z.elim (fun _ z => z.right.elim))
theorem fnG_of {x qual : Str} {st : Stmt} {N : List Str} (F : Fun K x qual st f fd) (S : FnScope N ps (defScope st))
    (lens : ∀ vs H Q E, sp vs H Q E → vs.length = ps.length)
    (hb : ∀ (cdv : Value) (A : Around) (outer : List Env) (s : Shared) (H : Hp) (vs : List V) (Q : VK) (E : XK),
      (A.deeper (envOfC qual (defScope st) s.heap.objs.size f cdv)).guards = some [] →
      Room k (A.deeper (envOfC qual (defScope st) s.heap.objs.size f cdv)) → sp vs H Q E →
      ∃ t, PSs (cxOf CX P w K mg base N qual (defScope st) f cdv A outer s H E) (defBody st) t ∧
        t { nx := fun _ H' => Q .non H', rt := Q } (start N vs) H) :
    FnG P w K mg base CX (k + 1) f fd ps sp := by
  obtain ⟨oc, od, kV, doc, pm, an, cdv, ct, osl, rfl, lk, hcd⟩ := F.ex
  exact fnG_lk lk hcd S lens (hb cdv)
/-- .. of a def that lets no exception out -/
theorem fnG0 {x qual : Str} {st : Stmt} {N : List Str} (F : Fun K x qual st f fd) (S : FnScope N ps (defScope st))
    (lens : ∀ vs H Q E, sp vs H Q E → vs.length = ps.length)
    (hb : ∀ (cdv : Value) (A : Around) (outer : List Env) (s : Shared) (H : Hp) (vs : List V) (Q : VK) (E : XK),
      (A.deeper (envOfC qual (defScope st) s.heap.objs.size f cdv)).guards = some [] →
      Room k (A.deeper (envOfC qual (defScope st) s.heap.objs.size f cdv)) → sp vs H Q E →
      ∃ t, PSs (cxOf CX0 P w K mg base N qual (defScope st) f cdv A outer s H E).nox (defBody st) t ∧
        t { nx := fun _ H' => Q .non H', rt := Q } (start N vs) H) :
    FnG P w K mg base CX0 (k + 1) f fd ps sp :=
  fnG_of F S lens (fun cdv A outer s H vs Q E g r h => (hb cdv A outer s H vs Q E g r h).imp (fun _ z => ⟨z.left.nox, z.right⟩))
end

section
variable {X : Cx} {CX : CXT} {k : Nat} {f : Addr} {fd : FuncData} {ps : List Str} {sp : Sp} {dvs : List V} {ds : List Value}
  {E : XK} {x : Str} {p pos : Pos} {e : Expr} {es : List Expr} {t : TA}
theorem runG {pins : List (Addr × Obj)} {σ : L2.St} {H : Hp} {s : Shared} {Q : VK} {us : List Value} {vs : List V}
    (F : FnG X.prog X.w X.K X.mg X.base CX k f fd ps sp) (gd : X.A.guards = some []) (room : Room k X.A)
    (bd : Binds X.K fd ps ds) (dv : Vals dvs ds) (pass : Passes CX X E) (I : Inv X pins σ H s) (r : Vals vs us)
    (h : sp (vs ++ dvs) H Q E) : wpAny (model X.prog X.w) X.A (call (.ref f) us) (EP X pins σ Q) X.xe s := by
  have both : Vals (vs ++ dvs) (us ++ ds) := Vals.append r dv
  have n : (us ++ ds).length = ps.length := both.length.symm.trans (F.lens _ _ _ _ h)
  have run := F.go X.A X.stack s H ⟨us, []⟩ (us ++ ds) (vs ++ dvs) Q E gd room I.env0 (bd s us I.kIn n) both h
  refine wpAny_call (codeAny_mono run ?_)
  intro res s2 z
  cases res with
  | error ex => exact pass pins σ H s ex s2 I z
  | ok fl =>
    cases fl with
    | ret u => exact Inv.after I z
    | next => exact z.elim
    | brk => exact z.elim
    | cont => exact z.elim
/-- f(e, ..) -/
theorem pe_callG (F : FnG X.prog X.w X.K X.mg X.base CX k f fd ps sp) (gd : X.A.guards = some []) (room : Room k X.A) (hg : Gl X x)
    (hm : X.mg x = some (.ref f)) (kp : PySem.W.keepIn X.K (.ref f) = true) (bd : Binds X.K fd ps ds) (dv : Vals dvs ds)
    (pass : Passes CX X E) (ha : PA X (e :: es) t) (hdb : (x == ("__debug__" : Str)) = false := by decide)
    (he : starEach (e :: es) X.env = (false, eval e X.env) :: starEach es X.env := by rfl)
    (hpl : (backTo pos (starEach es X.env)).any (·.1) = false := by rfl) :
    PE X (.Call (.Name x p) (e :: es) [] pos) (tCall sp dvs E t) := by
  constructor
  intro pins s σ H Q I h
  apply wpAny_Call_Name_kw
  apply ld_glob I hg hm _ hdb
  apply PySem.W.callWith_K (h₀ := X.base) I.ok.mod.kin kp _ he hpl
  apply thn (ha.run pos pins s σ H _ I h)
  intro us s1 ⟨vs, H1, I1, r, q⟩
  exact ⟨I1.kIn, runG F gd room bd dv pass I1 r q⟩
/-- f() -/
theorem pe_callG0 (F : FnG X.prog X.w X.K X.mg X.base CX k f fd ps sp) (gd : X.A.guards = some []) (room : Room k X.A) (hg : Gl X x)
    (hm : X.mg x = some (.ref f)) (kp : PySem.W.keepIn X.K (.ref f) = true) (bd : Binds X.K fd ps ds) (dv : Vals dvs ds)
    (pass : Passes CX X E) (hdb : (x == ("__debug__" : Str)) = false := by decide) :
    PE X (.Call (.Name x p) [] [] pos) (tCall sp dvs E tNil) := by
  constructor
  intro pins s σ H Q I h
  apply wpAny_Call_Name_kw
  apply ld_glob I hg hm _ hdb
  exact PySem.W.callWith_K0 I.kIn kp (runG (us := []) F gd room bd dv pass I .nil h)
end
end GG

namespace GG
open PySem PySem.Spec PyProof.Rows L2
/-! ### the end of a law's row, over such a promise -/
section
variable {P : Program} {w : World} {K : PySem.W.Frag} {mg mb : Str → Option Value} {CX : CXT} {k : Nat} {fa a : Addr} {fd : FuncData}
  {x : Str} {sp : Sp} {s₁ : Shared} {vs : List Value} {ns : List Int}
/-- from a heap in which the script alone may be tracked -/
theorem law_coreG {H : Hp} (KX : K.In s₁.heap) (ng : s₁.heap.Ns mainGlobals mg) (nb : s₁.heap.Ns builtinsNs mb)
    (bb : ∀ x : Str, x ≠ "__name__" → mb x = bootBuiltins x) (lim : s₁.heap.NoLimit) (g0 : s₁.gens = #[])
    (ha : s₁.heap.get? a = some { cls := .type "list", data := .seq vs.toArray }) (room : Room k callerA)
    (F : ∀ base : Heap, K.In base → base.Ns mainGlobals mg → FnG P w K mg base CX k fa fd [x] sp)
    (bind : ∀ (s : Shared) (u : Value), BindsTo s fd ⟨[u], []⟩ [(x, u)])
    (want : sp [.ref a] H (fun v _ => v = .bl true) fun _ _ _ => False)
    (noX : ∀ H e s', CX [] H s₁ (fun _ _ _ => False) e s' → False)
    (only : Only H) (ok : HOk P w H s₁.heap) (at_a : ∀ b, H b ≠ none → b = a) (notK : H a ≠ none → K.lookup a = none) :
    codeAny (model P w) callerA (.call (.ref fa) ⟨[.ref a], []⟩)
      (fun r s' => r = .ok (.ret (.bool true)) ∧ OldK s₁.heap s'.heap ∧ s'.os = s₁.os ∧ AllBare s'.gens) s₁ := by
  have dictFree : ∀ {b : Addr} {o : Obj} {es : Array DictEntry} {ep : Nat},
      s₁.heap.get? b = some o → o.data = .dict es ep → H b = none := by
    intro b o es ep e d
    rcases hq : H b with _ | u
    · rfl
    · have ba := at_a b (fun z => by rw [z] at hq; cases hq)
      rw [ba, ha] at e
      cases e
      cases (show Data.seq vs.toArray _ = Data.dict es ep from d)
  have ns : ∀ {b : Addr} {m : Str → Option Value}, s₁.heap.Ns b m → (hidT s₁.heap H).Ns b m := by
    rintro b m ⟨o, es, ep, e, d, r⟩
    exact ⟨o, es, ep, hidT_get e (dictFree e d), d, r⟩
  have KB : K.In (hidT s₁.heap H) := by
    intro b o e
    refine hidT_get (KX b o e) ?_
    rcases hq : H b with _ | u
    · rfl
    · have ba := at_a b (fun z => by rw [z] at hq; cases hq)
      rw [ba] at hq e
      rw [notK (fun z => by rw [z] at hq; cases hq)] at e
      cases e
  have en : Env0 P w K mg (hidT s₁.heap H) callerA [] s₁ H := by
    refine ⟨rfl, ⟨KB, ns ng, ⟨mb, ns nb, bb⟩, ?_⟩, fun b o e => of_hidT e, Nat.le_of_eq (hidT_size _ _), trivial, ?_, ok, .of_eq g0⟩
    · obtain ⟨mc, h1, h2⟩ := lim
      exact ⟨mc, ns h1, h2⟩
    · intro b z
      cases (show b ∈ ([] : List Addr) from z)
  refine codeAny_mono ((F _ KB (ns ng)).go callerA [] s₁ H ⟨[.ref a], []⟩ [.ref a] [.ref a] _ _ rfl room en
    (bind s₁ (.ref a)) (.cons rfl .nil) want) ?_
  intro r s' z
  cases r with
  | error e => exact (noX H e s' z).elim
  | ok fl =>
    cases fl with
    | next => exact z.elim
    | brk => exact z.elim
    | cont => exact z.elim
    | ret u =>
      obtain ⟨v, H', os, bare, un, ok', rv, q⟩ := z
      cases (show v = .bl true from q)
      cases (show u = Value.bool true from rv)
      refine ⟨rfl, OldK.of_keep ?_, os, bare⟩
      intro b o e
      rcases only b with hq | ⟨ob, xs, hq⟩
      · exact un.keep b o e hq (fun z => by cases (show b ∈ ([] : List Addr) from z)) (fun z => by cases z)
      · have f1 := (ok b _ hq).left
        have f2 := (ok' b _ (un.frzs b ob _ hq)).left
        rw [e] at f1
        cases f1
        exact f2
theorem law_callG (KX : K.In s₁.heap) (ng : s₁.heap.Ns mainGlobals mg) (nb : s₁.heap.Ns builtinsNs mb)
    (bb : ∀ x : Str, x ≠ "__name__" → mb x = bootBuiltins x) (lim : s₁.heap.NoLimit) (g0 : s₁.gens = #[])
    (ha : s₁.heap.get? a = some { cls := .type "list", data := .seq vs.toArray }) (hi : IntsAre vs ns) (hl : ns.length ≤ sizeLine)
    (room : Room k callerA) (F : ∀ base : Heap, K.In base → base.Ns mainGlobals mg → FnG P w K mg base CX k fa fd [x] sp)
    (bind : ∀ (s : Shared) (u : Value), BindsTo s fd ⟨[u], []⟩ [(x, u)])
    (want : ∀ H : Hp, Only H → SqL K H a (ns.map V.int) → sp [.ref a] H (fun v _ => v = .bl true) fun _ _ _ => False)
    (noX : ∀ H e s', CX [] H s₁ (fun _ _ _ => False) e s' → False) :
    codeAny (model P w) callerA (.call (.ref fa) ⟨[.ref a], []⟩)
      (fun r s' => r = .ok (.ret (.bool true)) ∧ OldK s₁.heap s'.heap ∧ s'.os = s₁.os ∧ AllBare s'.gens) s₁ := by
  have vi := vals_ints hi
  rcases hk : K.lookup a with _ | o
  · have hH : ∀ b, (fun b => if b = a then some (HO.frz { cls := .type "list", data := .seq vs.toArray } (.lst (ns.map V.int))) else none : Hp) b ≠ none → b = a := by
      intro b z
      by_cases e : b = a
      · exact e
      · exact absurd (if_neg e) z
    refine law_coreG (H := fun b => if b = a then some (HO.frz { cls := .type "list", data := .seq vs.toArray } (.lst (ns.map V.int))) else none)
      KX ng nb bb lim g0 ha room F bind (want _ ?_ (.inl (.inr ⟨_, if_pos rfl⟩))) noX ?_ ?_ hH (fun _ => hk)
    all_goals first
      | (intro b
         by_cases e : b = a
         · exact .inr ⟨_, _, if_pos e⟩
         · exact .inl (if_neg e))
      | (intro b u z
         by_cases e : b = a
         · have z' := (if_pos e).symm.trans z
           cases z'
           rw [e]
           exact ⟨ha, by rw [List.length_map]; exact hl, vs, _, vi, ha⟩
         · have z' := (if_neg e).symm.trans z
           cases z')
  · have e := KX a o hk
    rw [ha] at e
    cases e
    refine law_coreG (H := fun _ => none) KX ng nb bb lim g0 ha room F bind (want _ (fun _ => .inl rfl) ?_) noX (fun _ => .inl rfl) ?_ (fun b z => absurd rfl z) (fun z => absurd rfl z)
    · exact .inr ⟨_, vs.toArray, _, hk, rfl, rfl, rfl, by rw [List.size_toArray, hi.length]; exact hl, by simpa using vi⟩
    · intro b u z
      cases (show (none : Option HO) = some u from z)
end
/-- the goal that the head leaves -/
theorem walkG {l : PySem.W.OpenLaw} {n k : Nat} {q : Program} {loose : List Str} {XP : (Str → Option Value) → Heap → Prop} {YP : World → Heap → Prop}
    {d : DefRec} {K : Params → PySem.W.Frag} {CX : World → CXT} {sp : World → Sp} {x : Str}
    (hn : l.most = some n) (hn2 : n ≤ sizeLine) (hdf : d.params.defaults = []) (room : Room k callerA)
    (hY : ∀ (w : World) (h : Heap), YP w h → (K w.params).In h)
    (F : ∀ (w : World) (mg : Str → Option Value) (fa : Addr) (h : Heap), (K w.params).In h → h.Ns mainGlobals mg → mg d.name = some (.ref fa) →
      ∃ fd : FuncData, (∀ (s : Shared) (u : Value), BindsTo s fd ⟨[u], []⟩ [(x, u)]) ∧
        ∀ base : Heap, (K w.params).In base → base.Ns mainGlobals mg → FnG l.prog w (K w.params) mg base (CX w) k fa fd [x] (sp w))
    (want : ∀ (w : World) (H : Hp) (a : Addr) (ns : List Int), ns.length ≤ n → Only H → SqL (K w.params) H a (ns.map V.int) →
      sp w [.ref a] H (fun v _ => v = .bl true) fun _ _ _ => False)
    (noX : ∀ (w : World) (H : Hp) (s : Shared) (e : Value) (s' : Shared), CX w [] H s (fun _ _ _ => False) e s' → False) :
    PySem.W.WalkO q loose XP YP l.row.toRowW d [] (fun f vs => PySem.call f vs) := by
  apply Att.attach_call hn hdf
  intro w s₀ s₁ mg mb fa o pm cd doc a vs ns G Y ho hd hcd hmg hobj hints hlen hg
  obtain ⟨fd, hb, hF⟩ := F w mg fa _ (hY w _ Y) G.T.g hmg
  exact law_callG (hY w _ Y) G.T.g G.T.b G.T.builtins G.T.nolimit hg hobj hints (Nat.le_trans hlen hn2) room hF hb
    (fun H h1 h2 => want w H a ns hlen h1 h2) (fun H e s' => noX w H s₁ e s')
end GG

namespace GG
open PySem PySem.Spec PyProof.Rows L2
/-! ### repr of data -/
def isDsp : PyData → Bool
  | .list _ => true
  | .tuple _ => true
  | _ => false
/-- repr(x), x nested lists and tuples of bools, ints, texts, None -/
def rRepr (K : PySem.W.Frag) : List V → Hp → VK → Prop := fun xs H Q => ∃ x d, xs = [x] ∧ Dp K H x d ∧
  (d.showable = true ∧ d.hasDict = false ∧ d.depth ≤ 40 ∧ d.shown.length ≤ sizeLine) ∧ Q (.str d.shown) H
theorem call_reprU {X : Cx} (gd : X.A.guards = some []) (un : X.A.units + 64 < cLine) : CallR X (.builtin "repr") (rRepr X.K) := by
  intro pins s σ H xs us Q I r h
  obtain ⟨x, d, rfl, hd, ⟨sh, nod, dep, big⟩, q⟩ := h
  obtain ⟨u, rfl, ru⟩ := vals1 r
  cases d with
  | none =>
    cases hd
    cases (show u = Value.none from ru)
    exact PySem.P.repr_of_none ⟨.str _, H, I.tok _, ⟨_, rfl⟩, by simpa [PyData.shown] using q⟩
  | bool b =>
    cases hd
    cases (show u = Value.bool b from ru)
    exact PySem.P.repr_of_bool ⟨.str _, H, I.tok _, ⟨_, rfl⟩, by simpa [PyData.shown] using q⟩
  | int i =>
    cases hd
    obtain ⟨t, rfl⟩ := (show ∃ t, u = Value.int i t from ru)
    refine PySem.P.repr_of_int (by simpa [PyData.showable] using sh) ⟨.str _, H, I.tok _, ⟨_, rfl⟩, by simpa [PyData.shown] using q⟩
  | str y =>
    cases hd
    obtain ⟨t, rfl⟩ := (show ∃ t, u = Value.str y t from ru)
    exact PySem.P.repr_of_str ⟨.str _, H, I.tok _, ⟨_, rfl⟩, by simpa [PyData.shown] using q⟩ (by simpa [PyData.shown] using big)
  | dict kvs => cases hd
  | list ds =>
    obtain ⟨as, rd⟩ := Dp.reads I _ _ _ hd ru
    cases hd
    cases (show u = Value.ref _ from ru)
    refine repr_of_reads' rd sh (PyData.noDict_hsm nod) gd (by omega) (fun _ _ e => e) (fun h' u tk kept => ?_) big
    exact ⟨.str _, H, I.kept kept, ⟨_, rfl⟩, q⟩
  | tuple ds =>
    obtain ⟨as, rd⟩ := Dp.reads I _ _ _ hd ru
    cases hd
    cases (show u = Value.ref _ from ru)
    refine repr_of_reads' rd sh (PyData.noDict_hsm nod) gd (by omega) (fun _ _ e => e) (fun h' u tk kept => ?_) big
    exact ⟨.str _, H, I.kept kept, ⟨_, rfl⟩, q⟩
theorem call_reprD {X : Cx} {k : Nat} (gd : X.A.guards = some []) (room : Room k X.A) : CallR X (.builtin "repr") (rRepr X.K) := call_reprU gd room.units
/-! ### ** of a great base -/
def CPowW (i j : Int) : Prop := 0 ≤ j ∧ (Builtin.Int.intBits i : Int) * j ≤ 2 ^ 27
theorem op_powW {X : Cx} : OpR X (binaryOp .Pow) (rI CPowW fun i j => .int (i ^ j.toNat)) := opI fun _ _ _ _ _ _ _ hc q => pow_int hc.1 hc.2 q
/-! ### the heap but for one object -/
/-- all that stands in H stands in H', but for what is at l -/
def But (l : Addr) (H H' : Hp) : Prop := ∀ b o, b ≠ l → H b = some o → H' b = some o
theorem But.refl {l : Addr} {H : Hp} : But l H H := fun _ _ _ e => e
theorem But.trans {l : Addr} {H H1 H2 : Hp} (a : But l H H1) (b : But l H1 H2) : But l H H2 := fun c o n e => b c o n (a c o n e)
theorem But.same {l : Addr} {H H1 H2 : Hp} (a : But l H H1) (b : Same H1 H2) : But l H H2 := fun c o n e => b c o (a c o n e)
theorem But.ofSame {l : Addr} {H H1 : Hp} (b : Same H H1) : But l H H1 := fun c o _ e => b c o e
theorem But.new {l p : Addr} {H H1 : Hp} {o : HO} (a : But l H H1) (h : H1 p = none) : But l H (upd H1 p o) := fun c u n e => by
  have e1 := a c u n e
  rw [upd_ne (ne_of_none e1 h)]
  exact e1
theorem But.at {l : Addr} {H : Hp} {o : HO} : But l H (upd H l o) := fun c u n e => by
  rw [upd_ne n]
  exact e
theorem But.seqL {l a : Addr} {K : PySem.W.Frag} {H H' : Hp} {xs : List V} (b : But l H H') (n : a ≠ l) (h : SqL K H a xs) : SqL K H' a xs := by
  rcases h with (h | ⟨o, h⟩) | h
  · exact .inl (.inl (b _ _ n h))
  · exact .inl (.inr ⟨o, b _ _ n h⟩)
  · exact .inr h
theorem But.seqT {l a : Addr} {K : PySem.W.Frag} {H H' : Hp} {xs : List V} (b : But l H H') (n : a ≠ l) (h : SqT K H a xs) : SqT K H' a xs := by
  rcases h with (h | ⟨o, h⟩) | h
  · exact .inl (.inl (b _ _ n h))
  · exact .inl (.inr ⟨o, b _ _ n h⟩)
  · exact .inr h
theorem sameUpd {H : Hp} {p : Addr} {o : HO} (h : H p = none) : Same H (upd H p o) := fun b x e => by
  rw [upd_ne (ne_of_none e h)]
  exact e
/-! ### dice -/
def Dice (H : Hp) (l : Addr) : Prop := ∃ a b c : Int, H l = some (.lst [.int a, .int b, .int c]) ∧ 0 ≤ a
theorem Dice.same {H H' : Hp} {l : Addr} (d : Dice H l) (s : Same H H') : Dice H' l := by
  obtain ⟨a, b, c, e, h⟩ := d
  exact ⟨a, b, c, s _ _ e, h⟩
theorem Dice.new {H : Hp} {l p : Addr} {o : HO} (d : Dice H l) (h : H p = none) : Dice (upd H p o) l := d.same (sameUpd h)
theorem Dice.ne {H : Hp} {l p : Addr} (d : Dice H l) (h : H p = none) : l ≠ p := by
  obtain ⟨a, b, c, e, _⟩ := d
  exact ne_of_none e h
theorem mul60 : CMulW (10 ^ Int.toNat 60) (10 ^ Int.toNat 60) := by
  unfold CMulW
  decide +kernel
theorem pos60 : (0 : Int) < 10 ^ Int.toNat 60 * 10 ^ Int.toNat 60 := by decide +kernel
def spDice (K : PySem.W.Frag) : Sp := fun vs H Q _ => ∃ (a : Addr) (ns : List Int) (spot : Nat), vs = [.ref a, .int spot] ∧ SqL K H a (ns.map V.int) ∧
  spot ≤ 100 ∧ ∀ H' p, Same H H' → H p = none → Dice H' p → Q (.ref p) H'
def spRoll : Sp := fun vs H Q _ => ∃ (l : Addr) (t : Int), vs = [.ref l, .int t] ∧ Dice H l ∧ 0 < t ∧ t < 1073741824 ∧
  ∀ H' (r : Int), But l H H' → Dice H' l → 0 ≤ r → r < t → Q (.int r) H'
def spPick (K : PySem.W.Frag) : Sp := fun vs H Q _ => ∃ (l a : Addr) (xs : List V), vs = [.ref l, .ref a] ∧ Dice H l ∧ a ≠ l ∧
  (SqL K H a xs ∨ SqT K H a xs) ∧ 0 < xs.length ∧ xs.length ≤ 1000 ∧
  ∀ H' (i : Nat) (v : V), But l H H' → Dice H' l → xs[i]? = some v → Q v H'
end GG

set_option maxHeartbeats 4000000
namespace PySem
namespace GX
open PySem.W PySem.Calls PyProof.Rows PySem.HandSPX
/-! ### own exceptions with one field over any of the built-in classes -/
/-- what the written part says of the class named cn at C (its field fld), and of its __init__, at fI -/
structure OwnX (K : Frag) (mg : Str → Option Value) (cn fld : Str) (bmB : List Value) (newId : String) (C fI : Addr) : Prop where
  gC : mg cn = some (.ref C)
  cls : ∃ nm q N bs bm sn sub ab col dd k0 k1 k2 k3 k5, K.lookup C = some (excClassObj nm q C N bs bm true sn sub ab col dd k0 k1 k2 k3 k5 newId) ∧ excTail bmB bm = true
  sa : findIn K (.ref C) "__setattr__" = some (some (.builtin "object.__setattr__"))
  ga : findIn K (.ref C) "__getattribute__" = some (some (.builtin "BaseException.__getattribute__"))
  gg : findIn K (.ref C) "__getattr__" = some none
  noN : findIn K (.ref C) fld = some none
  iC : findIn K (.ref C) "__init__" = some (some (.ref fI))
  tC : typeIn K (.ref fI) = some (.type "function")
  kC : keepIn K (.ref C) = true
  exC : subIn K (.ref C) (.type "BaseException") = some true
  tyC : typeIn K (.ref C) = some (.type "type")
  hdC : hasDictIn K C = true
  te : exmOne K (.ref C) (.ref C) = some true
/-- what __init__ leaves of a fresh exception at x -/
structure Inited (fld : Str) (h h' : Heap) (x C dx t1 : Addr) (v : Value) : Prop where
  keep : ∀ b o, b ≠ x → h.get? b = some o → h'.get? b = some o
  obj : h'.get? x = some { cls := .ref C, dict := some dx, data := .fields #[.ref t1, .none, .none, .none, .bool false, .none] }
  dbig : h.objs.size ≤ dx
  dne : dx ≠ x
  ns : h'.Ns1 dx (fun y => if y = fld then some v else none)
/-- a made one -/
structure MadeX (fld : Str) (h h' : Heap) (e C d : Addr) (v : Value) : Prop where
  keep : ∀ b o, h.get? b = some o → h'.get? b = some o
  new : h.objs.size ≤ e
  obj : ∃ t1, h'.get? e = some { cls := .ref C, dict := some d, data := .fields #[.ref t1, .none, .none, .none, .bool false, .none] }
  dbig : h.objs.size ≤ d
  dne : d ≠ e
  ns : h'.Ns1 d (fun y => if y = fld then some v else none)
/-- the __init__ at fI stores its argument -/
def InitOk (K : Frag) (fld : Str) (C fI : Addr) : Prop :=
  ∀ (prog : Program) (w : World) (A : Around) (R : Result → Shared → Prop) (s : Shared) (x t0 : Addr) (v : Value), K.In s.heap → s.heap.NoLimit →
    s.heap.get? x = some (excO C t0) → K.lookup x = none → A.depth < recursionLimit →
    (∀ h' tk dx, Inited fld s.heap h' x C dx t0 v → R (.ok (.ret .none)) { s with heap := h', toks := tk }) →
    codeAny (model prog w) A (.call (.ref fI) ⟨[.ref x, v], []⟩) R s
theorem single_size (v : Value) : [v].length ≤ sizeLine := by
  rw [sizeLine_eq]
  exact (by decide : 1 ≤ 16777216)
theorem loadLoc {M : Model} {s : Shared} {name : Str} {scope : Scope} {L a : Addr} {cd : Value} {m : Str → Option Value} {x : Str} {pos : Pos} {v : Value} {Q : Value → Shared → Prop} {A : Around} {E : Value → Shared → Prop}
    (hn : s.heap.Ns L m) (hv : m x = some v) (h : Q v s) (hk : scope.kind = .function := by rfl)
    (hl : (envOfC name scope L a cd).kindOf x = some .local := by rfl) (hd : (x == ("__debug__" : Str)) = false := by decide) :
    wpAny M A (eval (.Name x pos) (envOfC name scope L a cd)) Q E s := wpAny_Name (wpAny_loadName_local hk hl hn hv h) hd
section
open Builtin Builtin.ObjectAttr
variable {prog : Program} {w : World} {A : Around} {E : Value → Shared → Prop} {R : Result → Shared → Prop} {hp : Heap} {g : Array GenState} {d : Drawn} {t : Nat} {os : OsState} {B newId initId : String} {bmB : List Value}
/-- self.name = v on such an exception that has no dict yet -/
theorem osaX {K : Frag} {name : Str} {tk : Tok} {v : Value} {x C : Addr} {fv : Array Value} {cd : ClassData} (SF : StoreFacts B bmB "object.__setattr__" "object")
    (X : K.In hp) (hx : hp.get? x = some { cls := .ref C, data := .fields fv }) (hcd : clsIn K C = some cd) (hov : excOver K C bmB = true)
    (hh : cd.hasDict = true) (ha : findIn K (.ref C) name = some none)
    (hq : ∀ h' tk' dx, (∀ b o, b ≠ x → hp.get? b = some o → h'.get? b = some o) → hp.objs.size ≤ dx → dx ≠ x →
      h'.get? x = some { cls := .ref C, dict := some dx, data := .fields fv } →
      h'.Ns1 dx (fun y => if y = name then some v else none) → R (.ok (.ret .none)) ⟨h', g, d, tk', os⟩) :
    codeAny (model prog w) A (.call (.builtin "object.__setattr__") ⟨[.ref x, .str name tk, v], []⟩) R ⟨hp, g, d, t, os⟩ := by
  have I : InstAt hp x { cls := .ref C, data := .fields fv } C none := ⟨hx, rfl, rfl, trivial⟩
  have xs : x ≠ hp.objs.size := Nat.ne_of_lt (Heap.lt_size hx)
  have taker : takerIn K C name = some none := by
    unfold takerIn
    rw [ha]
    rfl
  refine osa_openX (s := ⟨hp, g, d, t, os⟩) SF X I hov taker ?_
  intro b
  have lc : Looks (model prog w) hp (classData C) cd := looks_clsIn X hcd
  show wpAny _ _ (storeInOwnDict (.ref x) (.ref C) (.str name tk) name v b) _ _ _
  obtain ⟨nm, bs, mro, ns, qn, hd, sn, sb, ab, col, del⟩ := cd
  dsimp only at hh
  subst hh
  unfold storeInOwnDict ownDictForStores
  repeat (first
    | with_reducible refine store_in_new ?_ ?_
    | with_reducible refine wpAny_loadPart_at hx ?_
    | with_reducible refine lc.at ?_
    | wp_step)
  · refine ⟨_, #[], _, (Heap.get?_update_ne _ _ _ _ xs.symm).trans (Heap.get?_push_at rfl rfl), rfl, ?_, fun _ => rfl⟩
    intro e he
    exact absurd he (by simp)
  · intro h' tk' n1 sb1
    have there : (hp.push { cls := .type "dict", data := .dict #[] }).get? x = some { cls := .ref C, data := .fields fv } := Heap.get?_push_of_some _ hx
    apply hq h' tk' hp.objs.size _ (Nat.le_refl _) xs.symm _ n1
    · intro b o nb ho
      refine (sb1.2 b (Nat.ne_of_lt (Heap.lt_size ho))).trans ?_
      exact (Heap.get?_update_ne _ _ _ _ nb).trans (Heap.get?_push_of_some _ ho)
    · exact (sb1.2 x xs).trans (Heap.get?_update_self _ there rfl)
end
section
variable {prog : Program} {w : World} {A : Around} {R : Result → Shared → Prop} {s : Shared} {K : Frag} {mg : Str → Option Value} {C fI : Addr} {cn fld : Str} {B newId initId : String} {bmB : List Value}
theorem OwnX.over (T : OwnX K mg cn fld bmB newId C fI) : ∃ cd, clsIn K C = some cd ∧ excOver K C bmB = true ∧ cd.hasDict = true := by
  obtain ⟨nm, q, N, bs, bm, sn, sub, ab, col, dd, k0, k1, k2, k3, k5, hC, hbm⟩ := T.cls
  have hcl : clsIn K C = some { name := nm, bases := bs, mro := .ref C :: bm, ns := N, qualname := q, hasDict := true, slotNames := sn, subclasses := sub, abstract := ab, collection := col, hasDel := false } := by
    unfold clsIn
    rw [hC] <;> rfl
  refine ⟨_, hcl, ?_, rfl⟩
  unfold excOver
  rw [hcl]
  show (C == C && excTail bmB bm) = true
  rw [hbm, Bool.and_true]
  exact beq_self_eq_true C
/-- C(v) -/
theorem madeX (F : ExcBaseFacts B newId initId bmB) (T : OwnX K mg cn fld bmB newId C fI) (init : InitOk K fld C fI) {v : Value} (X : K.In s.heap)
    (lim : s.heap.NoLimit) (deep : A.depth + 1 < recursionLimit)
    (hq : ∀ h' tk e d, MadeX fld s.heap h' e C d v → R (.ok (.ret (.ref e))) { s with heap := h', toks := tk }) :
    codeAny (model prog w) A (.call (.ref C) ⟨[v], []⟩) R s := by
  obtain ⟨nm, q, N, bs, bm, sn, sub, ab, col, dd, k0, k1, k2, k3, k5, hC, hbm⟩ := T.cls
  obtain ⟨hp, g, dr, tk, os⟩ := s
  have grown : ∀ b o, hp.get? b = some o → ((hp.push (kdv_tup [v])).push (excO C hp.objs.size)).get? b = some o :=
    fun b o e => Heap.get?_push_of_some _ (Heap.get?_push_of_some _ e)
  have fresh : ((hp.push (kdv_tup [v])).push (excO C hp.objs.size)).get? (hp.objs.size + 1) = some (excO C hp.objs.size) := by heap_get
  have notK : K.lookup (hp.objs.size + 1) = none := by
    rcases e : K.lookup (hp.objs.size + 1) with _ | o
    · rfl
    · exact absurd (Nat.lt_of_succ_lt (Heap.lt_size (show hp.get? (hp.objs.size + 1) = some o from X _ _ e))) (Nat.lt_irrefl _)
  refine HandSPX.call_own F (fun T => excTail_contains T bm hbm) (X _ _ hC) (looks_findIn X T.iC) (fun self => bind_fn X self T.tC) (single_size v) ?_
  refine init prog w _ _ ⟨(hp.push (kdv_tup [v])).push (excO C hp.objs.size), g, dr, tk, os⟩ _ _ v (X.keeps grown) (lim.keeps grown) fresh notK deep ?_
  intro h' tk' dx ⟨k', hx, dn, dne, hns⟩
  have old : ∀ b o, hp.get? b = some o → h'.get? b = some o :=
    fun b o e => k' b o (Nat.ne_of_lt (Nat.lt_succ_of_lt (Heap.lt_size e))) (grown b o e)
  have z : hp.objs.size + 1 + 1 ≤ dx := by
    first
      | (simpa only [Heap.size_push] using dn)
      | exact dn
      | (have q := dn; rw [Heap.size_push, Heap.size_push] at q; exact q)
  exact ⟨rfl, hq h' tk' (hp.objs.size + 1) dx ⟨old, Nat.le_succ _, ⟨_, hx⟩, Nat.le_trans (Nat.le_trans (Nat.le_succ _) (Nat.le_succ _)) z, dne, hns⟩⟩
end
end GX
end PySem
namespace GG
open PySem PySem.Spec PyProof.Rows L2
theorem relX {fld : Str} {v : V} {v' : Value} (r : RelV v v') (f : Str) : RelO (List.lookup f [(fld, v)]) (if f = fld then some v' else none) := by
  by_cases hw : f = fld
  · subst hw
    rw [if_pos rfl]
    have q : List.lookup f [(f, v)] = some v := by simp [List.lookup]
    rw [q]
    exact r
  · rw [if_neg hw]
    have qw : (f == fld) = false := by simpa using hw
    have q2 : List.lookup f [(fld, v)] = none := by simp [List.lookup, qw]
    rw [q2]
    trivial
section
variable {X : Cx} {C fI : Addr} {cn fld : Str} {B newId initId : String} {bmB : List Value}
/-- X(e), to be raised -/
def tMkX (C : Addr) (fld : Str) (ta : TA) : L2.St → Hp → XK → Prop := fun σ H Q => ta σ H fun vs H1 => ∃ v, vs = [v] ∧ ∀ d, H1 d = none → Q (.ref C) (some d) (upd H1 d (.xd [(fld, v)]))
theorem pmkX {a : Expr} {ta : TA} {p pos : Pos} {k : Nat} (F : ExcBaseFacts B newId initId bmB) (T : PySem.GX.OwnX X.K X.mg cn fld bmB newId C fI) (init : PySem.GX.InitOk X.K fld C fI) (hr : Room k X.A) (ha : PA X [a] ta)
    (hg : Gl X cn := by rfl) (hdb : (cn == ("__debug__" : Str)) = false := by decide)
    (he : starEach (a :: []) X.env = (false, eval a X.env) :: starEach [] X.env := by rfl) (hpl : (backTo pos (starEach [] X.env)).any (·.1) = false := by rfl) :
    PMk X (.Call (.Name cn p) [a] [] pos) (tMkX C fld ta) := by
  intro pins s σ H Q I h
  refine wpAny_Call_Name_kw (ld_glob I hg T.gC ?_ hdb)
  refine PySem.W.callWith_K (h₀ := X.base) I.ok.mod.kin T.kC (thn (ha.run pos pins s σ H _ I h) ?_) he hpl
  intro us s1 hh
  obtain ⟨vs, H1, I1, r1, v, ev, q1⟩ := hh
  subst ev
  refine ⟨I1.kIn, ?_⟩
  obtain ⟨v', rfl, rv⟩ := vals1 r1
  show wpAny _ _ (call (.ref C) [v']) _ _ _
  have hlim := I1.nolimit
  obtain ⟨hp, g, dr, tk, os⟩ := s1
  have room2 := hr.dp
  refine wpAny_call (PySem.GX.madeX F T init I1.kIn hlim (by omega) fun h' tk' e d M => ?_)
  show MkP X pins σ Q (.ref e) ⟨h', g, dr, tk', os⟩
  obtain ⟨t1, hoe⟩ := M.obj
  have hns := M.ns
  obtain ⟨G', g1, g2⟩ := restrict h' fun b => decide (b ≠ e)
  have gk : ∀ b, b ≠ e → G'.get? b = h'.get? b := fun b hb => g1 b (decide_eq_true hb)
  have ge : G'.get? e = none := g2 e (by simp)
  have old : ∀ b o, hp.get? b = some o → G'.get? b = some o := by
    intro b o q
    exact (gk b (Nat.ne_of_lt (Nat.lt_of_lt_of_le (Heap.lt_size q) M.new))).trans (M.keep b o q)
  have ob : ObjOk X.prog X.w (upd H1 d (.xd [(fld, v)])) G' d (.xd [(fld, v)]) :=
    ⟨_, hns.at (fun o q => (gk d M.dne).trans q), fun f => relX rv f⟩
  have J : Inv X pins σ (upd H1 d (.xd [(fld, v)])) ⟨G', g, dr, tk', os⟩ := I1.laid (t' := tk') old M.dbig ob
  refine ⟨e, _, _, ⟨G', g, dr, tk', os⟩, _, .ref C, some d, rfl, J, fun b o q => ?_, ge, hoe, ⟨rfl, rfl⟩, rfl, rfl, ?_, rfl, I1.bare, raises_own T.exC T.tyC, q1 d (I1.hok.fresh M.dbig)⟩
  · by_cases hb : b = e
    · have q' : G'.get? b = some o := q
      rw [hb, ge] at q'
      cases q'
    · exact (gk b hb).symm.trans q
  · rw [upd_ne (Ne.symm M.dne)]
    exact I1.hok.fresh M.new
/-- raise X(e) -/
def tRaiseX (C : Addr) (fld : Str) (W : WX) (ta : TA) : TS := fun _ σ H => tMkX C fld ta σ H fun cls d H' => W cls d σ H'
theorem ps_raiseX {a : Expr} {ta : TA} {W : WX} {p pos pos2 : Pos} {k : Nat} (F : ExcBaseFacts B newId initId bmB) (hc : X.calm = true) (T : PySem.GX.OwnX X.K X.mg cn fld bmB newId C fI) (init : PySem.GX.InitOk X.K fld C fI)
    (hr : Room k X.A) (tk : Takes X W) (ha : PA X [a] ta) (hg : Gl X cn := by rfl) (hdb : (cn == ("__debug__" : Str)) = false := by decide)
    (he : starEach (a :: []) X.env = (false, eval a X.env) :: starEach [] X.env := by rfl) (hpl : (backTo pos (starEach [] X.env)).any (·.1) = false := by rfl) :
    PS X (.Raise (some (.Call (.Name cn p) [a] [] pos)) none pos2) (tRaiseX C fld W ta) := ps_raise hc tk (pmkX F T init hr ha hg hdb he hpl)
/-- e.fld, e the exception that the suite holds (at a; its class cls, its dict d) -/
def tByX (C : Addr) (fld : Str) (a : Addr) (cls : Value) (d : Option Addr) (te : TE) : TE := fun σ H Q => te σ H fun x H1 => x = .ref a ∧ cls = .ref C ∧ ∃ (dd : Addr) (v : V), d = some dd ∧ H1 dd = some (.xd [(fld, v)]) ∧ Q v H1
theorem pe_byX {a : Addr} {oe : Obj} {cls : Value} {d : Option Addr} {pn : List (Addr × Obj)} {e : Expr} {te : TE} {pos : Pos} (T : PySem.GX.OwnX X.K X.mg cn fld bmB newId C fI) (hz : Zc cls d oe) (hf : ∃ vs, oe.data = .fields vs)
    (he : PE (X.suite a ((a, oe) :: pn)) e te) (hb : attributeBase e fld X.env (eval e X.env) = eval e X.env := by rfl) :
    PE (X.suite a ((a, oe) :: pn)) (.Attribute e fld pos) (tByX C fld a cls d te) := by
  refine ⟨fun pins s σ H Q I h => ?_⟩
  refine attr_of hb (thn (he.run pins s σ H _ I h) ?_)
  intro u s1 hh
  obtain ⟨x, H1, I1, rx, ex, ec, dd, v, ed, ea, q⟩ := hh
  subst ex ec ed
  obtain rfl : u = Value.ref a := rx
  obtain ⟨ha, _⟩ := I1.pin (a, oe) (List.mem_append_left _ List.mem_cons_self)
  obtain ⟨vs, hd⟩ := hf
  have hx : ObjOk X.prog X.w H1 s1.heap dd (.xd [(fld, v)]) := I1.hok dd _ ea
  obtain ⟨mA, hns, hr⟩ := hx
  obtain ⟨od, ho, hl⟩ := lookIn_ns hns
  have l : List.lookup fld [(fld, v)] = some v := by simp [List.lookup]
  obtain ⟨u, hu, ru⟩ := RelO.some_of (v := v) (o := mA fld) (by rw [← l]; exact hr fld)
  have J : PySem.W.InstAt s1.heap a oe C (some od) := ⟨ha, hz.1, by unfold PySem.W.notCls; rw [hd] <;> rfl, by rw [hz.2]; exact ho⟩
  exact HandSPX.exc_get I1.kIn J T.ga T.gg T.exC (PySem.W.findObj_own T.hdC T.noN rfl (by rw [hl, hu])) (handed_of ru) ⟨v, H1, I1.tok _, ru, q⟩
end
end GG

set_option maxHeartbeats 4000000
namespace GG
open PySem PySem.Spec PyProof.Rows L2
/-! ### several except clauses, with a name or without -/
/-- behind a suite whose exception is named in slot i -/
def offI (i : Nat) (D : Ends) : Ends :=
  { nx := fun σ H => D.nx (σ.set i none) H, rt := D.rt, bk := fun σ H => D.bk (σ.set i none) H, ct := fun σ H => D.ct (σ.set i none) H }
abbrev Clause := Value × Option Nat × (Addr → Value → Option Addr → TS)
def wClauses (K : PySem.W.Frag) (Wout : WX) (D : Ends) : List Clause → WX
  | [] => Wout
  | (c, none, ts) :: r => fun cls d σ H => ∃ b, PySem.W.exmOne K cls c = some b ∧ (b = true → ∀ a, H a = none → ts a cls d D σ H) ∧ (b = false → wClauses K Wout D r cls d σ H)
  | (c, some i, ts) :: r => fun cls d σ H => ∃ b, PySem.W.exmOne K cls c = some b ∧
      (b = true → ∀ a, H a = none → ts a cls d (offI i D) (σ.set i (some (.ref a))) H) ∧ (b = false → wClauses K Wout D r cls d σ H)
inductive Clauses (X : Cx) : List ExceptHandler → List Clause → Prop
  | nil : Clauses X [] []
  | plain {x : Str} {c : Value} {ts : Addr → Value → Option Addr → TS} {b₀ : Stmt} {suite : List Stmt} {np pos' : Pos} {hds : List ExceptHandler} {l : List Clause} (hc : Names X x c)
      (hsu : ∀ (a : Addr) (oe : Obj) (cls : Value) (d : Option Addr) (pn : List (Addr × Obj)), Zc cls d oe → (∃ vs, oe.data = .fields vs) →
        PSs (X.suite a ((a, oe) :: pn)) (b₀ :: suite) (ts a cls d))
      (r : Clauses X hds l) : Clauses X (.ExceptHandler (some (.Name x np)) none (b₀ :: suite) pos' :: hds) ((c, none, ts) :: l)
  | named {x n : Str} {i : Nat} {c : Value} {ts : Addr → Value → Option Addr → TS} {b₀ : Stmt} {suite : List Stmt} {np pos' : Pos} {hds : List ExceptHandler} {l : List Clause}
      (hN : X.N.Nodup) (hi : X.N[i]? = some n) (hln : X.env.kindOf n = some .local) (hc : Names X x c)
      (hsu : ∀ (a : Addr) (oe : Obj) (cls : Value) (d : Option Addr) (pn : List (Addr × Obj)), Zc cls d oe → (∃ vs, oe.data = .fields vs) →
        PSs (X.suite a ((a, oe) :: pn)) (b₀ :: suite) (ts a cls d))
      (r : Clauses X hds l) : Clauses X (.ExceptHandler (some (.Name x np)) (some n) (b₀ :: suite) pos' :: hds) ((c, some i, ts) :: l)
section
variable {X : Cx} {body : List Stmt} {h₀ : ExceptHandler} {hds : List ExceptHandler} {l : List Clause} {pos : Pos} {tb : WX → TS} {Wout : WX}
/-- the handlers, met by the exception at a in flight -/
theorem clauses_go {pins : List (Addr × Obj)} {σ' : L2.St} {H' : Hp} {sI s' : Shared} {a : Addr} {B : Heap} {cls : Value} {d : Option Addr} {D : Ends}
    (hs : X.stack = X.env :: X.outer) (hf : X.env.frame = some X.env.locals) (tk : Takes X Wout) (J : Inv X pins σ' H' sI)
    (nb : ∀ b o, sI.heap.get? b = some o → b ∉ frs X.stack → B.get? b = some o) (up : sI.heap.UpToSlots s'.heap) (na : H' a = none)
    (os : s'.os = sI.os) (ag : AllBare s'.gens) {h3 : Heap} (fl3 : HandSPX.FlyingZ B (X.env :: X.outer) a (Zc cls d) h3) (up3 : s'.heap.UpToSlots h3)
    {k : List ExceptHandler} {m : List Clause} (C : Clauses X k m) :
    wClauses X.K Wout D m cls d σ' H' → wpAny (model X.prog X.w) X.A (handleBy (.ref a) X.env k) (SP X pins D) X.xe { s' with heap := h3 } := by
  have ok := J.ok
  have upA := up.trans up3
  have J3 : Inv X pins σ' H' { s' with heap := h3 } := J.landed nb fl3.1 upA os ag
  obtain ⟨oe3, vs3, he3, hz3, hd3⟩ := fl3.there
  have outside : a ∉ frs (X.env :: X.outer) := by
    intro hm
    obtain ⟨_, o', e', hnf⟩ := fl3.2.2.1.mem hm
    rw [he3] at e'
    cases e'
    exact hnf _ hd3
  have nL : a ≠ X.env.locals := fun z => outside (List.mem_filterMap.mpr ⟨X.env, List.mem_cons_self, by rw [hf, z]⟩)
  have nF : a ∉ X.fs := by
    intro hm
    obtain ⟨e, he, q⟩ := List.mem_filterMap.mp hm
    exact outside (List.mem_filterMap.mpr ⟨e, List.mem_cons_of_mem _ he, q⟩)
  have S3 := J3.suite he3 hd3 na nL nF
  have look : ∀ {x : Str} {c : Value} {np : Pos} {Q : Value → Shared → Prop} {E : Value → Shared → Prop}, Names X x c → Q c { s' with heap := h3 } →
      wpAny (model X.prog X.w) (X.A.mark (some (.ref a))) (eval (.Name x np) X.env) Q E { s' with heap := h3 } := by
    intro x c np Q E hc q
    obtain ⟨hg, hdbg, hm | ⟨hm, hv, hnn⟩⟩ := hc
    · exact ld_glob (X := X.suite a ((a, oe3) :: (X.pn ++ pins))) S3 hg hm q hdbg
    · exact ld_blt (X := X.suite a ((a, oe3) :: (X.pn ++ pins))) S3 hg hm hv q hnn hdbg
  have kindA : PySem.W.Looks (model X.prog X.w) h3 (typeOf (.ref a)) cls := by
    intro A Q E s kp q
    exact wpAny_typeOf_ref (kp _ _ he3) (by rw [hz3.1]; exact q)
  induction C with
  | nil =>
    intro wish
    refine wpAny_handleBy_nil ?_
    obtain ⟨k1, k2, k3, oe, vs, T, oT, ts', he, hz, hd, h1, hr⟩ := id fl3
    unfold PySem.passOn
    refine wpAny_bind (wpAny_field he hd h1 ?_)
    rw [if_neg (show ¬ ((Value.ref T == Value.none) = true) from by simp)]
    have out : wpAny (model X.prog X.w) X.A (setFlight (.ref a) X.env.frame)
        (fun _ s4 => wpAny (model X.prog X.w) X.A (throw (.ref a) : Sem Flow) (SP X pins D) X.xe s4) X.xe { s' with heap := h3 } := by
      rw [hf]
      refine HandSPX.setFlight_upZ fl3 fun h4 hh4 up4 => wpAny_throw (tk _ _ ?_)
      exact ⟨a, B, sI, pins, σ', H', cls, d, rfl, J, nb, upA.trans up4, .inr (.inr (by rw [hs]; exact hh4)), na, os, ag, wish⟩
    first
      | exact wpAny_bind (wpAny_pure (wpAny_bind out))
      | exact wpAny_bind out
  | @plain x c ts b₀ suite np pos' hds2 l2 hc hsu r ih =>
    intro wish
    obtain ⟨b, hb1, yes, no⟩ := wish
    refine wpAny_handleBy_cons (codeAny_handlers_test ?_) (by intro q; cases q)
    have LM := PySem.W.exm_one (M := model X.prog X.w) (J3.kIn) kindA hb1
    refine look hc (LM.here ?_)
    cases b with
    | false => exact ih (no rfl)
    | true =>
      refine codeAny_handlers_suite (HandSPX.lands_againZ fl3 fun h4 fl4 up4 => ?_)
      have J4 : Inv X pins σ' H' { s' with heap := h4 } := J.landed nb fl4.1 (upA.trans up4) os ag
      obtain ⟨oe4, vs4, he4, hz4, hd4⟩ := fl4.there
      have S4 := J4.suite he4 hd4 na nL nF
      refine wpAny_mono ((hsu a oe4 cls d (X.pn ++ pins) hz4 ⟨_, hd4⟩).run [] _ _ H' _ S4 (yes rfl a na)) (fun f s6 hsp => ?_) (fun _ _ z => False.elim z)
      cases f with
      | next => exact hsp.imp fun _ z => z.imp fun _ z => ⟨z.1.unsuite ok, z.2⟩
      | brk => exact hsp.imp fun _ z => z.imp fun _ z => ⟨z.1.unsuite ok, z.2⟩
      | cont => exact hsp.imp fun _ z => z.imp fun _ z => ⟨z.1.unsuite ok, z.2⟩
      | ret u => exact hsp.imp fun _ z => z.imp fun _ z => z.imp fun _ z => ⟨z.1.unsuite ok, z.2⟩
  | @named x n i c ts b₀ suite np pos' hds2 l2 hN hi hln hc hsu r ih =>
    intro wish
    obtain ⟨b, hb1, yes, no⟩ := wish
    refine wpAny_handleBy_cons (codeAny_handlers_test ?_) (by intro q; cases q)
    have LM := PySem.W.exm_one (M := model X.prog X.w) (J3.kIn) kindA hb1
    refine look hc (LM.here ?_)
    cases b with
    | false => exact ih (no rfl)
    | true =>
      refine codeAny_handlers_suite_as (HandSPX.lands_againZ fl3 fun h4 fl4 up4 => ?_)
      have J4 : Inv X pins σ' H' { s' with heap := h4 } := J.landed nb fl4.1 (upA.trans up4) os ag
      obtain ⟨oe4, vs4, he4, hz4, hd4⟩ := fl4.there
      have S4 := J4.suite he4 hd4 na nL nF
      refine store_ok (X := X.suite a ((a, oe4) :: (X.pn ++ pins))) (v := .ref a) S4 hN hi (.inl hln) rfl (fun s5 S5 => ?_) (.inr hln)
      refine wpAny_mono ((hsu a oe4 cls d (X.pn ++ pins) hz4 ⟨_, hd4⟩).run [] s5 _ H' _ S5 (yes rfl a na)) (fun f s6 hsp => ?_) (fun _ _ z => False.elim z)
      have gone : ∀ {σ6 : L2.St} {H6 : Hp} {Q : Shared → Prop}, Inv (X.suite a ((a, oe4) :: (X.pn ++ pins))) [] σ6 H6 s6 → (∀ s7, Inv X pins (σ6.set i none) H6 s7 → Q s7) →
          wpAny (model X.prog X.w) X.A (do bindName X.env n .none; unbindBehindTheSuite X.env n pos') (fun _ s7 => Q s7) X.xe s6 :=
        fun {σ6 H6 Q} S6 hq => gone_ok (S6.unsuite ok) hN hi hln hq
      cases f with
      | next =>
        obtain ⟨σ6, H6, S6, q6⟩ := hsp
        exact gone S6 fun s7 J7 => ⟨_, _, J7, q6⟩
      | brk =>
        obtain ⟨σ6, H6, S6, q6⟩ := hsp
        exact gone S6 fun s7 J7 => ⟨_, _, J7, q6⟩
      | cont =>
        obtain ⟨σ6, H6, S6, q6⟩ := hsp
        exact gone S6 fun s7 J7 => ⟨_, _, J7, q6⟩
      | ret u =>
        obtain ⟨v6, σ6, H6, S6, r6, q6⟩ := hsp
        exact gone S6 fun s7 J7 => ⟨_, _, _, J7, r6, q6⟩
/-- try: .. except X as e: .. except Y: .. -/
theorem ps_tryC (hs : X.stack = X.env :: X.outer) (hf : X.env.frame = some X.env.locals) (tk : Takes X Wout)
    (hb : ∀ (W : WX) (pn : List (Addr × Obj)) (xe : Value → Shared → Prop), Takes (X.tr pn xe) W → PassesOwn (model X.prog X.w) X.A X.env xe → PSs (X.tr pn xe) body (tb W))
    (hh : Clauses X (h₀ :: hds) l) : PS X (.Try body (h₀ :: hds) [] [] pos) (fun D σ H => tb (wClauses X.K Wout D l) D σ H) := by
  constructor
  intro pins s σ H D I h
  have ok := I.ok
  have fr : X.A.frames = some (X.env :: X.outer) := by rw [ok.frames, hs]
  refine wpAny_Try_except ?_
  have meet : Takes (X.tr (X.pn ++ pins) (fun e s₁ => wpAny (model X.prog X.w) X.A (noteFrame e X.env) (fun _ s₂ => wpAny (model X.prog X.w) X.A (setFlight e none)
      (fun _ s₃ => wpAny (model X.prog X.w) X.A (handleBy e X.env (h₀ :: hds)) (SP X pins D) X.xe s₃) X.xe s₂) X.xe s₁)) (wClauses X.K Wout D l) := by
    intro u s' xx
    obtain ⟨a, B, sI, pins', σ', H', cls, d, rfl, J', nb, up, sky, na, os, ag, wish⟩ := xx
    have sky' : Sky B (X.env :: X.outer) a (Zc cls d) X.env.locals s'.heap := by rw [← hs]; exact sky
    show wpAny (model X.prog X.w) X.A (noteFrame (.ref a) X.env) _ _ _
    exact Sky.land Zc.steady fr hf sky' fun h3 fl3 up3 => clauses_go hs hf tk (J'.ofTry ok) nb up na os ag fl3 up3 hh wish
  have run := (hb _ _ _ meet PassesOwn.looking).run [] s σ H D (I.toTry _) h
  refine wpAny_mono run (fun f s1 hsp => ?_) (fun e s1 he => he)
  cases f with
  | next =>
    obtain ⟨σ', H', J', q⟩ := hsp
    exact wpAny_execs_nil ⟨σ', H', J'.ofTry ok, q⟩
  | brk => exact hsp.imp fun _ z => z.imp fun _ z => ⟨z.1.ofTry ok, z.2⟩
  | cont => exact hsp.imp fun _ z => z.imp fun _ z => ⟨z.1.ofTry ok, z.2⟩
  | ret u => exact hsp.imp fun _ z => z.imp fun _ z => z.imp fun _ z => ⟨z.1.ofTry ok, z.2⟩
end
end GG

set_option maxHeartbeats 4000000
namespace GG
open PySem PySem.Spec PyProof.Rows L2 LamX
/-! ### the end of a law's row whose text makes lambdas -/
section
variable {P : Program} {w : World} {K : PySem.W.Frag} {mg mb : Str → Option Value} {CX : CXT} {k : Nat} {fa a : Addr} {cs : List (Addr × Addr)} {fd : FuncData}
  {x : Str} {sp : Sp} {s₁ : Shared} {vs : List Value} {ns : List Int}
theorem law_coreM {H : Hp} (KX : K.In s₁.heap) (ng : s₁.heap.Ns mainGlobals mg) (nb : s₁.heap.Ns builtinsNs mb)
    (bb : ∀ x : Str, x ≠ "__name__" → mb x = bootBuiltins x) (lim : s₁.heap.NoLimit) (sm : ∃ mm, s₁.heap.Ns sysModules mm) (g0 : s₁.gens = #[])
    (empties : ∀ p ∈ cs, s₁.heap.get? p.2 = some { cls := .none, data := .fields #[] }) (notT : ∀ p ∈ cs, K.lookup p.2 = none)
    (code : ∀ p ∈ cs, PySem.W.CodeHd s₁.heap p.1 p.2)
    (hbm : ∃ (bm : Addr) (ob : Obj), mg "__builtins__" = some (.ref bm) ∧ bm ≠ builtinsNs ∧ s₁.heap.get? bm = some ob ∧ ob.cls = .type "module" ∧ ob.dict = some builtinsNs ∧ ob.data = .plain)
    (ha : s₁.heap.get? a = some { cls := .type "list", data := .seq vs.toArray }) (room : Room k callerA)
    (F : ∀ base : Heap, K.In base → base.Ns mainGlobals mg → (∀ p ∈ cs, TabB base mg p.1 p.2) → (∃ mm, base.Ns sysModules mm) → FnG P w K mg base CX k fa fd [x] sp)
    (bind : ∀ (s : Shared) (u : Value), BindsTo s fd ⟨[u], []⟩ [(x, u)])
    (want : sp [.ref a] H (fun v _ => v = .bl true) fun _ _ _ => False)
    (noX : ∀ H e s', CX [] H s₁ (fun _ _ _ => False) e s' → False)
    (tabs : ∀ p ∈ cs, H p.2 = some (.tbl #[]))
    (only : ∀ b, H b = none ∨ b ∈ cs.map (·.2) ∨ ∃ o xs, H b = some (.frz o (.lst xs))) (ok : HOk P w H s₁.heap)
    (where_ : ∀ b, H b ≠ none → b = a ∨ b ∈ cs.map (·.2)) (notK : H a ≠ none → K.lookup a = none) :
    codeAny (model P w) callerA (.call (.ref fa) ⟨[.ref a], []⟩)
      (fun r s' => r = .ok (.ret (.bool true)) ∧ OldK s₁.heap s'.heap ∧ s'.os = s₁.os ∧ AllBare s'.gens) s₁ := by
  have tabAt : ∀ b : Addr, b ∈ cs.map (·.2) → s₁.heap.get? b = some { cls := .none, data := .fields #[] } := by
    intro b hb
    obtain ⟨p, hp, e⟩ := List.mem_map.mp hb
    rw [← e]
    exact empties p hp
  have untracked : ∀ {b : Addr} {o : Obj}, s₁.heap.get? b = some o → (∀ vs n, o.data ≠ .seq vs n) → o.data ≠ .fields #[] → H b = none := by
    intro b o e h1 h2
    rcases hq : H b with _ | u
    · rfl
    · rcases where_ b (fun z => by rw [z] at hq; cases hq) with e' | e'
      · rw [e', ha] at e
        cases e
        exact (h1 _ _ rfl).elim
      · rw [tabAt b e'] at e
        cases e
        exact (h2 rfl).elim
  have dictFree : ∀ {b : Addr} {o : Obj} {es : Array DictEntry} {ep : Nat}, s₁.heap.get? b = some o → o.data = .dict es ep → H b = none := by
    intro b o es ep e d
    exact untracked e (fun vs n z => by rw [d] at z; cases z) (fun z => by rw [d] at z; cases z)
  have nsB : ∀ {b : Addr} {m : Str → Option Value}, s₁.heap.Ns b m → (hidT s₁.heap H).Ns b m := by
    rintro b m ⟨o, es, ep, e, d, r⟩
    exact ⟨o, es, ep, hidT_get e (dictFree e d), d, r⟩
  have KB : K.In (hidT s₁.heap H) := by
    intro b o e
    refine hidT_get (KX b o e) ?_
    rcases hq : H b with _ | u
    · rfl
    · rcases where_ b (fun z => by rw [z] at hq; cases hq) with e' | e'
      · rw [e'] at e hq
        rw [notK (fun z => by rw [z] at hq; cases hq)] at e
        cases e
      · obtain ⟨p, hp, ep⟩ := List.mem_map.mp e'
        rw [← ep, notT p hp] at e
        cases e
  have TB : ∀ p ∈ cs, TabB (hidT s₁.heap H) mg p.1 p.2 := by
    intro p hp
    have atP := empties p hp
    refine ⟨?_, ?_, fun z => ?_⟩
    · obtain ⟨o, us, file, tf, flags, tg, inF, text, tt, e1, r1, r2, r3, r4, r5, r6, r7, r8, hne⟩ := code p hp
      refine ⟨o, us, file, tf, flags, tg, inF, text, tt, hidT_get e1 (untracked e1 (fun vs n z => ?_) fun z => ?_), r1, r2, r3, r4, r5, r6, r7, r8, hne⟩
      · rw [r2] at z
        cases z
      · rw [r2] at z
        cases z
        simp at r3
    · obtain ⟨bm, ob, b1, b2, b3, b4, b5, b6⟩ := hbm
      have notG : bm ≠ mainGlobals := by
        intro q
        obtain ⟨o, es, ep, e, hd, _⟩ := ng
        rw [q, e] at b3
        cases b3
        rw [hd] at b6
        cases b6
      have notP : bm ≠ p.2 := by
        intro q
        rw [q, atP] at b3
        cases b3
        cases b6
      refine ⟨bm, ob, b1, b2, notG, notP, hidT_get b3 (untracked b3 (fun vs n z => ?_) fun z => ?_), b4, b5, b6⟩
      · rw [b6] at z
        cases z
      · rw [b6] at z
        cases z
    · obtain ⟨o, es, ep, e, hd, _⟩ := ng
      rw [z, atP] at e
      cases e
      cases hd
  have en : Env0 P w K mg (hidT s₁.heap H) callerA [] s₁ H := by
    refine ⟨rfl, ⟨KB, nsB ng, ⟨mb, nsB nb, bb⟩, ?_⟩, fun b o e => of_hidT e, Nat.le_of_eq (hidT_size _ _), trivial, ?_, ok, .of_eq g0⟩
    · obtain ⟨mc, h1, h2⟩ := lim
      exact ⟨mc, nsB h1, h2⟩
    · intro b z
      cases (show b ∈ ([] : List Addr) from z)
  refine codeAny_mono ((F _ KB (nsB ng) TB (by obtain ⟨mm, h1⟩ := sm; exact ⟨mm, nsB h1⟩)).go callerA [] s₁ H ⟨[.ref a], []⟩ [.ref a] [.ref a] _ _ rfl room en
    (bind s₁ (.ref a)) (.cons rfl .nil) want) ?_
  intro r s' z
  cases r with
  | error e => exact (noX H e s' z).elim
  | ok fl =>
    cases fl with
    | next => exact z.elim
    | brk => exact z.elim
    | cont => exact z.elim
    | ret u =>
      obtain ⟨v, H', os, bare, un, ok', rv, q⟩ := z
      cases (show v = .bl true from q)
      cases (show u = Value.bool true from rv)
      have stays : ∀ b o, b ∉ cs.map (·.2) → s₁.heap.get? b = some o → s'.heap.get? b = some o := by
        intro b o nb e
        rcases only b with hq | hq | ⟨ob, xs, hq⟩
        · exact un.keep b o e hq (fun z => by cases (show b ∈ ([] : List Addr) from z)) (fun z => by cases z)
        · exact absurd hq nb
        · have f1 := (ok b _ hq).left
          have f2 := (ok' b _ (un.frzs b ob _ hq)).left
          rw [e] at f1
          cases f1
          exact f2
      have grows : ∀ p ∈ cs, ∃ more : Array Value, s'.heap.get? p.2 = some { cls := .none, data := .fields more } := by
        intro p hp
        obtain ⟨more, z⟩ := un.tbls p.2 #[] (tabs p hp)
        exact ⟨_, ok' p.2 _ z⟩
      refine ⟨rfl, ⟨fun b o e => ?_, fun b o e => ?_⟩, os, bare⟩
      · by_cases hb : b ∈ cs.map (·.2)
        · obtain ⟨p, hp, ep⟩ := List.mem_map.mp hb
          obtain ⟨more, hm⟩ := grows p hp
          rw [← ep] at e ⊢
          rw [empties p hp] at e
          cases e
          exact .inr (.inl ⟨((code p hp).tab (empties p hp)).isCodeTable, rfl, #[], more, rfl, by rw [Array.empty_append]; exact hm⟩)
        · exact .inl (stays b o hb e)
      · by_cases hb : b ∈ cs.map (·.2)
        · obtain ⟨p, hp, ep⟩ := List.mem_map.mp hb
          obtain ⟨more, hm⟩ := grows p hp
          rw [← ep]
          exact ⟨_, hm⟩
        · exact ⟨o, stays b o hb e⟩
/-- the heap at the law's entry: the script, the tables -/
def entryHM (known : Bool) (a : Addr) (vs : List Value) (ns : List Int) (ts : List Addr) : Hp := fun b =>
  if b = a ∧ known = false then some (.frz { cls := .type "list", data := .seq vs.toArray } (.lst (ns.map V.int)))
  else if b ∈ ts then some (.tbl #[]) else none
theorem law_callM (KX : K.In s₁.heap) (ng : s₁.heap.Ns mainGlobals mg) (nb : s₁.heap.Ns builtinsNs mb)
    (bb : ∀ x : Str, x ≠ "__name__" → mb x = bootBuiltins x) (lim : s₁.heap.NoLimit) (sm : ∃ mm, s₁.heap.Ns sysModules mm) (g0 : s₁.gens = #[])
    (empties : ∀ p ∈ cs, s₁.heap.get? p.2 = some { cls := .none, data := .fields #[] }) (notT : ∀ p ∈ cs, K.lookup p.2 = none)
    (code : ∀ p ∈ cs, PySem.W.CodeHd s₁.heap p.1 p.2)
    (hbm : ∃ (bm : Addr) (ob : Obj), mg "__builtins__" = some (.ref bm) ∧ bm ≠ builtinsNs ∧ s₁.heap.get? bm = some ob ∧ ob.cls = .type "module" ∧ ob.dict = some builtinsNs ∧ ob.data = .plain)
    (ha : s₁.heap.get? a = some { cls := .type "list", data := .seq vs.toArray }) (hi : IntsAre vs ns) (hl : ns.length ≤ sizeLine) (room : Room k callerA)
    (F : ∀ base : Heap, K.In base → base.Ns mainGlobals mg → (∀ p ∈ cs, TabB base mg p.1 p.2) → (∃ mm, base.Ns sysModules mm) → FnG P w K mg base CX k fa fd [x] sp)
    (bind : ∀ (s : Shared) (u : Value), BindsTo s fd ⟨[u], []⟩ [(x, u)])
    (want : ∀ H : Hp, (∀ p ∈ cs, H p.2 = some (.tbl #[])) → SqL K H a (ns.map V.int) → sp [.ref a] H (fun v _ => v = .bl true) fun _ _ _ => False)
    (noX : ∀ H e s', CX [] H s₁ (fun _ _ _ => False) e s' → False) :
    codeAny (model P w) callerA (.call (.ref fa) ⟨[.ref a], []⟩)
      (fun r s' => r = .ok (.ret (.bool true)) ∧ OldK s₁.heap s'.heap ∧ s'.os = s₁.os ∧ AllBare s'.gens) s₁ := by
  have vi := vals_ints hi
  have tabAt : ∀ b : Addr, b ∈ cs.map (·.2) → s₁.heap.get? b = some { cls := .none, data := .fields #[] } := by
    intro b hb
    obtain ⟨p, hp, e⟩ := List.mem_map.mp hb
    rw [← e]
    exact empties p hp
  have aT : a ∉ cs.map (·.2) := by
    intro z
    have q := tabAt a z
    rw [ha] at q
    cases (show Data.seq vs.toArray _ = Data.fields #[] from congrArg Obj.data (Option.some.inj q))
  have atTab : ∀ (kn : Bool) b, b ∈ cs.map (·.2) → entryHM kn a vs ns (cs.map (·.2)) b = some (.tbl #[]) := by
    intro kn b hb
    unfold entryHM
    rw [if_neg (fun (z : b = a ∧ kn = false) => aT (z.1 ▸ hb)), if_pos hb]
  have inTabs : ∀ p ∈ cs, p.2 ∈ cs.map (·.2) := fun p hp => List.mem_map.mpr ⟨p, hp, rfl⟩
  have cases3 : ∀ (kn : Bool) b, (b = a ∧ kn = false ∧ entryHM kn a vs ns (cs.map (·.2)) b = some (.frz { cls := .type "list", data := .seq vs.toArray } (.lst (ns.map V.int)))) ∨
      (b ∈ cs.map (·.2) ∧ entryHM kn a vs ns (cs.map (·.2)) b = some (.tbl #[])) ∨ entryHM kn a vs ns (cs.map (·.2)) b = none := by
    intro kn b
    by_cases h1 : b = a ∧ kn = false
    · exact .inl ⟨h1.1, h1.2, if_pos h1⟩
    · by_cases h2 : b ∈ cs.map (·.2)
      · exact .inr (.inl ⟨h2, atTab kn b h2⟩)
      · refine .inr (.inr ?_)
        unfold entryHM
        rw [if_neg h1, if_neg h2]
  have main : ∀ kn : Bool, SqL K (entryHM kn a vs ns (cs.map (·.2))) a (ns.map V.int) → (kn = false → K.lookup a = none) →
      codeAny (model P w) callerA (.call (.ref fa) ⟨[.ref a], []⟩)
        (fun r s' => r = .ok (.ret (.bool true)) ∧ OldK s₁.heap s'.heap ∧ s'.os = s₁.os ∧ AllBare s'.gens) s₁ := by
    intro kn sq hk
    refine law_coreM KX ng nb bb lim sm g0 empties notT code hbm ha room F bind (want _ (fun p hp => atTab kn _ (inTabs p hp)) sq) noX
      (fun p hp => atTab kn _ (inTabs p hp)) (fun b => ?_) (fun b u z => ?_) (fun b z => ?_) (fun z => ?_)
    · rcases cases3 kn b with ⟨_, _, e⟩ | ⟨e, _⟩ | e
      · exact .inr (.inr ⟨_, _, e⟩)
      · exact .inr (.inl e)
      · exact .inl e
    · rcases cases3 kn b with ⟨rfl, _, e⟩ | ⟨m, e⟩ | e
      · rw [e] at z
        cases z
        exact ⟨ha, by rw [List.length_map]; exact hl, vs, _, vi, ha⟩
      · rw [e] at z
        cases z
        exact tabAt b m
      · rw [e] at z
        cases z
    · rcases cases3 kn b with ⟨e, _⟩ | ⟨m, _⟩ | e
      · exact .inl e
      · exact .inr m
      · exact absurd e z
    · rcases cases3 kn a with ⟨_, e, _⟩ | ⟨m, _⟩ | e
      · exact hk e
      · exact absurd m aT
      · exact absurd e z
  rcases hk : K.lookup a with _ | o
  · refine main false (.inl (.inr ⟨{ cls := .type "list", data := .seq vs.toArray }, if_pos ⟨rfl, rfl⟩⟩)) (fun _ => hk)
  · have e := KX a o hk
    rw [ha] at e
    cases e
    refine main true (.inr ⟨_, vs.toArray, _, hk, rfl, rfl, rfl, by rw [List.size_toArray, hi.length]; exact hl, by simpa using vi⟩) (fun z => by cases z)
end
/-- what is known of the law's promise at the head's heap h -/
def LawM (l : PySem.W.OpenLaw) (w : World) (K : PySem.W.Frag) (CX : CXT) (k n : Nat) (x : Str) (mg : Str → Option Value) (fa : Addr) (h : Heap) : Prop :=
  ∃ (fd : FuncData) (cs : List (Addr × Addr)) (sp : Sp), (∀ p ∈ cs, h.get? p.2 = some { cls := .none, data := .fields #[] }) ∧ (∀ p ∈ cs, K.lookup p.2 = none) ∧
    (∀ p ∈ cs, PySem.W.CodeHd h p.1 p.2) ∧ (∀ (s : Shared) (u : Value), BindsTo s fd ⟨[u], []⟩ [(x, u)]) ∧
    (∀ (H : Hp) (a : Addr) (ns : List Int), ns.length ≤ n → (∀ p ∈ cs, H p.2 = some (.tbl #[])) → SqL K H a (ns.map V.int) →
      sp [.ref a] H (fun v _ => v = .bl true) fun _ _ _ => False) ∧
    ∀ base : Heap, K.In base → base.Ns mainGlobals mg → (∀ p ∈ cs, TabB base mg p.1 p.2) → (∃ mm, base.Ns sysModules mm) → FnG l.prog w K mg base CX k fa fd [x] sp
theorem walkM {l : PySem.W.OpenLaw} {n k : Nat} {q : Program} {loose : List Str} {XP : (Str → Option Value) → Heap → Prop} {YP : World → Heap → Prop} {d : DefRec}
    {K : Params → PySem.W.Frag} {CX : World → CXT} {x : Str}
    (imp : importsNone q = true) (hn : l.most = some n) (hn2 : n ≤ sizeLine) (hdf : d.params.defaults = []) (room : Room k callerA) (hY : ∀ (w : World) (h : Heap), YP w h → (K w.params).In h)
    (F : ∀ (w : World) (mg : Str → Option Value) (fa : Addr) (h : Heap), YP w h → (K w.params).In h → h.Ns mainGlobals mg → mg d.name = some (.ref fa) →
      LawM l w (K w.params) (CX w) k n x mg fa h)
    (noX : ∀ (w : World) (H : Hp) (s : Shared) (e : Value) (s' : Shared), CX w [] H s (fun _ _ _ => False) e s' → False) :
    PySem.W.WalkO q loose XP YP l.row.toRowW d [] (fun f vs => PySem.call f vs) := by
  apply Att.attach_call hn hdf
  intro w s₀ s₁ mg mb fa o pm cd doc a vs ns G Y ho hd hcd hmg hobj hints hlen hg
  obtain ⟨fd, cs, sp, h1, h2, h3, hb, hsp, hF⟩ := F w mg fa _ Y (hY w _ Y) G.T.g hmg
  exact law_callM (hY w _ Y) G.T.g G.T.b G.T.builtins G.T.nolimit (by obtain ⟨mm, h1, _⟩ := (G.T.seer imp).mods; exact ⟨mm, h1⟩) hg h1 h2 h3 G.T.bmain hobj hints (Nat.le_trans hlen hn2) room hF hb
    (fun H hH hS => hsp H a ns hlen hH hS) (fun H e s' => noX w H s₁ e s')
end GG

set_option maxHeartbeats 4000000
namespace GG
open PySem PySem.Spec PyProof.Rows L2 LamX
/-! ### the end of a law's row whose text makes lambdas -/
section
variable {P : Program} {w : World} {K : PySem.W.Frag} {mg mb : Str → Option Value} {CX : CXT} {k : Nat} {fa a : Addr} {cs : List (Addr × Addr)} {fd : FuncData}
  {x : Str} {sp : Sp} {s₁ : Shared} {vs : List Value} {ns : List Int}
theorem law_coreT {H : Hp} (KX : K.In s₁.heap) (ng : s₁.heap.Ns mainGlobals mg) (nb : s₁.heap.Ns builtinsNs mb)
    (bb : ∀ x : Str, x ≠ "__name__" → mb x = bootBuiltins x) (lim : s₁.heap.NoLimit) (g0 : s₁.gens = #[])
    (empties : ∀ p ∈ cs, s₁.heap.get? p.2 = some { cls := .none, data := .fields #[] }) (notT : ∀ p ∈ cs, K.lookup p.2 = none)
    (code : ∀ p ∈ cs, PySem.W.CodeHd s₁.heap p.1 p.2)
    (hbm : ∃ (bm : Addr) (ob : Obj), mg "__builtins__" = some (.ref bm) ∧ bm ≠ builtinsNs ∧ s₁.heap.get? bm = some ob ∧ ob.cls = .type "module" ∧ ob.dict = some builtinsNs ∧ ob.data = .plain)
    (ha : s₁.heap.get? a = some { cls := .type "list", data := .seq vs.toArray }) (room : Room k callerA)
    (F : ∀ base : Heap, K.In base → base.Ns mainGlobals mg → (∀ p ∈ cs, TabB base mg p.1 p.2) → FnG P w K mg base CX k fa fd [x] sp)
    (bind : ∀ (s : Shared) (u : Value), BindsTo s fd ⟨[u], []⟩ [(x, u)])
    (want : sp [.ref a] H (fun v _ => v = .bl true) fun _ _ _ => False)
    (noX : ∀ H e s', CX [] H s₁ (fun _ _ _ => False) e s' → False)
    (tabs : ∀ p ∈ cs, H p.2 = some (.tbl #[]))
    (only : ∀ b, H b = none ∨ b ∈ cs.map (·.2) ∨ ∃ o xs, H b = some (.frz o (.lst xs))) (ok : HOk P w H s₁.heap)
    (where_ : ∀ b, H b ≠ none → b = a ∨ b ∈ cs.map (·.2)) (notK : H a ≠ none → K.lookup a = none) :
    codeAny (model P w) callerA (.call (.ref fa) ⟨[.ref a], []⟩)
      (fun r s' => r = .ok (.ret (.bool true)) ∧ OldK s₁.heap s'.heap ∧ s'.os = s₁.os ∧ AllBare s'.gens) s₁ := by
  have tabAt : ∀ b : Addr, b ∈ cs.map (·.2) → s₁.heap.get? b = some { cls := .none, data := .fields #[] } := by
    intro b hb
    obtain ⟨p, hp, e⟩ := List.mem_map.mp hb
    rw [← e]
    exact empties p hp
  have untracked : ∀ {b : Addr} {o : Obj}, s₁.heap.get? b = some o → (∀ vs n, o.data ≠ .seq vs n) → o.data ≠ .fields #[] → H b = none := by
    intro b o e h1 h2
    rcases hq : H b with _ | u
    · rfl
    · rcases where_ b (fun z => by rw [z] at hq; cases hq) with e' | e'
      · rw [e', ha] at e
        cases e
        exact (h1 _ _ rfl).elim
      · rw [tabAt b e'] at e
        cases e
        exact (h2 rfl).elim
  have dictFree : ∀ {b : Addr} {o : Obj} {es : Array DictEntry} {ep : Nat}, s₁.heap.get? b = some o → o.data = .dict es ep → H b = none := by
    intro b o es ep e d
    exact untracked e (fun vs n z => by rw [d] at z; cases z) (fun z => by rw [d] at z; cases z)
  have nsB : ∀ {b : Addr} {m : Str → Option Value}, s₁.heap.Ns b m → (hidT s₁.heap H).Ns b m := by
    rintro b m ⟨o, es, ep, e, d, r⟩
    exact ⟨o, es, ep, hidT_get e (dictFree e d), d, r⟩
  have KB : K.In (hidT s₁.heap H) := by
    intro b o e
    refine hidT_get (KX b o e) ?_
    rcases hq : H b with _ | u
    · rfl
    · rcases where_ b (fun z => by rw [z] at hq; cases hq) with e' | e'
      · rw [e'] at e hq
        rw [notK (fun z => by rw [z] at hq; cases hq)] at e
        cases e
      · obtain ⟨p, hp, ep⟩ := List.mem_map.mp e'
        rw [← ep, notT p hp] at e
        cases e
  have TB : ∀ p ∈ cs, TabB (hidT s₁.heap H) mg p.1 p.2 := by
    intro p hp
    have atP := empties p hp
    refine ⟨?_, ?_, fun z => ?_⟩
    · obtain ⟨o, us, file, tf, flags, tg, inF, text, tt, e1, r1, r2, r3, r4, r5, r6, r7, r8, hne⟩ := code p hp
      refine ⟨o, us, file, tf, flags, tg, inF, text, tt, hidT_get e1 (untracked e1 (fun vs n z => ?_) fun z => ?_), r1, r2, r3, r4, r5, r6, r7, r8, hne⟩
      · rw [r2] at z
        cases z
      · rw [r2] at z
        cases z
        simp at r3
    · obtain ⟨bm, ob, b1, b2, b3, b4, b5, b6⟩ := hbm
      have notG : bm ≠ mainGlobals := by
        intro q
        obtain ⟨o, es, ep, e, hd, _⟩ := ng
        rw [q, e] at b3
        cases b3
        rw [hd] at b6
        cases b6
      have notP : bm ≠ p.2 := by
        intro q
        rw [q, atP] at b3
        cases b3
        cases b6
      refine ⟨bm, ob, b1, b2, notG, notP, hidT_get b3 (untracked b3 (fun vs n z => ?_) fun z => ?_), b4, b5, b6⟩
      · rw [b6] at z
        cases z
      · rw [b6] at z
        cases z
    · obtain ⟨o, es, ep, e, hd, _⟩ := ng
      rw [z, atP] at e
      cases e
      cases hd
  have en : Env0 P w K mg (hidT s₁.heap H) callerA [] s₁ H := by
    refine ⟨rfl, ⟨KB, nsB ng, ⟨mb, nsB nb, bb⟩, ?_⟩, fun b o e => of_hidT e, Nat.le_of_eq (hidT_size _ _), trivial, ?_, ok, .of_eq g0⟩
    · obtain ⟨mc, h1, h2⟩ := lim
      exact ⟨mc, nsB h1, h2⟩
    · intro b z
      cases (show b ∈ ([] : List Addr) from z)
  refine codeAny_mono ((F _ KB (nsB ng) TB).go callerA [] s₁ H ⟨[.ref a], []⟩ [.ref a] [.ref a] _ _ rfl room en
    (bind s₁ (.ref a)) (.cons rfl .nil) want) ?_
  intro r s' z
  cases r with
  | error e => exact (noX H e s' z).elim
  | ok fl =>
    cases fl with
    | next => exact z.elim
    | brk => exact z.elim
    | cont => exact z.elim
    | ret u =>
      obtain ⟨v, H', os, bare, un, ok', rv, q⟩ := z
      cases (show v = .bl true from q)
      cases (show u = Value.bool true from rv)
      have stays : ∀ b o, b ∉ cs.map (·.2) → s₁.heap.get? b = some o → s'.heap.get? b = some o := by
        intro b o nb e
        rcases only b with hq | hq | ⟨ob, xs, hq⟩
        · exact un.keep b o e hq (fun z => by cases (show b ∈ ([] : List Addr) from z)) (fun z => by cases z)
        · exact absurd hq nb
        · have f1 := (ok b _ hq).left
          have f2 := (ok' b _ (un.frzs b ob _ hq)).left
          rw [e] at f1
          cases f1
          exact f2
      have grows : ∀ p ∈ cs, ∃ more : Array Value, s'.heap.get? p.2 = some { cls := .none, data := .fields more } := by
        intro p hp
        obtain ⟨more, z⟩ := un.tbls p.2 #[] (tabs p hp)
        exact ⟨_, ok' p.2 _ z⟩
      refine ⟨rfl, ⟨fun b o e => ?_, fun b o e => ?_⟩, os, bare⟩
      · by_cases hb : b ∈ cs.map (·.2)
        · obtain ⟨p, hp, ep⟩ := List.mem_map.mp hb
          obtain ⟨more, hm⟩ := grows p hp
          rw [← ep] at e ⊢
          rw [empties p hp] at e
          cases e
          exact .inr (.inl ⟨((code p hp).tab (empties p hp)).isCodeTable, rfl, #[], more, rfl, by rw [Array.empty_append]; exact hm⟩)
        · exact .inl (stays b o hb e)
      · by_cases hb : b ∈ cs.map (·.2)
        · obtain ⟨p, hp, ep⟩ := List.mem_map.mp hb
          obtain ⟨more, hm⟩ := grows p hp
          rw [← ep]
          exact ⟨_, hm⟩
        · exact ⟨o, stays b o hb e⟩
/-- the heap at the law's entry: the script, the tables -/
def entryH (known : Bool) (a : Addr) (vs : List Value) (ns : List Int) (ts : List Addr) : Hp := fun b =>
  if b = a ∧ known = false then some (.frz { cls := .type "list", data := .seq vs.toArray } (.lst (ns.map V.int)))
  else if b ∈ ts then some (.tbl #[]) else none
theorem law_callT (KX : K.In s₁.heap) (ng : s₁.heap.Ns mainGlobals mg) (nb : s₁.heap.Ns builtinsNs mb)
    (bb : ∀ x : Str, x ≠ "__name__" → mb x = bootBuiltins x) (lim : s₁.heap.NoLimit) (g0 : s₁.gens = #[])
    (empties : ∀ p ∈ cs, s₁.heap.get? p.2 = some { cls := .none, data := .fields #[] }) (notT : ∀ p ∈ cs, K.lookup p.2 = none)
    (code : ∀ p ∈ cs, PySem.W.CodeHd s₁.heap p.1 p.2)
    (hbm : ∃ (bm : Addr) (ob : Obj), mg "__builtins__" = some (.ref bm) ∧ bm ≠ builtinsNs ∧ s₁.heap.get? bm = some ob ∧ ob.cls = .type "module" ∧ ob.dict = some builtinsNs ∧ ob.data = .plain)
    (ha : s₁.heap.get? a = some { cls := .type "list", data := .seq vs.toArray }) (hi : IntsAre vs ns) (hl : ns.length ≤ sizeLine) (room : Room k callerA)
    (F : ∀ base : Heap, K.In base → base.Ns mainGlobals mg → (∀ p ∈ cs, TabB base mg p.1 p.2) → FnG P w K mg base CX k fa fd [x] sp)
    (bind : ∀ (s : Shared) (u : Value), BindsTo s fd ⟨[u], []⟩ [(x, u)])
    (want : ∀ H : Hp, (∀ p ∈ cs, H p.2 = some (.tbl #[])) → SqL K H a (ns.map V.int) → sp [.ref a] H (fun v _ => v = .bl true) fun _ _ _ => False)
    (noX : ∀ H e s', CX [] H s₁ (fun _ _ _ => False) e s' → False) :
    codeAny (model P w) callerA (.call (.ref fa) ⟨[.ref a], []⟩)
      (fun r s' => r = .ok (.ret (.bool true)) ∧ OldK s₁.heap s'.heap ∧ s'.os = s₁.os ∧ AllBare s'.gens) s₁ := by
  have vi := vals_ints hi
  have tabAt : ∀ b : Addr, b ∈ cs.map (·.2) → s₁.heap.get? b = some { cls := .none, data := .fields #[] } := by
    intro b hb
    obtain ⟨p, hp, e⟩ := List.mem_map.mp hb
    rw [← e]
    exact empties p hp
  have aT : a ∉ cs.map (·.2) := by
    intro z
    have q := tabAt a z
    rw [ha] at q
    cases (show Data.seq vs.toArray _ = Data.fields #[] from congrArg Obj.data (Option.some.inj q))
  have atTab : ∀ (kn : Bool) b, b ∈ cs.map (·.2) → entryH kn a vs ns (cs.map (·.2)) b = some (.tbl #[]) := by
    intro kn b hb
    unfold entryH
    rw [if_neg (fun (z : b = a ∧ kn = false) => aT (z.1 ▸ hb)), if_pos hb]
  have inTabs : ∀ p ∈ cs, p.2 ∈ cs.map (·.2) := fun p hp => List.mem_map.mpr ⟨p, hp, rfl⟩
  have cases3 : ∀ (kn : Bool) b, (b = a ∧ kn = false ∧ entryH kn a vs ns (cs.map (·.2)) b = some (.frz { cls := .type "list", data := .seq vs.toArray } (.lst (ns.map V.int)))) ∨
      (b ∈ cs.map (·.2) ∧ entryH kn a vs ns (cs.map (·.2)) b = some (.tbl #[])) ∨ entryH kn a vs ns (cs.map (·.2)) b = none := by
    intro kn b
    by_cases h1 : b = a ∧ kn = false
    · exact .inl ⟨h1.1, h1.2, if_pos h1⟩
    · by_cases h2 : b ∈ cs.map (·.2)
      · exact .inr (.inl ⟨h2, atTab kn b h2⟩)
      · refine .inr (.inr ?_)
        unfold entryH
        rw [if_neg h1, if_neg h2]
  have main : ∀ kn : Bool, SqL K (entryH kn a vs ns (cs.map (·.2))) a (ns.map V.int) → (kn = false → K.lookup a = none) →
      codeAny (model P w) callerA (.call (.ref fa) ⟨[.ref a], []⟩)
        (fun r s' => r = .ok (.ret (.bool true)) ∧ OldK s₁.heap s'.heap ∧ s'.os = s₁.os ∧ AllBare s'.gens) s₁ := by
    intro kn sq hk
    refine law_coreT KX ng nb bb lim g0 empties notT code hbm ha room F bind (want _ (fun p hp => atTab kn _ (inTabs p hp)) sq) noX
      (fun p hp => atTab kn _ (inTabs p hp)) (fun b => ?_) (fun b u z => ?_) (fun b z => ?_) (fun z => ?_)
    · rcases cases3 kn b with ⟨_, _, e⟩ | ⟨e, _⟩ | e
      · exact .inr (.inr ⟨_, _, e⟩)
      · exact .inr (.inl e)
      · exact .inl e
    · rcases cases3 kn b with ⟨rfl, _, e⟩ | ⟨m, e⟩ | e
      · rw [e] at z
        cases z
        exact ⟨ha, by rw [List.length_map]; exact hl, vs, _, vi, ha⟩
      · rw [e] at z
        cases z
        exact tabAt b m
      · rw [e] at z
        cases z
    · rcases cases3 kn b with ⟨e, _⟩ | ⟨m, _⟩ | e
      · exact .inl e
      · exact .inr m
      · exact absurd e z
    · rcases cases3 kn a with ⟨_, e, _⟩ | ⟨m, _⟩ | e
      · exact hk e
      · exact absurd m aT
      · exact absurd e z
  rcases hk : K.lookup a with _ | o
  · refine main false (.inl (.inr ⟨{ cls := .type "list", data := .seq vs.toArray }, if_pos ⟨rfl, rfl⟩⟩)) (fun _ => hk)
  · have e := KX a o hk
    rw [ha] at e
    cases e
    refine main true (.inr ⟨_, vs.toArray, _, hk, rfl, rfl, rfl, by rw [List.size_toArray, hi.length]; exact hl, by simpa using vi⟩) (fun z => by cases z)
end
/-- what is known of the law's promise at the head's heap h -/
def LawT (l : PySem.W.OpenLaw) (w : World) (K : PySem.W.Frag) (CX : CXT) (k n : Nat) (x : Str) (mg : Str → Option Value) (fa : Addr) (h : Heap) : Prop :=
  ∃ (fd : FuncData) (cs : List (Addr × Addr)) (sp : Sp), (∀ p ∈ cs, h.get? p.2 = some { cls := .none, data := .fields #[] }) ∧ (∀ p ∈ cs, K.lookup p.2 = none) ∧
    (∀ p ∈ cs, PySem.W.CodeHd h p.1 p.2) ∧ (∀ (s : Shared) (u : Value), BindsTo s fd ⟨[u], []⟩ [(x, u)]) ∧
    (∀ (H : Hp) (a : Addr) (ns : List Int), ns.length ≤ n → (∀ p ∈ cs, H p.2 = some (.tbl #[])) → SqL K H a (ns.map V.int) →
      sp [.ref a] H (fun v _ => v = .bl true) fun _ _ _ => False) ∧
    ∀ base : Heap, K.In base → base.Ns mainGlobals mg → (∀ p ∈ cs, TabB base mg p.1 p.2) → FnG l.prog w K mg base CX k fa fd [x] sp
theorem walkT {l : PySem.W.OpenLaw} {n k : Nat} {q : Program} {loose : List Str} {XP : (Str → Option Value) → Heap → Prop} {YP : World → Heap → Prop} {d : DefRec}
    {K : Params → PySem.W.Frag} {CX : World → CXT} {x : Str}
    (hn : l.most = some n) (hn2 : n ≤ sizeLine) (hdf : d.params.defaults = []) (room : Room k callerA) (hY : ∀ (w : World) (h : Heap), YP w h → (K w.params).In h)
    (F : ∀ (w : World) (mg : Str → Option Value) (fa : Addr) (h : Heap), YP w h → (K w.params).In h → h.Ns mainGlobals mg → mg d.name = some (.ref fa) →
      LawT l w (K w.params) (CX w) k n x mg fa h)
    (noX : ∀ (w : World) (H : Hp) (s : Shared) (e : Value) (s' : Shared), CX w [] H s (fun _ _ _ => False) e s' → False) :
    PySem.W.WalkO q loose XP YP l.row.toRowW d [] (fun f vs => PySem.call f vs) := by
  apply Att.attach_call hn hdf
  intro w s₀ s₁ mg mb fa o pm cd doc a vs ns G Y ho hd hcd hmg hobj hints hlen hg
  obtain ⟨fd, cs, sp, h1, h2, h3, hb, hsp, hF⟩ := F w mg fa _ Y (hY w _ Y) G.T.g hmg
  exact law_callT (hY w _ Y) G.T.g G.T.b G.T.builtins G.T.nolimit hg h1 h2 h3 G.T.bmain hobj hints (Nat.le_trans hlen hn2) room hF hb
    (fun H hH hS => hsp H a ns hlen hH hS) (fun H e s' => noX w H s₁ e s')
end GG

set_option maxHeartbeats 4000000
namespace PySem
open Sem (wp)
/-! ### enumerate(v) over whatever iter(v) begins -/
theorem meets_enum1 {v : Value} {o : Obj} {H : Heap → Prop} (B : Begins v o H) :
    Meets (Builtin.«enumerate.__new__» ⟨[.type "enumerate", v], []⟩) (fun _ R s => H s.heap ∧
      R (.ok (.ret (.ref (s.heap.push o).objs.size)))
        { s with heap := (s.heap.push o).push { cls := .type "enumerate", data := .fields #[.none, .bool false, .ref s.heap.objs.size, rawInt 0, .none, .none] } }) :=
  .of_wp fun prog w A R s h => by
    obtain ⟨hp, g, d, tk, os⟩ := s
    obtain ⟨h1, h⟩ := h
    have hsub := sub_enumerate
    have q1 : ∀ {A' : Around} {E : Value → Shared → Prop} {Q : Value → Shared → Prop}, Q (.ref hp.objs.size) ⟨hp.push o, g, d, tk, os⟩ → wpAny (model prog w) A' (pyIter v) Q E ⟨hp, g, d, tk, os⟩ :=
      fun q => B.iter prog w _ _ ⟨hp, g, d, tk, os⟩ _ h1 q
    wp_walk using q1
    refine wpAny_stack_any fun st => wpAny_pure ?_
    split
    · rename_i c _ _ _ _ _
      cases (c == Value.type "enumerate")
      · wp_walk using q1
        exact ⟨_, rfl, h⟩
      · wp_walk using q1
        exact ⟨_, rfl, h⟩
    · wp_walk using q1
      exact ⟨_, rfl, h⟩
section
variable {prog : Program} {w : World} {A : Around} {E : Value → Shared → Prop} {s : Shared}
theorem enum_begins1 {v : Value} {o : Obj} {H : Heap → Prop} {Q : Value → Shared → Prop} (B : Begins v o H) (h1 : H s.heap)
    (h : ∀ h', IsEnum h' (s.heap.objs.size + 1) s.heap.objs.size 0 .none → h'.get? s.heap.objs.size = some o → h'.objs.size = s.heap.objs.size + 2 →
      (∀ b o, s.heap.get? b = some o → h'.get? b = some o) → Q (.ref (s.heap.objs.size + 1)) { s with heap := h' }) :
    wpAny (model prog w) A (call (.type "enumerate") [v]) Q E s := by
  refine callType_new F.called_enumerate (by decide) (F.typeCall_enumerate_1 _) (F.newCall_enumerate_1 _)
    (fun obj => F.args_object_init_2 obj _) F.entry_enumerate_new (meets_enum1 B) ⟨h1, ?_⟩
  have hz : (s.heap.push o).objs.size = s.heap.objs.size + 1 := Heap.size_push ..
  show _ ∧ _
  rw [hz]
  have he : IsEnum ((s.heap.push o).push { cls := .type "enumerate", data := .fields #[.none, .bool false, .ref s.heap.objs.size, rawInt 0, .none, .none] })
      (s.heap.objs.size + 1) s.heap.objs.size 0 .none := by
    have := Heap.get?_push_size (s.heap.push o) (o := { cls := .type "enumerate", data := .fields #[.none, .bool false, .ref s.heap.objs.size, rawInt 0, .none, .none] }) rfl
    rw [hz] at this
    exact this
  exact ⟨⟨_, he, rfl⟩, h _ he (Heap.get?_push_of_some _ (Heap.get?_push_size _ B.free)) (by rw [Heap.size_push, hz])
    fun b o x => Heap.get?_push_of_some _ (Heap.get?_push_of_some _ x)⟩
end
end PySem
namespace GG
open PySem PySem.Spec PyProof.Rows L2
/-- the tuple at a, its items with their places in new pairs -/
def Itet (K : PySem.W.Frag) (a : Addr) : It :=
  ⟨fun i H => ∃ (xs : List V) (x : V), SqT K H a xs ∧ xs[i]? = some x,
   fun i H v H' => ∃ T x, v = .ref T ∧ H T = none ∧ H' = upd H T (.tup [.int (i : Nat), x]) ∧ ∀ xs, SqT K H a xs → xs[i]? = some x,
   fun i H => ∃ xs : List V, SqT K H a xs ∧ xs.length ≤ i⟩
theorem turn_enumT {P : Program} {w : World} {K : PySem.W.Frag} {elts : List Expr} {kk : Nat} {tpos : Pos} (a e it : Addr) (ai : a ≠ it) (ae : a ≠ e) :
    Turn P w K (.Tuple elts kk tpos) (Itet K a) [e, it] e (fun i h => (∃ old, IsEnum h e it ((i : Nat) : Int) old) ∧ h.IsTupleIter it a i ∧ e ≠ it) where
  mem := by simp
  obj := by
    intro i h st b hb
    obtain ⟨⟨old, he⟩, ⟨o, ho, hc, hd⟩, _⟩ := st
    have two : b = e ∨ b = it := by simpa using hb
    rcases two with z | z
    · rw [z]
      exact ⟨_, he, fun v q => nomatch q⟩
    · rw [z]
      exact ⟨o, ho, fun v q => by rw [hd] at q; cases q⟩
  keep := by
    intro i h h' st k
    obtain ⟨⟨old, he⟩, hi, hne⟩ := st
    exact ⟨⟨old, k e (by simp) _ he⟩, hi.at fun o q => k it (by simp) o q, hne⟩
  item := by
    intro X hP hw hK hc i pins s σ H E I hf st hg
    subst hP hw hK
    obtain ⟨⟨old, he⟩, hit, hne⟩ := st
    obtain ⟨xs, x, hq, hx⟩ := hg
    obtain ⟨its, rv, p, hz⟩ := I.tuple hq
    obtain ⟨u, hu, ru⟩ := rv.get hx
    have el : e < s.heap.objs.size := Heap.lt_size he
    have il : it < s.heap.objs.size := by
      obtain ⟨_, q, _⟩ := hit
      exact Heap.lt_size q
    have lt : i < its.toArray.size := by
      have := (List.getElem?_eq_some_iff.mp hu).1
      simpa using this
    have hh : X.A.in1.handled = none := I.ok.hd hc
    have D := Draws.tuple (prog := X.prog) (w := X.w) hh it a ai its.toArray
    have ei : e ∉ [it, a] := by
      intro z
      rcases List.mem_cons.mp z with z | z
      · exact hne z
      · exact ae (List.mem_singleton.mp z).symm
    refine wpAny_pyNext_enum_itemD D he ⟨hit, (show s.heap.IsTuple a its.toArray from p)⟩ lt hne ei ?_
    intro y h' tk hy ho st' hT hsz hk
    have ey : y = u := by
      have : its.toArray[i]? = some u := by simpa using hu
      rw [this] at hy
      exact (Option.some.inj hy).symm
    subst ey
    refine ⟨_, rfl, wpAny_letOwnedTupleGo_enum (s := { s with heap := h', toks := tk + 1 }) ho ?_⟩
    intro h'' he' sb
    have hT2 : h''.get? s.heap.objs.size = some { cls := .type "tuple", data := .seq #[.int i tk, y] } := (sb.2 _ (Nat.ne_of_gt el)).trans hT
    have new : ObjOk X.prog X.w (upd H s.heap.objs.size (.tup [.int (i : Nat), x])) h'' s.heap.objs.size (.tup [.int (i : Nat), x]) :=
      ⟨by show 2 ≤ sizeLine; decide, [.int i tk, y], .cons ⟨_, rfl⟩ (.cons ru .nil), ⟨_, hT2, rfl, _, rfl⟩⟩
    have I1 : Inv X pins σ (upd H s.heap.objs.size (.tup [.int (i : Nat), x])) { s with heap := h'', toks := tk + 1 } := by
      refine I.turnedNew (ch := [e, it]) (fun b ob hb q => ?_) hf (Nat.le_refl _) new
      exact (sb.2 b (fun z => hb (by simp [z]))).trans (hk b ob (fun z => hb (by simp [z])) (fun z => hb (by simp [z])) q)
    refine ⟨.ref s.heap.objs.size, _, I1, rfl, ⟨_, x, rfl, I.hok.fresh (Nat.le_refl _), rfl, fun ys hy => by rw [I.tuple_inj hy hq]; exact hx⟩, ⟨⟨y, ?_⟩, ?_, hne⟩, fun b hb => ?_⟩
    · have e1 : ((i + 1 : Nat) : Int) = (i : Int) + 1 := by omega
      rw [e1]
      exact he'
    · exact st'.1.at fun o q => (sb.2 it (Ne.symm hne)).trans q
    · have lb : b < s.heap.objs.size := by
        have two : b = e ∨ b = it := by simpa using hb
        rcases two with z | z
        · rw [z]
          exact el
        · rw [z]
          exact il
      rw [upd_ne (Nat.ne_of_lt lb)]
      exact (hf b hb).1
  done := by
    intro X hP hw hK hc i pins s σ H E I hf st hg
    subst hP hw hK
    obtain ⟨⟨old, he⟩, hit, hne⟩ := st
    obtain ⟨xs, hq, hx⟩ := hg
    obtain ⟨its, rv, p, hz⟩ := I.tuple hq
    obtain ⟨f0, f1, f2, f3, f4, f5⟩ := hf it (by simp)
    have hl := rv.length
    have hT : s.TypeIs (.ref e) "enumerate" := ⟨_, he, rfl⟩
    unfold pyNext
    refine wpAny_bind (wpAny_attempt (wpAny_callSpecial?_slot (name := Str.ofString "__next__") hT F.slot_enumerate_next
      (wpAny_call_entry F.slot_enumerate_next hT F.entry_enumerate_next ?_ (F.args_enumerate_next_1 _))))
    show wpAny _ _ (field (.ref e) 2 >>= _) _ _ _
    refine wpAny_bind (wpAny_field he rfl (x := .ref it) rfl ?_)
    refine wpAny_bind (wpAny_nextOf_tuple_end (A := X.A.in1) (I.ok.hd hc) hit (show s.heap.IsTuple a its.toArray from p) (by simp; omega) ?_)
    intro h' x he' hx'
    obtain ⟨o, ho, hcl⟩ := hx'
    refine wpAny_bind (wpAny_isInstance (T := "StopIteration") (b := true) ⟨o, ho, hcl⟩ isSubtype_stop ?_)
    exact wpAny_pure ⟨rfl, I.turned (t' := s.toks) (fun b o hb q => he' b o hb q) f0 f1 f3 f4 f5⟩
  self := by
    intro A i s Q E st h
    obtain ⟨⟨_, he⟩, _⟩ := st
    exact wpAny_pyIter_enum he h
def iEnumT (K : PySem.W.Frag) (ta : TA) : TI := fun σ H R => ta σ H fun vs H1 => ∃ a xs, vs = [.ref a] ∧ SqT K H1 a xs ∧ R (Itet K a) H1
theorem pi_enumT {X : Cx} {e : Expr} {ta : TA} {p pos tpos : Pos} {elts : List Expr} {kk : Nat} (hg : Gl X "enumerate") (hm : X.mg "enumerate" = none) (ha : PA X [e] ta)
    (hs : starEach [e] X.env = [(false, eval e X.env)] := by rfl) :
    PI X (.Tuple elts kk tpos) (.Call (.Name "enumerate" p) [e] [] pos) (iEnumT X.K ta) := by
  constructor
  intro pins s σ H R I h
  refine Call_ (ld_blt I hg hm boot_enumerate (PyProof.Rows.callWith_type1 (thn (ha.run pos pins s σ H _ I h) ?_) hs rfl))
  intro us s1 ⟨vs, H1, I1, r1, q1⟩
  obtain ⟨a, xs, ex, hq, q⟩ := q1
  subst ex
  obtain ⟨u, rfl, ru⟩ := vals1 r1
  cases (show u = Value.ref a from ru)
  obtain ⟨its, rv, p', hz⟩ := I1.tuple hq
  have al : a < s1.heap.objs.size := p'.lt
  refine enum_begins1 (begins_tuple a its.toArray) (show s1.heap.IsTuple a its.toArray from p') ?_
  intro h' he hit hsz hk
  refine wpAny_pyIter_enum he ?_
  have I2 : Inv X pins σ H1 { s1 with heap := h' } := I1.kept (t' := s1.toks) hk
  refine ⟨s1.heap.objs.size + 1, [s1.heap.objs.size + 1, s1.heap.objs.size], _, _, H1, rfl, I2,
    turn_enumT a (s1.heap.objs.size + 1) s1.heap.objs.size (Nat.ne_of_lt al) (Nat.ne_of_lt (Nat.lt_succ_of_lt al)), ⟨⟨.none, he⟩, ⟨_, hit, rfl, rfl⟩, Nat.succ_ne_self _⟩, fun b hb => ?_, q⟩
  have two : b = s1.heap.objs.size + 1 ∨ b = s1.heap.objs.size := by simpa using hb
  have le : s1.heap.objs.size ≤ b := by
    rcases two with z | z
    · rw [z]
      exact Nat.le_add_right _ _
    · rw [z]
      exact Nat.le_refl _
  exact I1.fpOk le (I1.hok.fresh le)
theorem walk_enumT {K : PySem.W.Frag} {a : Addr} {xs : List V} : Walk (Itet K a) xs.length (fun H => SqT K H a xs) (YPair (fun i => some (.int (i : Nat))) (fun i => xs[i]?)) := by
  refine ⟨fun i H hi g => ⟨xs, xs[i], g, by simp [hi]⟩, fun H g => ⟨xs, g, Nat.le_refl _⟩, ?_⟩
  intro i H v H' _ g y
  obtain ⟨T, x, h1, h2, h3, h4⟩ := y
  exact ⟨T, _, x, h1, h2, h3, rfl, h4 xs g⟩
end GG

set_option maxHeartbeats 4000000
namespace GG
open PySem PySem.Spec PyProof.Rows L2
/-! ### what the program's smallest functions answer -/
/-- the least integer of more than 200 figures -/
def BND : Int := ((10 ^ 200 : Nat) : Int)
def intOk (i : Int) : Bool := decide (-BND < i) && decide (i < BND)
def cntOk (i : Int) : Bool := intOk i && decide (0 ≤ i)
def inOk (lo hi i : Int) : Bool := intOk i && (decide (lo ≤ i) && decide (i ≤ hi))
/-- a value that is no integer by its kind -/
def NoInt (K : PySem.W.Frag) (H : Hp) (v : V) : Prop := (∃ b, v = .bl b) ∨ ∃ t, TyX K H v (.type t) ∧ kitB t "int" = some false
def spInteger (K : PySem.W.Frag) : Sp := fun vs H Q _ => ∃ v, vs = [v] ∧ ((∃ i, v = .int i ∧ Q (.bl (intOk i)) H) ∨ (NoInt K H v ∧ Q (.bl false) H))
def spCount (K : PySem.W.Frag) : Sp := fun vs H Q _ => ∃ v, vs = [v] ∧ ((∃ i, v = .int i ∧ Q (.bl (cntOk i)) H) ∨ (NoInt K H v ∧ Q (.bl false) H))
def spWithin (K : PySem.W.Frag) : Sp := fun vs H Q _ => ∃ v lo hi, vs = [v, .int lo, .int hi] ∧ ((∃ i, v = .int i ∧ Q (.bl (inOk lo hi i)) H) ∨ (NoInt K H v ∧ Q (.bl false) H))
def spLimit : Sp := fun vs H Q _ => vs = [] ∧ Q (.int BND) H
theorem limE : ((10 : Int) ^ (50 : Int).toNat) ^ (4 : Int).toNat = BND := by decide +kernel
theorem BND_bits : BND.natAbs < 2 ^ 700 := by decide +kernel
theorem intOk_iff {i : Int} : intOk i = true ↔ -BND < i ∧ i < BND := by
  unfold intOk
  rw [Bool.and_eq_true, decide_eq_true_eq, decide_eq_true_eq]
theorem intOk_bits {i : Int} (h : intOk i = true) : i.natAbs < 2 ^ 700 := by
  have h2 := intOk_iff.mp h
  have h3 := BND_bits
  generalize (2 : Nat) ^ 700 = M at h3 ⊢
  omega
theorem intOk_small {i : Int} (h0 : -(10 ^ 60) ≤ i) (h1 : i ≤ 10 ^ 60) : intOk i = true := by
  have e : (10 : Int) ^ 60 < BND := by decide +kernel
  exact intOk_iff.mpr ⟨by omega, by omega⟩
/-! ### small words -/
theorem and2 {tb : TE} {σ : L2.St} {H : Hp} {Q : VK} {c d : Bool} (hb : c = true → ∀ Q' : VK, Q' (.bl d) H → tb σ H Q') (q : Q (.bl (c && d)) H) :
    if c = true then tb σ H Q else Q (.bl false) H := by
  cases c with
  | true => exact iteT (hb rfl Q q)
  | false => exact iteF q
theorem iteN {b : Bool} {A B : Prop} (h : b = true) (x : B) : if (!b) = true then A else B := by
  subst h
  exact iteF x
theorem iteTo {b : Bool} {A B : Prop} (h : b = true) (x : A) : if b = true then A else B := by
  subst h
  exact iteT x
theorem iteFo {b : Bool} {A B : Prop} (h : b = false) (x : B) : if b = true then A else B := by
  subst h
  exact iteF x
theorem sameUpd2 {H : Hp} {p : Addr} {o o' : HO} (h : H p = none) : Same H (upd (upd H p o) p o') := by
  rw [upd_upd]
  exact sameUpd h
/-! ### repr, of dicts too -/
/-- data whose repr is told: without dicts, or an empty dict -/
def Rp (K : PySem.W.Frag) (H : Hp) (x : V) (d : PyData) : Prop :=
  (Dp K H x d ∧ d.showable = true ∧ d.hasDict = false ∧ d.depth ≤ 40 ∧ d.shown.length ≤ sizeLine) ∨ ∃ a, x = .ref a ∧ H a = some (.dK []) ∧ d = .dict []
def rReprD (K : PySem.W.Frag) : List V → Hp → VK → Prop := fun xs H Q => ∃ x d, xs = [x] ∧ Rp K H x d ∧ Q (.str d.shown) H
theorem call_reprR {X : Cx} (gd : X.A.guards = some []) (un : X.A.units + 64 < cLine) : CallR X (.builtin "repr") (rReprD X.K) := by
  intro pins s σ H xs us Q I r h
  obtain ⟨x, d, rfl, ⟨hd, ok⟩ | ⟨a, rfl, ha, rfl⟩, q⟩ := h
  · exact call_reprU gd un pins s σ H _ us Q I r ⟨x, d, rfl, hd, ok, q⟩
  · obtain ⟨u, rfl, ru⟩ := vals1 r
    cases (show u = Value.ref a from ru)
    obtain ⟨hz, hS, vs, rk, o, es, ep, h1, h2, h3, h4, h5, h6⟩ : ([] : List (Key × V)).length ≤ sizeLine ∧ (a == sysModules) = false ∧ ∃ vs, KV [] vs ∧ s.heap.DictOf (mixKind X.prog X.w) a vs := I.hok a _ ha
    cases rk
    have e0 : es.toList = [] := by
      cases hl : es.toList with
      | nil => rfl
      | cons b r =>
        rw [hl] at h5
        cases h5
    have rd : Reads s.heap (.ref a) (.dict []) (a :: [] ++ []) := .dict h1 h2.1 h3 (by rw [e0]; exact .nil) (by rw [e0]; exact .nil)
    refine repr_of_reads' rd (by decide) (fun _ z => ?_) gd (by show X.A.units + (PyData.depth (.dict []) + 1) < cLine; have : PyData.depth (.dict []) = 1 := by decide
                                                                omega) (fun _ _ e => e) (fun h' u tk kept => ?_) (by decide)
    · have z' : sysModules = a := by simpa using z
      rw [← z'] at hS
      cases hS
    · exact ⟨.str _, H, I.kept kept, ⟨_, rfl⟩, q⟩
theorem call_reprA {X : Cx} {A : Around} (hA : X.A = A) (gd : A.guards = some []) (un : A.units + 64 < cLine) : CallR X (.builtin "repr") (rReprD X.K) := by
  subst hA
  exact call_reprR gd un
end GG

set_option maxHeartbeats 4000000
namespace GG
open PySem PySem.Spec PyProof.Rows L2
/-- a comprehension over enumerate of a tuple -/
theorem lc_enumT {K : PySem.W.Frag} {a : Addr} {xs : List V} {g : TG} {tt : TT} {te : TE} {vs : List Nat} {σ : L2.St} {H1 : Hp} {D : Addr} {Qd : Hp → Prop} (Pv : Nat → Hp → Prop) (h0 : Pv 0 (upd H1 D (.lst [])))
    (hl : ∀ i H, i ≤ xs.length → Pv i H → SqT K H a xs)
    (hs : ∀ i x H T, xs[i]? = some x → H T = none → Pv i H → g (.ref T) (wipe σ vs) (upd H T (.tup [.int (i : Nat), x])) fun σ2 H2 => wipe σ2 vs = wipe σ vs ∧ tt σ2 H2 fun b H3 =>
      if b = true then te σ2 H3 fun y H4 => ∃ acc, H4 D = some (.lst acc) ∧ acc.length < sizeLine ∧ Pv (i + 1) (upd H4 D (.lst (acc ++ [y]))) else Pv (i + 1) H3) (hd : ∀ H, Pv xs.length H → Qd H) :
    ∃ W : Nat → Nat → Hp → Prop, (∃ m, W 0 m (upd H1 D (.lst []))) ∧ ∀ i m H, W i m H →
      ((Itet K a).stop i H ∧ Qd H) ∨ ((Itet K a).go i H ∧ ∃ Nx : Hp → Prop, (∀ H', Nx H' → ∃ m', m' < m ∧ W (i + 1) m' H') ∧ ∀ x H', (Itet K a).yld i H x H' → g x (wipe σ vs) H' fun σ2 H2 => wipe σ2 vs = wipe σ vs ∧ tt σ2 H2 fun b H3 =>
        if b = true then te σ2 H3 fun y H4 => ∃ acc, H4 D = some (.lst acc) ∧ acc.length < sizeLine ∧ Nx (upd H4 D (.lst (acc ++ [y]))) else Nx H3) := by
  refine ⟨fun i m H => m + i = xs.length ∧ Pv i H, ⟨xs.length, rfl, h0⟩, fun i m H w => ?_⟩
  obtain ⟨e, pv⟩ := w
  have sq := hl i H (by omega) pv
  cases m with
  | zero =>
    have z : i = xs.length := by omega
    subst z
    exact .inl ⟨⟨xs, sq, Nat.le_refl _⟩, hd H pv⟩
  | succ m =>
    have lt : i < xs.length := by omega
    refine .inr ⟨⟨xs, xs[i], sq, List.getElem?_eq_getElem lt⟩, Pv (i + 1), fun H' p => ⟨m, Nat.lt_succ_self m, by omega, p⟩, fun x H' y => ?_⟩
    obtain ⟨T, v, rfl, nT, rfl, hv⟩ := y
    exact hs i v H T (hv xs sq) nT pv
/-- a dict comprehension over enumerate of a tuple -/
theorem dc_enumT {K : PySem.W.Frag} {a : Addr} {xs : List V} {g : TG} {tt : TT} {tk tv : TE} {vs : List Nat} {σ : L2.St} {H1 : Hp} {D : Addr} {Qd : Hp → Prop} (Pv : Nat → Hp → Prop) (h0 : Pv 0 (upd H1 D (.dK [])))
    (hl : ∀ i H, i ≤ xs.length → Pv i H → SqT K H a xs)
    (hs : ∀ i x H T, xs[i]? = some x → H T = none → Pv i H → g (.ref T) (wipe σ vs) (upd H T (.tup [.int (i : Nat), x])) fun σ2 H2 => wipe σ2 vs = wipe σ vs ∧ tt σ2 H2 fun b H3 =>
      if b = true then tk σ2 H3 fun y H4 => tv σ2 H4 fun z H5 => ∃ kvs k, y = kV k ∧ H5 D = some (.dK kvs) ∧ kvs.length < sizeLine ∧ Pv (i + 1) (upd H5 D (.dK (putK kvs k z))) else Pv (i + 1) H3) (hd : ∀ H, Pv xs.length H → Qd H) :
    ∃ W : Nat → Nat → Hp → Prop, (∃ m, W 0 m (upd H1 D (.dK []))) ∧ ∀ i m H, W i m H →
      ((Itet K a).stop i H ∧ Qd H) ∨ ((Itet K a).go i H ∧ ∃ Nx : Hp → Prop, (∀ H', Nx H' → ∃ m', m' < m ∧ W (i + 1) m' H') ∧ ∀ x H', (Itet K a).yld i H x H' → g x (wipe σ vs) H' fun σ2 H2 => wipe σ2 vs = wipe σ vs ∧ tt σ2 H2 fun b H3 =>
        if b = true then tk σ2 H3 fun y H4 => tv σ2 H4 fun z H5 => ∃ kvs k, y = kV k ∧ H5 D = some (.dK kvs) ∧ kvs.length < sizeLine ∧ Nx (upd H5 D (.dK (putK kvs k z))) else Nx H3) := by
  refine ⟨fun i m H => m + i = xs.length ∧ Pv i H, ⟨xs.length, rfl, h0⟩, fun i m H w => ?_⟩
  obtain ⟨e, pv⟩ := w
  have sq := hl i H (by omega) pv
  cases m with
  | zero =>
    have z : i = xs.length := by omega
    subst z
    exact .inl ⟨⟨xs, sq, Nat.le_refl _⟩, hd H pv⟩
  | succ m =>
    have lt : i < xs.length := by omega
    refine .inr ⟨⟨xs, xs[i], sq, List.getElem?_eq_getElem lt⟩, Pv (i + 1), fun H' p => ⟨m, Nat.lt_succ_self m, by omega, p⟩, fun x H' y => ?_⟩
    obtain ⟨T, v, rfl, nT, rfl, hv⟩ := y
    exact hs i v H T (hv xs sq) nT pv
/-! ### how long a shown int is -/
theorem int_rp {K : PySem.W.Frag} {H : Hp} {i : Int} (h : i.natAbs < 10 ^ 300) : Rp K H (.int i) (.int i) := by
  have l1 : (PyData.shown (.int i)).length ≤ 301 := by
    show (Str.ofString (toString i)).length ≤ 301
    rw [PySem.ofString_length]
    exact int_text_length_le10 (k := 300) (by decide) h
  refine .inl ⟨.int i, ?_, rfl, Nat.zero_le _, ?_⟩
  · exact decide_eq_true (PySem.Flt.log2_lt_of (by decide) (Nat.lt_trans h (by decide +kernel)))
  · exact Nat.le_trans l1 (by rw [sizeLine_eq]; decide)
theorem ints_dp {K : PySem.W.Frag} {H : Hp} : ∀ fs : List Int, DpAll K H (fs.map V.int) (fs.map PyData.int)
  | [] => .nil
  | _ :: r => .cons (.int _) (ints_dp r)
theorem ints_shown : ∀ fs : List Int, (∀ f ∈ fs, f.natAbs < 10 ^ 12) → ((PyData.shownAll (fs.map PyData.int)).map (·.length)).sum ≤ 13 * fs.length
  | [], _ => Nat.zero_le _
  | f :: r, h => by
    have a := PyData.shown_int_le (h f List.mem_cons_self)
    have b := ints_shown r fun g hg => h g (List.mem_cons_of_mem _ hg)
    simp only [List.map_cons, PyData.shownAll, List.sum_cons, List.length_cons]
    omega
theorem ints_showable : ∀ fs : List Int, (∀ f ∈ fs, f.natAbs < 10 ^ 12) → PyData.showableAll (fs.map PyData.int) = true ∧ PyData.hasDictAll (fs.map PyData.int) = false ∧ PyData.depthAll (fs.map PyData.int) = 0 ∧ PyData.canLayAll0 (fs.map PyData.int) = true
  | [], _ => ⟨rfl, rfl, rfl, rfl⟩
  | f :: r, h => by
    obtain ⟨a, b, c, d⟩ := ints_showable r fun g hg => h g (List.mem_cons_of_mem _ hg)
    have e : (PyData.int f).showable = true := decide_eq_true (PySem.Flt.log2_lt_of (by decide) (Nat.lt_trans (h f List.mem_cons_self) (by decide +kernel)))
    refine ⟨?_, ?_, ?_, ?_⟩
    · rw [List.map_cons, PyData.showableAll, e, a]
      rfl
    · rw [List.map_cons, PyData.hasDictAll, b]
      rfl
    · rw [List.map_cons, PyData.depthAll, c]
      rfl
    · rw [List.map_cons, PyData.canLayAll0, d]
      rfl
theorem tup_rp {K : PySem.W.Frag} {H : Hp} {a : Addr} {fs : List Int} (ha : H a = some (.tup (fs.map V.int))) (hl : fs.length ≤ 1000) (h : ∀ f ∈ fs, f.natAbs < 10 ^ 12) :
    Rp K H (.ref a) (.tuple (fs.map PyData.int)) := by
  obtain ⟨s1, s2, s3, _⟩ := ints_showable fs h
  refine .inl ⟨.tup (.of ha) (ints_dp fs), ?_, ?_, ?_, ?_⟩
  · rw [PyData.showable]
    exact s1
  · rw [PyData.hasDict]
    exact s2
  · rw [PyData.depth, s3]
    decide
  · have e := tupleText_len_le (PyData.shownAll (fs.map PyData.int))
    have e2 := ints_shown fs h
    rw [PyData.shownAll_length, List.length_map] at e
    rw [PyData.shown, sizeLine_eq]
    omega
theorem tup_eqv {fs : List Int} (h : ∀ f ∈ fs, f.natAbs < 10 ^ 12) : SeqAt.shaped (.tuple (fs.map PyData.int)) = true ∧ PyData.eqv (.tuple (fs.map PyData.int)) (.tuple (fs.map PyData.int)) = true := by
  obtain ⟨_, _, s3, s4⟩ := ints_showable fs h
  have c : (PyData.tuple (fs.map PyData.int)).canLay0 = true := by
    rw [PyData.canLay0]
    exact s4
  refine ⟨?_, SeqAt.eqv_refl _ c⟩
  unfold SeqAt.shaped
  rw [c, PyData.depth, s3]
  rfl
theorem passN {X : Cx} : Passes (L2.CX X.prog X.w) X C8.E0 := passes_call L2.takes0 fun _ _ _ _ h => h
theorem call_lenK {X : Cx} {K : PySem.W.Frag} (h : X.K = K) : CallR X (.builtin "len") (fun xs H Q => ∃ p ys, xs = [V.ref p] ∧ (SqL K H p ys ∨ SqT K H p ys) ∧ Q (V.int ↑ys.length) H) := by
  subst h
  exact call_len_seq
theorem iteV {c : Bool} {x y z : V} {σ : L2.St} {H : Hp} {Q : VK} (e : (if c = true then x else y) = z) (h : Q z H) : if c = true then tC x σ H Q else tC y σ H Q := by
  subst e
  cases c
  · exact h
  · exact h
theorem iteVar {c : Bool} {n : Nat} {x y z : V} {σ : L2.St} {H : Hp} {Q : VK} (hs : σ[n]? = some (some x)) (e : (if c = true then x else y) = z) (h : Q z H) : if c = true then tVar n σ H Q else tC y σ H Q := by
  subst e
  cases c
  · exact h
  · exact ⟨_, hs, h⟩
theorem neI {a b : Int} (h : a = b) : (!decide (V.int a = V.int b)) = false := by
  subst h
  rw [decide_eq_true rfl]
  rfl
theorem neS {a b : Str} (h : a = b) : (!decide (V.str a = V.str b)) = false := by
  subst h
  rw [decide_eq_true rfl]
  rfl
end GG

set_option maxHeartbeats 4000000
/-! ### sorted(t), t a tuple of ints -/
namespace PySem.GX
open PySem PySem.Spec PyProof.Rows
section
variable {prog : Program} {w : World} {A : Around} {E : Value → Shared → Prop} {s : Shared}
theorem collect_tup {tp : Addr} {zs : List Value} {Q : List Value → Shared → Prop} (hl : s.heap.IsTuple tp zs.toArray) (few : zs.length ≤ sizeLine)
    (h : Q zs { s with heap := (s.heap.push (seqObj "list" #[] 0)).update s.heap.objs.size (Obj.mapSeq (· ++ zs.toArray)) }) : wpAny (model prog w) A (collect (.ref tp)) Q E s := by
  obtain ⟨o, at_, ct, n, dt⟩ := hl
  unfold collect
  apply wpAny_bind
  apply wpAny_runValue
  apply codeAny_builtin entry_proto_collect'
  show wpAny _ _ (do again (.builtin "list.__iadd__" ⟨[← newList [], .ref tp], []⟩)) _ _ s
  apply wpAny_bind
  refine wpAny_newList ?_
  apply wpAny_pure
  refine ⟨Code.quiet_builtin _ (by decide +kernel), codeAny_builtin entry_list_iadd' ?_⟩
  show wpAny _ _ (Builtin.List.listExtendWith (.ref s.heap.objs.size) (.ref tp) (.ref s.heap.objs.size)) _ _ { s with heap := s.heap.push (seqObj "list" #[] 0) }
  unfold Builtin.List.listExtendWith
  have there : (s.heap.push (seqObj "list" #[] 0)).get? tp = some o := Heap.get?_push_of_some _ at_
  have mine : (s.heap.push (seqObj "list" #[] 0)).get? s.heap.objs.size = some (seqObj "list" #[] 0) := Heap.get?_push_size _ rfl
  apply wpAny_bind
  refine wpAny_typeOf (T := "tuple") ⟨o, there, ct⟩ ?_
  rw [if_pos (by simp)]
  apply wpAny_bind
  refine listItems_at there dt ?_
  apply wpAny_bind
  refine listItems_at (xs := #[]) (n := 0) mine rfl ?_
  rw [if_neg (by simp)]
  apply wpAny_bind
  refine listUpdate_at (xs := #[]) (n := 0) mine rfl ?_ (Nat.zero_le _) ?_
  · apply wpAny_pure
    show wpAny (model prog w) A (do
        let o ← load s.heap.objs.size
        match o.data with
        | .seq xs _ => pure xs.toList
        | _ => unsupported "internal:collect") Q E { s with heap := (s.heap.push (seqObj "list" #[] 0)).update s.heap.objs.size (Obj.mapSeq (· ++ zs.toArray)) }
    apply wpAny_bind
    refine wpAny_load (get?_update_seq mine _) ?_
    show wpAny _ _ (pure ((#[] : Array Value) ++ zs.toArray).toList) Q E _
    have e : ((#[] : Array Value) ++ zs.toArray).toList = zs := by simp
    rw [e]
    exact wpAny_pure h
  · show (#[] ++ zs.toArray).size ≤ sizeLine + 1
    simp only [Array.size_append, List.size_toArray, List.length_nil]
    omega
theorem sorted_tup {tp : Addr} {zs : List Value} {ltv : Value → Value → Bool} {Q : Value → Shared → Prop} (O : SrtO.Swo ltv) (hl : s.heap.IsTuple tp zs.toArray) (few : zs.length ≤ sizeLine)
    (hS : 2 ≤ zs.length → ∀ (h₁ : Heap) (a : Addr), h₁.get? a = some (seqObj "list" zs.toArray 0) → (∀ b o, s.heap.get? b = some o → b ≠ a ∧ h₁.get? b = some o) → SrtO.SortableO prog w A.in1.in1 { s with heap := h₁ } a zs ltv)
    (h : ∀ out : List Value, SrtO.Srtd ltv out → SrtO.Stb ltv out zs → Q (.ref (s.heap.objs.size + 1)) { s with heap := sortedAll s.heap zs out.toArray }) :
    wpAny (model prog w) A (call (.builtin "sorted") [.ref tp]) Q E s := by
  apply Calls.call_function_entry kind_sorted plain_sorted entry_sorted (args_sorted1 _)
  unfold Builtin.«sorted»
  refine wpAny_bind (m := checkCount "sorted" 1 1 _) (wpAny_pure ?_)
  apply wpAny_bind
  refine collect_tup hl few ?_
  apply wpAny_bind
  refine wpAny_newList ?_ few
  have size : ((s.heap.push (seqObj "list" #[] 0)).update s.heap.objs.size (Obj.mapSeq (· ++ zs.toArray))).objs.size = s.heap.objs.size + 1 := by
    rw [Heap.size_update, size_push']
  have made : (((s.heap.push (seqObj "list" #[] 0)).update s.heap.objs.size (Obj.mapSeq (· ++ zs.toArray))).push (seqObj "list" zs.toArray 0)).get? (s.heap.objs.size + 1) = some (seqObj "list" zs.toArray 0) := by
    rw [← size]
    exact Heap.get?_push_size _ rfl
  have old : ∀ b o, s.heap.get? b = some o → b ≠ s.heap.objs.size + 1 ∧ (((s.heap.push (seqObj "list" #[] 0)).update s.heap.objs.size (Obj.mapSeq (· ++ zs.toArray))).push (seqObj "list" zs.toArray 0)).get? b = some o := by
    intro b o q
    have lt : b < s.heap.objs.size := Heap.lt_size q
    refine ⟨Nat.ne_of_lt (Nat.lt_succ_of_lt lt), Heap.get?_push_of_some _ ?_⟩
    rw [Heap.get?_update_ne _ _ _ _ (Nat.ne_of_lt lt)]
    exact Heap.get?_push_of_some _ q
  show wpAny _ _ _ _ _ { s with heap := ((s.heap.push (seqObj "list" #[] 0)).update s.heap.objs.size (Obj.mapSeq (· ++ zs.toArray))).push (seqObj "list" zs.toArray 0) }
  rw [size]
  apply wpAny_bind
  apply wpAny_holding
  refine wpAny_call_entry slot_list_sort ⟨_, made, rfl⟩ entry_list_sort (SrtO.list_sort_ord O made few (fun h2 => hS h2 _ _ made old) fun out hs hb => ⟨_, rfl, ?_⟩) (args_list_sort _)
  exact wpAny_pure ⟨_, rfl, h out hs hb⟩
end
end PySem.GX
namespace GG
open PySem PySem.Spec PyProof.Rows L2
def rSortT (K : PySem.W.Frag) : List V → Hp → VK → Prop := fun vs H Q => ∃ (a : Addr) (ns : List Int), vs = [.ref a] ∧ SqT K H a (ns.map V.int) ∧
  ∀ (ns' : List Int) (p : Addr), ns'.Perm ns → ns'.Pairwise (· ≤ ·) → H p = none → Q (.ref p) (upd H p (.lst (ns'.map V.int)))
theorem cr_sortT {X : Cx} : CallR X (.builtin "sorted") (rSortT X.K) := by
  intro pins s σ H vs us Q I r ⟨a, ns, ev, hs, q⟩
  subst ev
  obtain ⟨u, rfl, ru⟩ := vals1 r
  cases (show u = Value.ref a from ru)
  obtain ⟨its, rv, hl, hz⟩ := I.tuple hs
  have hI := rv.ints
  refine PySem.GX.sorted_tup SrtO.swo_int hl (by rw [← rv.length]; exact hz) (fun h2 h₁ a' _ _ => SrtO.ints_sortable hI h2) fun out h1 h2 => ?_
  obtain ⟨k1, k2, k3⟩ := SrtO.ints_out hI h1 h2
  obtain ⟨ep, at_⟩ := PyProof.Rows.sortedAll_at s.heap its out.toArray
  have few : ((out.map SrtO.iv).map V.int).length ≤ sizeLine := by
    rw [List.length_map, k2.length_eq]
    rw [List.length_map] at hz
    exact hz
  exact ⟨.ref _, upd H (s.heap.objs.size + 1) (.lst ((out.map SrtO.iv).map V.int)),
    I.laid (t' := s.toks) (fun _ _ => PyProof.Rows.sortedAll_old) (Nat.le_succ _) ⟨few, out, ep, vals_of_ints k1, at_⟩, rfl, q _ _ k2 k3 (I.hok.fresh (Nat.le_succ _))⟩
end GG

set_option maxHeartbeats 8000000
namespace GG
open PySem PySem.Spec PyProof.Rows L2 RZ
theorem tyOf_same {K : PySem.W.Frag} {H H' : Hp} {v : V} {t : Value} (s : Same H H') (h : TyOf K H v t) : TyOf K H' v t := by
  cases h with
  | non => exact .non
  | bl x => exact .bl x
  | int i => exact .int i
  | str x => exact .str x
  | flt x => exact .flt x
  | lst e => exact .lst (s _ _ e)
  | frz e => exact .frz (s _ _ e)
  | tup e => exact .tup (s _ _ e)
  | dK e => exact .dK (s _ _ e)
  | dT e => exact .dT (s _ _ e)
  | ins e cl ha hn htk hm => exact .ins (s _ _ e) cl ha hn htk hm
theorem tyX_same {K : PySem.W.Frag} {H H' : Hp} {v : V} {t : Value} (s : Same H H') (h : TyX K H v t) : TyX K H' v t := by
  cases h with
  | base h => exact .base (tyOf_same s h)
  | byt b => exact .byt b
  | set e => exact .set (s _ _ e)
  | kList e c => exact .kList e c
  | kTuple e c => exact .kTuple e c
  | kDict e c => exact .kDict e c
  | fTuple e => exact .fTuple (s _ _ e)
  | fDict e => exact .fDict (s _ _ e)
theorem noInt_same {K : PySem.W.Frag} {H H' : Hp} {v : V} (s : Same H H') (h : NoInt K H v) : NoInt K H' v := by
  rcases h with ⟨b, rfl⟩ | ⟨t, ty, kb⟩
  · exact .inl ⟨b, rfl⟩
  · exact .inr ⟨t, tyX_same s ty, kb⟩
theorem sqT_same {K : PySem.W.Frag} {H H' : Hp} {a : Addr} {xs : List V} (s : Same H H') (h : SqT K H a xs) : SqT K H' a xs := by
  rcases h with (h | ⟨o, h⟩) | h
  · exact .inl (.inl (s _ _ h))
  · exact .inl (.inr ⟨o, s _ _ h⟩)
  · exact .inr h
theorem walk_zipT {K : PySem.W.Frag} {a b : Addr} {xs ys : List V} {n : Nat} (hn : n = min xs.length ys.length) : Walk (ItzT K a b) n (fun H => SqT K H a xs ∧ SqT K H b ys) (YPair (fun i => xs[i]?) (fun i => ys[i]?)) := by
  refine ⟨fun i H hi g => ?_, fun H g => ⟨xs, ys, g.1, g.2, by omega⟩, fun i H v H' _ g y => ?_⟩
  · have l1 : i < xs.length := by omega
    have l2 : i < ys.length := by omega
    exact ⟨xs, ys, xs[i], ys[i], g.1, g.2, List.getElem?_eq_getElem l1, List.getElem?_eq_getElem l2⟩
  · obtain ⟨T, x, z, e1, e2, e3, e4, e5⟩ := y
    exact ⟨T, x, z, e1, e2, e3, e4 xs g.1, e5 ys g.2⟩
/-- what is_within answers of an item: 0 to many - 1 -/
def inM (many : Int) : V → Bool
  | .int n => inOk 0 (many - 1) n
  | _ => false
theorem inM_no {K : PySem.W.Frag} {H : Hp} {v : V} {many : Int} (h : NoInt K H v) : inM many v = false := by
  rcases h with ⟨b, rfl⟩ | ⟨t, ty, kb⟩
  · rfl
  · cases v with
    | int n =>
      cases ty with
      | base ty =>
        cases ty
        exact absurd kb (by decide +kernel)
    | _ => rfl
/-- ascending, told of ints -/
def ascI (ns : List Int) : Bool := (List.range (ns.length - 1)).all fun i => decide (ns.getD i 0 < ns.getD (i + 1) 0)
end GG
namespace GG
open PySem PySem.Spec PyProof.Rows L2
def inI : V → Bool
  | .int n => intOk n
  | _ => false
theorem inI_no {K : PySem.W.Frag} {H : Hp} {v : V} (h : NoInt K H v) : inI v = false := by
  rcases h with ⟨b, rfl⟩ | ⟨t, ty, kb⟩
  · rfl
  · cases v with
    | int n =>
      cases ty with
      | base ty =>
        cases ty
        exact absurd kb (by decide +kernel)
    | _ => rfl
theorem ints_flat : ∀ fs : List Int, PyData.depthAll (fs.map PyData.int) = 0 ∧ PyData.canLayAll0 (fs.map PyData.int) = true
  | [] => ⟨rfl, rfl⟩
  | f :: r => by
    obtain ⟨a, b⟩ := ints_flat r
    refine ⟨?_, ?_⟩
    · rw [List.map_cons, PyData.depthAll, a]
      rfl
    · rw [List.map_cons, PyData.canLayAll0, b]
      rfl
theorem list_shaped (fs : List Int) : SeqAt.shaped (.list (fs.map PyData.int)) = true := by
  obtain ⟨a, b⟩ := ints_flat fs
  unfold SeqAt.shaped
  rw [PyData.canLay0, b, PyData.depth, a]
  rfl
theorem ints_eqv : ∀ fs gs : List Int, PyData.eqvAll (fs.map PyData.int) (gs.map PyData.int) = decide (fs = gs)
  | [], [] => rfl
  | [], _ :: _ => rfl
  | _ :: _, [] => rfl
  | f :: fs, g :: gs => by
    rw [List.map_cons, List.map_cons, PyData.eqvAll, ints_eqv fs gs, PyData.eqv]
    by_cases h : f = g
    · by_cases h2 : fs = gs
      · simp [h, h2]
      · simp [h, h2]
    · simp [h]
theorem dpAll_ints {K : PySem.W.Frag} {H : Hp} : ∀ fs : List Int, DpAll K H (fs.map V.int) (fs.map PyData.int)
  | [] => .nil
  | _ :: r => .cons (.int _) (dpAll_ints r)
/-- the places of a web of so many -/
def places (many : Int) : List Int := (List.range many.toNat).map fun (i : Nat) => (i : Int)
theorem places_sorted (many : Int) : (places many).Pairwise (· ≤ ·) := by
  unfold places
  rw [List.pairwise_map]
  exact List.Pairwise.imp (fun h => by omega) List.pairwise_lt_range
end GG

set_option maxHeartbeats 4000000
namespace GG
open PySem PySem.Spec PyProof.Rows L2
/-! ### repr of what was made in the law itself: dicts of one int to one int may lie within -/
mutual
inductive Rn (H : Hp) : V → PyData → Prop
  | non : Rn H .non .none
  | bl (b : Bool) : Rn H (.bl b) (.bool b)
  | int (i : Int) : Rn H (.int i) (.int i)
  | str (x : Str) : Rn H (.str x) (.str x)
  | lst {a : Addr} {xs : List V} {ds : List PyData} : H a = some (.lst xs) → RnAll H xs ds → Rn H (.ref a) (.list ds)
  | tup {a : Addr} {xs : List V} {ds : List PyData} : H a = some (.tup xs) → RnAll H xs ds → Rn H (.ref a) (.tuple ds)
  | dct0 {a : Addr} : H a = some (.dK []) → Rn H (.ref a) (.dict [])
  | dct {a : Addr} {i j : Int} : H a = some (.dK [(.inl i, .int j)]) → Rn H (.ref a) (.dict [(.int i, .int j)])
inductive RnAll (H : Hp) : List V → List PyData → Prop
  | nil : RnAll H [] []
  | cons {v : V} {vs : List V} {d : PyData} {ds : List PyData} : Rn H v d → RnAll H vs ds → RnAll H (v :: vs) (d :: ds)
end
section
variable {X : Cx} {pins : List (Addr × Obj)} {σ : L2.St} {H : Hp} {s : Shared}
/-- the table of modules is none of the tracked ones -/
theorem not_mods (I : Inv X pins σ H s) (sm : ∃ mm, X.base.Ns sysModules mm) {a : Addr} {o : HO} (h : H a = some o) : a ≠ sysModules := by
  intro z
  subst z
  obtain ⟨mm, ob, es, ep, e, _⟩ := sm
  rw [(I.bs _ _ e).2] at h
  cases h
mutual
theorem Rn.reads (I : Inv X pins σ H s) (sm : ∃ mm, X.base.Ns sysModules mm) : ∀ (d : PyData) (v : V) (u : Value), Rn H v d → RelV v u → ∃ as, Reads s.heap u d as ∧ sysModules ∉ as
  | .none, _, _, h, r => by
    cases h
    cases r
    exact ⟨_, .none, List.not_mem_nil⟩
  | .bool b, _, _, h, r => by
    cases h
    cases r
    exact ⟨_, .bool b, List.not_mem_nil⟩
  | .int i, _, _, h, r => by
    cases h
    obtain ⟨t, rfl⟩ := r
    exact ⟨_, .int i t, List.not_mem_nil⟩
  | .str x, _, _, h, r => by
    cases h
    obtain ⟨t, rfl⟩ := r
    exact ⟨_, .str x t, List.not_mem_nil⟩
  | .list ds, _, _, h, r => by
    cases h with
    | @lst a xs _ ha hd =>
      cases r
      obtain ⟨_, its, n, rv, e⟩ := (show ObjOk X.prog X.w H s.heap a (.lst xs) from I.hok a _ ha)
      obtain ⟨as, ra, na⟩ := Rn.readsAll I sm ds _ its hd rv
      refine ⟨_, .list e rfl rfl ra, fun z => ?_⟩
      rcases List.mem_cons.mp z with z | z
      · exact not_mods I sm ha z.symm
      · exact na z
  | .tuple ds, _, _, h, r => by
    cases h with
    | @tup a xs _ ha hd =>
      cases r
      obtain ⟨_, its, rv, o, e, hc, n, hdt⟩ := (show ObjOk X.prog X.w H s.heap a (.tup xs) from I.hok a _ ha)
      obtain ⟨as, ra, na⟩ := Rn.readsAll I sm ds _ its hd rv
      exact ⟨_, .tuple e hc hdt ra, na⟩
  | .dict kvs, _, _, h, r => by
    cases h with
    | @dct0 a ha =>
      cases r
      obtain ⟨_, _, vs, rk, o, es, ep, h1, h2, h3, _, h5, _⟩ := (show ObjOk X.prog X.w H s.heap a (.dK []) from I.hok a _ ha)
      cases rk
      cases hl : es.toList with
      | nil =>
        refine ⟨a :: ([] ++ []), .dict h1 h2.1 h3 ?_ ?_, fun z => ?_⟩
        · rw [hl]
          exact .nil
        · rw [hl]
          exact .nil
        · have z' : sysModules = a := by simpa using z
          exact not_mods I sm ha z'.symm
      | cons en r =>
        rw [hl] at h5
        cases h5
    | @dct a i j ha =>
      cases r
      obtain ⟨_, _, vs, rk, o, es, ep, h1, h2, h3, _, h5, _⟩ := (show ObjOk X.prog X.w H s.heap a (.dK [(.inl i, .int j)]) from I.hok a _ ha)
      cases rk with
      | cons r1 r2 =>
        cases r2
        obtain ⟨ek, ev⟩ := r1
        cases hl : es.toList with
        | nil =>
          rw [hl] at h5
          cases h5
        | cons en r =>
          rw [hl] at h5
          cases h5 with
          | cons p1 p2 p3 =>
            cases p3
            rw [← ek] at p1
            obtain ⟨i', t, e1, e2⟩ | ⟨x, t, e1, e2⟩ := keyIs_shape (k := Sum.inl i) (v := en.key) p1
            · cases e1
              obtain ⟨t2, e3⟩ := ev
              refine ⟨a :: ([] ++ []) ++ ([] ++ []), .dict h1 h2.1 h3 ?_ ?_, fun z => ?_⟩
              · rw [hl]
                show ReadsAll s.heap [en.key] [.int i] ([] ++ [])
                rw [e2]
                exact .cons (.int i t) .nil
              · rw [hl]
                show ReadsAll s.heap [en.val] [.int j] ([] ++ [])
                rw [p2, e3]
                exact .cons (.int j t2) .nil
              · have z' : sysModules = a := by simpa using z
                exact not_mods I sm ha z'.symm
            · cases e1
theorem Rn.readsAll (I : Inv X pins σ H s) (sm : ∃ mm, X.base.Ns sysModules mm) : ∀ (ds : List PyData) (vs : List V) (us : List Value), RnAll H vs ds → Vals vs us → ∃ as, ReadsAll s.heap us ds as ∧ sysModules ∉ as
  | [], _, _, h, r => by
    cases h
    cases r
    exact ⟨_, .nil, List.not_mem_nil⟩
  | d :: ds, _, _, h, r => by
    cases h with
    | cons h1 h2 =>
      cases r with
      | cons r1 r2 =>
        obtain ⟨as, q1, n1⟩ := Rn.reads I sm d _ _ h1 r1
        obtain ⟨bs, q2, n2⟩ := Rn.readsAll I sm ds _ _ h2 r2
        exact ⟨_, .cons q1 q2, fun z => (List.mem_append.mp z).elim n1 n2⟩
end
end
def rReprN : List V → Hp → VK → Prop := fun xs H Q => ∃ x d, xs = [x] ∧ Rn H x d ∧ d.showable = true ∧ d.depth ≤ 40 ∧ d.shown.length ≤ sizeLine ∧ Q (.str d.shown) H
/-- all but what call_reprU asks: where the value is a list, a tuple or a dict; scalars go by call_reprU -/
theorem call_reprN {X : Cx} (gd : X.A.guards = some []) (un : X.A.units + 64 < cLine) (sm : ∃ mm, X.base.Ns sysModules mm) : CallR X (.builtin "repr") rReprN := by
  intro pins s σ H xs us Q I r h
  obtain ⟨x, d, rfl, hd, sh, dp, sz, q⟩ := h
  have flat : Dp X.K H x d → d.hasDict = false → wpAny (model X.prog X.w) X.A (call (.builtin "repr") us) (EP X pins σ Q) X.xe s := fun h1 h2 =>
    call_reprU gd un pins s σ H _ us Q I r ⟨x, d, rfl, h1, ⟨sh, h2, dp, sz⟩, q⟩
  have deep : ∀ a, x = .ref a → wpAny (model X.prog X.w) X.A (call (.builtin "repr") us) (EP X pins σ Q) X.xe s := by
    rintro a rfl
    obtain ⟨u, rfl, ru⟩ := vals1 r
    cases (show u = Value.ref a from ru)
    obtain ⟨as, rd, na⟩ := Rn.reads I sm d _ _ hd rfl
    refine repr_of_reads' rd sh (fun _ => na) gd (by omega) (fun _ _ e => e) (fun h' u tk kept => ?_) sz
    exact ⟨.str _, H, I.kept kept, ⟨_, rfl⟩, q⟩
  cases hd with
  | non => exact flat .non rfl
  | bl b => exact flat (.bl b) rfl
  | int i => exact flat (.int i) rfl
  | str z => exact flat (.str z) rfl
  | lst h1 h2 => exact deep _ rfl
  | tup h1 h2 => exact deep _ rfl
  | dct0 h1 => exact deep _ rfl
  | dct h1 => exact deep _ rfl
end GG

set_option maxHeartbeats 4000000
namespace GG
open PySem PySem.Spec PyProof.Rows L2
/-! ### a tuple times 1 is itself -/
theorem tuple_mul1 (l : Addr) (items : Array Value) (n : Nat) (dd : Option Addr) (sl : Array (Option Value)) (u : Tok) :
    Meets (Builtin.«tuple.__mul__» ⟨[.ref l, .int 1 u], []⟩) (fun _ R s => s.heap.get? l = some { cls := .type "tuple", dict := dd, data := .seq items n, slots := sl } ∧
      R (.ok (.ret (Value.ref l))) s) :=
  .of_wp fun prog w A R s h => by
    obtain ⟨hp, g, d, tk, os⟩ := s
    obtain ⟨hl, h⟩ := h
    have f1 := AutoSeq1.idx_int
    wp_walk using wpAny_loadPart' hl
    exact ⟨_, rfl, h⟩
def rRepN (K : PySem.W.Frag) : R2 := fun x y H Q => ∃ l k xs, x = .ref l ∧ y = .int k ∧ SqT K H l xs ∧ xs ≠ [] ∧ 1 ≤ k ∧ k ≤ 1000 ∧ xs.length ≤ 1000 ∧ (k = 1 → Q (.ref l) H) ∧
  (k ≠ 1 → ∀ p, H p = none → Q (.ref p) (upd H p (.tup (List.replicate k.toNat xs).flatten)))
theorem op_repN {X : Cx} : OpR X (binaryOp .Mult) (rRepN X.K) := by
  intro pins s σ H x y v u Q I rx ry ⟨l, k, xs, ex, ey, hT, hne, k1, k2, few, q1, q2⟩
  by_cases e : k = 1
  · subst e
    subst ex ey
    cases rx
    obtain ⟨t, rfl⟩ := ry
    obtain ⟨vs, rv, ⟨⟨c, od, dt, so⟩, at_, hc, tk, hdt⟩, _⟩ := I.tuple hT
    simp only at hc hdt
    subst hc hdt
    refine wpAny_binaryOp_repeat_ref (T := "tuple") (U := "int") (by decide) ⟨_, at_, rfl⟩ (fun s' => typeIs_int s' 1 t) noFill_tuple_mul F.fills_int_mul F.slot_int_rmul repeat_tuple F.slot_int_index.lookup
      (call_meets F.slot_int_rmul (typeIs_int s 1 t) F.entry_int_rmul (F.args_int_rmul_2 _ _) (int_rmul_tuple 1 t l vs.toArray tk od so)
        ⟨at_, rfl, ⟨_, at_, rfl⟩, call_meets F.slot_tuple_mul ⟨_, at_, rfl⟩ F.entry_tuple_mul (F.args_tuple_mul_2 _ _)
          (tuple_mul1 l vs.toArray tk od so t) ⟨at_, ?_⟩⟩)
    exact ⟨.ref l, _, I, rfl, q1 rfl⟩
  · exact op_repT pins s σ H x y v u Q I rx ry ⟨l, k, xs, ex, ey, hT, hne, by omega, k2, few, q2 e⟩
end GG
namespace GG
open PySem PySem.Spec PyProof.Rows L2
/-! ### t + u, any tuples -/
def rCatN (K : PySem.W.Frag) : R2 := fun x y H Q => ∃ a b xs ys, x = .ref a ∧ y = .ref b ∧ SqT K H a xs ∧ SqT K H b ys ∧ xs.length + ys.length ≤ sizeLine ∧ ∀ r H', Same H H' → SqT K H' r (xs ++ ys) → Q (.ref r) H'
theorem op_catN {X : Cx} : OpR X (binaryOp .Add) (rCatN X.K) := by
  intro pins s σ H x y v u Q I rx ry h
  obtain ⟨a, b, xs, ys, rfl, rfl, ha, hb, hz, q⟩ := h
  by_cases hx : xs = []
  · subst hx
    cases rx
    cases ry
    obtain ⟨its, r1, p1, _⟩ := I.tuple ha
    obtain ⟨its2, r2, p2, _⟩ := I.tuple hb
    obtain ⟨⟨cls, dd, data, sl⟩, ho, hc, n, hd⟩ := id p1
    obtain ⟨⟨cls2, dd2, data2, sl2⟩, ho2, hc2, n2, hd2⟩ := id p2
    simp only at hc hd hc2 hd2
    subst hc hd hc2 hd2
    cases r1
    exact concat_meets ⟨_, ho, rfl⟩ ⟨_, ho2, rfl⟩ noFill_tuple_add seq_tuple_add PySem.F.slot_tuple_add PySem.F.entry_tuple_add (PySem.F.args_tuple_add_2 _ _)
      (tuple_addW0 a b _ its2.toArray n n2 dd dd2 sl sl2 (by rfl)) ⟨ho, ho2, ⟨.ref b, H, I, rfl, q b H (.refl H) hb⟩⟩
  · exact op_catT pins s σ H _ _ v u Q I rx ry ⟨a, b, xs, ys, rfl, rfl, ha, hb, hx, hz, fun e => q a H (.refl H) (by subst e; rw [List.append_nil]; exact ha), fun e p np => q p _ (fun c o z => by rw [upd_ne (ne_of_none z np)]; exact z) (.of upd_same)⟩
end GG
namespace GG
open PySem PySem.Spec PyProof.Rows L2
/-! ### t[a:b], any tuple -/
def rSlN (K : PySem.W.Frag) : V → Option Int → Option Int → Hp → VK → Prop := fun x lo hi H Q => ∃ a xs, x = .ref a ∧ SqT K H a xs ∧ ∀ r H', Same H H' → SqT K H' r (cutV xs lo hi) → Q (.ref r) H'
theorem sl_tupN {X : Cx} : SlR X (rSlN X.K) := by
  intro pins s σ H x v vl vu lo hi sl Q I rx hs pl pu h
  obtain ⟨a, xs, ex, hx, q⟩ := h
  refine sl_tupA pins s σ H x v vl vu lo hi sl Q I rx hs pl pu ⟨a, xs, ex, hx, fun w => q a H (.refl H) ?_, fun w p np => q p _ (fun c o z => by rw [upd_ne (ne_of_none z np)]; exact z) (.of upd_same)⟩
  have e : cutV xs lo hi = xs := by
    unfold cutV
    rw [w.1, w.2]
    simp
  rw [e]
  exact hx
theorem cutV_from1 {xs : List V} : cutV xs (some 1) none = xs.drop 1 := by
  unfold cutV
  show (xs.drop (min (1 : Int).toNat xs.length)).take (xs.length - min (1 : Int).toNat xs.length) = _
  have e : (1 : Int).toNat = 1 := rfl
  rw [e]
  cases xs with
  | nil => rfl
  | cons x r =>
    have : min 1 (x :: r).length = 1 := by
      rw [List.length_cons]
      omega
    rw [this, List.take_of_length_le (by rw [List.length_drop]; exact Nat.le_refl _)]
end GG

set_option maxHeartbeats 4000000
/-! ### own classes with __contains__, __getitem__, __len__ -/
namespace GG
open PySem PySem.Spec PyProof.Rows L2
section
variable {X : Cx} {CX : CXT} {k : Nat} {f C a dx : Addr} {fs : List (Str × V)} {fd : FuncData} {ps : List Str} {sp : Sp} {E : XK} {pins : List (Addr × Obj)} {σ : L2.St} {H : Hp} {s : Shared}
theorem ins_inst (I : Inv X pins σ H s) (e : H a = some (.ins C dx fs)) : ∃ ox od, PySem.W.InstAt s.heap a ox C od := by
  obtain ⟨_, _, _, at_, mA, ns1, _, _⟩ := (show ObjOk X.prog X.w H s.heap a (.ins C dx fs) from I.hok a _ e)
  obtain ⟨od, ho, _⟩ := lookIn_ns ns1
  exact ⟨_, some od, at_, rfl, rfl, ho⟩
theorem inv_fr (I : Inv X pins σ H s) : ∃ m, Fr X.base X.env.locals s.heap m := by
  obtain ⟨m, ns, _⟩ := I.loc
  exact ⟨m, ns, fun b o e => (I.bs b o e).1, Nat.le_trans I.ok.bsz I.ok.above⟩
/-- the method's call, in the same place or one in -/
theorem run_in {us : List Value} {vs : List V} {Q : VK} {R : Value → Shared → Prop} (A : Around) (hA : A = X.A ∨ A = X.A.in1) (F : FnOk X.prog X.w X.K X.mg X.base CX k f fd ps sp) (hr : Room (k + 1) X.A) (bd : L2.Binds X.K fd ps []) (pass : Passes CX X E)
    (I : Inv X pins σ H s) (r : Vals vs us) (h : sp vs H Q E) (hQ : ∀ v H' u s', Inv X pins σ H' s' → RelV v u → Q v H' → R u s') :
    wpAny (model X.prog X.w) A (call (.ref f) us) R X.xe s := by
  have ln : (us ++ []).length = ps.length := by
    rw [List.append_nil, ← r.length]
    exact F.len _ _ _ _ h
  have bu := bd s us I.kIn ln
  rw [List.append_nil] at bu
  have en : Env0 X.prog X.w X.K X.mg X.base A X.stack s H ∧ Room k A := by
    rcases hA with rfl | rfl
    · exact ⟨I.env0, hr.mono (Nat.le_succ k)⟩
    · exact ⟨I.env0.in1, hr.in1⟩
  refine wpAny_call (codeAny_mono (F.run A X.stack s H ⟨us, []⟩ us vs Q E en.2 en.1 bu r h) ?_)
  intro res s2 z
  cases res with
  | error e => exact pass pins σ H s e s2 I z
  | ok fl =>
    cases fl with
    | ret u =>
      obtain ⟨v, H', I2, rv, q⟩ := I.after z
      exact hQ v H' u s2 I2 rv q
    | next => exact z.elim
    | brk => exact z.elim
    | cont => exact z.elim
/-- e in o, e not in o -/
def rInO (C : Addr) (sp : Sp) (E : XK) (neg : Bool) : R2 := fun x y H Q => ∃ (a dx : Addr) (fs : List (Str × V)), y = .ref a ∧ H a = some (.ins C dx fs) ∧ sp [.ref a, x] H (fun r H' => ∃ b, r = .bl b ∧ Q (.bl (xor neg b)) H') E
theorem op_inO (m : Meth X.K C "__contains__" f) (F : FnOk X.prog X.w X.K X.mg X.base CX k f fd ps sp) (hr : Room (k + 1) X.A) (bd : L2.Binds X.K fd ps []) (pass : Passes CX X E) : OpR X (compareOp .In) (rInO C sp E false) := by
  intro pins s σ H x y v u Q I rx ry ⟨a, dx, fs, ey, ea, q⟩
  subst ey
  cases (show u = Value.ref a from ry)
  obtain ⟨ox, od, at_⟩ := ins_inst I ea
  obtain ⟨mm, fr⟩ := inv_fr I
  refine PySem.W.in_K fr I.ok.mod.kin at_ m.at_ m.fn (run_in X.A (.inl rfl) F hr bd pass I (vs := [.ref a, x]) (.cons rfl (.cons rx .nil)) q ?_)
  intro r H' u2 s2 I2 rr ⟨b, eb, q2⟩
  subst eb
  cases (show u2 = Value.bool b from rr)
  have e : (xor false b) = b := by cases b <;> rfl
  rw [e] at q2
  exact wpAny_pure ⟨.bl b, H', I2, rfl, q2⟩
theorem op_notInO (m : Meth X.K C "__contains__" f) (F : FnOk X.prog X.w X.K X.mg X.base CX k f fd ps sp) (hr : Room (k + 1) X.A) (bd : L2.Binds X.K fd ps []) (pass : Passes CX X E) : OpR X (compareOp .NotIn) (rInO C sp E true) := by
  intro pins s σ H x y v u Q I rx ry ⟨a, dx, fs, ey, ea, q⟩
  subst ey
  cases (show u = Value.ref a from ry)
  obtain ⟨ox, od, at_⟩ := ins_inst I ea
  obtain ⟨mm, fr⟩ := inv_fr I
  refine PySem.W.notIn_K fr I.ok.mod.kin at_ m.at_ m.fn (run_in X.A (.inl rfl) F hr bd pass I (vs := [.ref a, x]) (.cons rfl (.cons rx .nil)) q ?_)
  intro r H' u2 s2 I2 rr ⟨b, eb, q2⟩
  subst eb
  cases (show u2 = Value.bool b from rr)
  have e : (xor true b) = !b := by cases b <;> rfl
  rw [e] at q2
  exact wpAny_pure ⟨.bl (!b), H', I2, rfl, q2⟩
/-- len(o) -/
def rLenO (C : Addr) (sp : Sp) (E : XK) : List V → Hp → VK → Prop := fun xs H Q => ∃ (a dx : Addr) (fs : List (Str × V)), xs = [.ref a] ∧ H a = some (.ins C dx fs) ∧ sp [.ref a] H (fun r H' => ∃ n : Int, r = .int n ∧ (0 ≤ n ∧ n < 2 ^ 63) ∧ Q (.int n) H') E
theorem call_lenO (m : Meth X.K C "__len__" f) (F : FnOk X.prog X.w X.K X.mg X.base CX k f fd ps sp) (hr : Room (k + 1) X.A) (bd : L2.Binds X.K fd ps []) (pass : Passes CX X E) : CallR X (.builtin "len") (rLenO C sp E) := by
  intro pins s σ H xs us Q I r ⟨a, dx, fs, ex, ea, q⟩
  subst ex
  obtain ⟨u, rfl, ru⟩ := vals1 r
  cases (show u = Value.ref a from ru)
  obtain ⟨ox, od, at_⟩ := ins_inst I ea
  obtain ⟨mm, fr⟩ := inv_fr I
  refine PySem.W.len_K fr I.ok.mod.kin at_ m.at_ m.fn (run_in X.A.in1 (.inr rfl) F hr bd pass I (vs := [.ref a]) (.cons rfl .nil) q ?_)
  intro r2 H' u2 s2 I2 rr ⟨n, en, hn, q2⟩
  subst en
  obtain ⟨t, rfl⟩ := rr
  exact ⟨hn, .int n, H', I2.tok _, ⟨_, rfl⟩, q2⟩
/-- o[i] -/
def rIxO (C : Addr) (sp : Sp) (E : XK) : R2 := fun x y H Q => ∃ (a dx : Addr) (fs : List (Str × V)), x = .ref a ∧ H a = some (.ins C dx fs) ∧ sp [.ref a, y] H Q E
theorem pe_ixO {va vb : Expr} {ta tb : TE} {pos : Pos} (m : Meth X.K C "__getitem__" f) (fn : PySem.W.fnIn X.K f = true) (F : FnOk X.prog X.w X.K X.mg X.base CX k f fd ps sp) (hr : Room (k + 1) X.A) (bd : L2.Binds X.K fd ps []) (pass : Passes CX X E)
    (ha : PE X va ta) (hb : PE X vb tb) (hsl : ∀ (a : Addr) (i : Value), subscripted vb true (.ref a) i = runValue (.builtin "lifetime.subscript" ⟨[.ref a, i], []⟩) := by intro _ _; with_unfolding_all rfl) :
    PE X (.Subscript va vb pos) (tOp (rIxO C sp E) ta tb) := by
  constructor
  intro pins s σ H Q I h
  refine Subscript_ (binT ha hb I h ?_)
  intro v u s2 x y H2 I2 rx ry ⟨a, dx, fs, ex, ea, q⟩
  subst ex
  cases (show v = Value.ref a from rx)
  obtain ⟨ox, od, at_⟩ := ins_inst I2 ea
  obtain ⟨mm, fr⟩ := inv_fr I2
  exact PySem.W.sub_K fr I2.ok.mod.kin at_ m.at_ fn m.fn (run_in X.A.in1 (.inr rfl) F hr bd pass I2 (vs := [.ref a, y]) (.cons rfl (.cons ry .nil)) q fun r H' u2 s3 I3 rr q2 => ⟨r, H', I3, rr, q2⟩) (hsl a u)
end
end GG

set_option maxHeartbeats 4000000
/-! ### own classes with __eq__: == and != -/
namespace PySem.W
open PySem PySem.Calls PyProof.Rows
section
variable {prog : Program} {w : World} {A : Around} {E : Value → Shared → Prop} {s : Shared} {K : Frag} {x C L f : Addr} {h₀ : Heap} {m : Str → Option Value} {ox : Obj} {od : Option Obj} {b tb : Value}
theorem ifBound_KB {M : Model} {args : List Value} {Q : Option Value → Shared → Prop} (X : K.In s.heap) (I : InstAt s.heap x ox C od) (hs : findIn K (.ref C) "__ne__" = some (some (.builtin "object.__ne__")))
    (h : wpAny M A (call (.builtin "object.__ne__") (.ref x :: args)) (fun v => Q (some v)) E s) : wpAny M A (callSpecialIfBound? (.ref x) "__ne__" args) Q E s := by
  simp only [callSpecialIfBound?, bindSpecialIfBound?]
  refine wpAny_holding (wpAny_bind (wpAny_bind (wpAny_bind (I.type.here ((looks_findIn X hs).here ?_)))))
  simp only [PySem.F.cmp_object.ne.bind]
  refine wpAny_bind (wpAny_askSetting (wpAny_ite ?_))
  have fin : wpAny M A (call (.builtin "object.__ne__") ([.ref x] ++ args) >>= fun v => pure (some v)) Q E s := wpAny_bind (wpAny_mono h (fun v s' h' => wpAny_pure h') fun _ _ h' => h')
  split
  · exact wpAny_bind (wpAny_pure (wpAny_pure fin))
  · exact wpAny_tryCatch (wpAny_bind (wpAny_pure (wpAny_pure fin)))
/-- x != b, by __eq__ at f -/
theorem ne_K {Q : Value → Shared → Prop} (hu : A.units + 1 < cLine) (F : Fr h₀ L s.heap m) (X₀ : K.In h₀) (I : InstAt s.heap x ox C od) (hb : Looks (model prog w) s.heap (typeOf b) tb) (hn : notFirst K C tb = true)
    (hne : findIn K (.ref C) "__ne__" = some (some (.builtin "object.__ne__"))) (ho : subIn K (.ref C) (.type "object") = some true)
    (hs : findIn K (.ref C) "__eq__" = some (some (.ref f))) (hf : isFn K (.ref f) = true)
    (h : wpAny (model prog w) A.in1 (call (.ref f) [.ref x, b]) (fun v s' => ∃ c, v = .bool c ∧ Q (.bool (!c)) s') E s) : wpAny (model prog w) A (richCompare .NotEq (.ref x) b) Q E s := by
  have X := X₀.keeps F.keep
  have one : wpAny (model prog w) A (tryCompare (.ref x) "__ne__" b) (fun r s' => ∃ v, r = some v ∧ Q v s') E s := by
    unfold tryCompare
    refine wpAny_bind (ifBound_KB X I hne (wpAny_call (codeAny_call_builtin PySem.F.cmp_object.ne.plain PySem.F.cmpEntry_ne (check_slot PySem.F.cmpKind_ne PySem.F.cmpSplit_ne (I.type.andThen (looks_subIn X ho)) (PySem.F.cmpArgs_ne _ _) ?_))))
    unfold Builtin.«object.__ne__»
    repeat (first
      | with_reducible refine wpAny_cRoomFor (A := A.in1) (show A.in1.units < cLine from hu) ?_
      | (refine wpAny_bind (m := callSpecialIfBound? (.ref x) (Str.ofString "__eq__") [b])
          (ifBound_K X I hs hf (wpAny_mono h (fun r s' hr => by
            obtain ⟨c, rfl, hq⟩ := hr
            repeat (first | exact ⟨_, rfl, hq⟩ | exact wpAny_pure ⟨_, rfl, hq⟩ | exact wpAny_truthy_bool ⟨_, rfl, hq⟩ | (refine wpAny_bind (m := truthy (.bool _)) (wpAny_truthy_bool ?_)) | wp_step)) fun _ _ e => e)))
      | wp_step)
  unfold richCompare
  simp only [oneThing_ref]
  refine wpAny_holding (wpAny_bind (wpAny_cRoomFor (by omega) ?_))
  refine wpAny_bind (I.type.here (wpAny_bind (hb.here ?_)))
  have fin : wpAny (model prog w) A (tryCompare (.ref x) "__ne__" b) (fun r s' => ∃ v, r = some v ∧ Q v s') E s := one
  split
  · rename_i q
    have e : subIn K tb (.ref C) = some false := by
      rcases Bool.or_eq_true_iff.mp hn with e | e
      · rw [beq_iff_eq.mp e] at q; simp at q
      · exact beq_iff_eq.mp e
    refine wpAny_bind ((looks_subIn X e).here ?_)
    simp only [Bool.false_eq_true, if_false]
    refine wpAny_bind (wpAny_mono one (fun r s' z => ?_) fun _ _ e => e)
    obtain ⟨v, rfl, hq⟩ := z
    exact wpAny_pure hq
  · refine wpAny_bind (wpAny_pure ?_)
    simp only [Bool.false_eq_true, if_false]
    refine wpAny_bind (wpAny_mono one (fun r s' z => ?_) fun _ _ e => e)
    obtain ⟨v, rfl, hq⟩ := z
    exact wpAny_pure hq
end
end PySem.W
namespace GG
open PySem PySem.Spec PyProof.Rows L2
section
variable {X : Cx} {CX : CXT} {k : Nat} {f C a dx : Addr} {fs : List (Str × V)} {fd : FuncData} {ps : List Str} {sp : Sp} {E : XK} {pins : List (Addr × Obj)} {σ : L2.St} {H : Hp} {s : Shared}
theorem tyX_looks {y : V} {u t : Value} (I : Inv X pins σ H s) (ty : TyX X.K H y t) (ry : RelV y u) : PySem.W.Looks (model X.prog X.w) s.heap (typeOf u) t := by
  obtain ⟨P, k, hp, _⟩ := kit_of I ry ty
  exact k.ty _ _ I.kIn hp
/-- o == e: the values on the right whose class is not below C -/
def rEqO (K : PySem.W.Frag) (C : Addr) (sp : Sp) (E : XK) (neg : Bool) : R2 := fun x y H Q => ∃ (a dx : Addr) (fs : List (Str × V)) (t : Value), x = .ref a ∧ H a = some (.ins C dx fs) ∧
  TyX K H y t ∧ PySem.W.notFirst K C t = true ∧ sp [.ref a, y] H (fun r H' => ∃ b, r = .bl b ∧ Q (.bl (xor neg b)) H') E
theorem op_eqO (m : Meth X.K C "__eq__" f) (F : FnOk X.prog X.w X.K X.mg X.base CX k f fd ps sp) (hr : Room (k + 1) X.A) (bd : L2.Binds X.K fd ps []) (pass : Passes CX X E) : OpR X (compareOp .Eq) (rEqO X.K C sp E false) := by
  intro pins s σ H x y v u Q I rx ry ⟨a, dx, fs, t, ex, ea, ty, nf, q⟩
  subst ex
  cases (show v = Value.ref a from rx)
  obtain ⟨ox, od, at_⟩ := ins_inst I ea
  obtain ⟨mm, fr⟩ := inv_fr I
  refine PySem.W.cmp_ofEq (PySem.W.cmp_K (op := .Eq) (by have := hr.un; omega) fr I.ok.mod.kin at_ (tyX_looks I ty ry) nf m.at_ m.fn (run_in X.A (.inl rfl) F hr bd pass I (vs := [.ref a, y]) (.cons rfl (.cons ry .nil)) q ?_))
  intro r H' u2 s2 I2 rr ⟨b, eb, q2⟩
  subst eb
  cases (show u2 = Value.bool b from rr)
  have e : (xor false b) = b := by cases b <;> rfl
  rw [e] at q2
  exact ⟨.bl b, H', I2, rfl, q2⟩
theorem op_neO (m : Meth X.K C "__eq__" f) (hne : PySem.W.findIn X.K (.ref C) "__ne__" = some (some (.builtin "object.__ne__"))) (ho : PySem.W.subIn X.K (.ref C) (.type "object") = some true)
    (F : FnOk X.prog X.w X.K X.mg X.base CX k f fd ps sp) (hr : Room (k + 1) X.A) (bd : L2.Binds X.K fd ps []) (pass : Passes CX X E) : OpR X (compareOp .NotEq) (rEqO X.K C sp E true) := by
  intro pins s σ H x y v u Q I rx ry ⟨a, dx, fs, t, ex, ea, ty, nf, q⟩
  subst ex
  cases (show v = Value.ref a from rx)
  obtain ⟨ox, od, at_⟩ := ins_inst I ea
  obtain ⟨mm, fr⟩ := inv_fr I
  refine PySem.W.cmp_ofNotEq (PySem.W.ne_K (by have := hr.un; omega) fr I.ok.mod.kin at_ (tyX_looks I ty ry) nf hne ho m.at_ m.fn (run_in X.A.in1 (.inr rfl) F hr bd pass I (vs := [.ref a, y]) (.cons rfl (.cons ry .nil)) q ?_))
  intro r H' u2 s2 I2 rr ⟨b, eb, q2⟩
  subst eb
  cases (show u2 = Value.bool b from rr)
  have e : (xor true b) = !b := by cases b <;> rfl
  rw [e] at q2
  exact ⟨b, rfl, .bl (!b), H', I2, rfl, q2⟩
end
end GG

set_option maxHeartbeats 8000000
/-! ### webs: rows of natural numbers, the class Web -/
namespace GG
open PySem PySem.Spec PyProof.Rows L2
abbrev vN (k : Nat) : V := .int k
def clsBody : PySem.Stmt → List PySem.Stmt
  | .ClassDef _ _ _ b _ _ _ _ _ _ _ => b
  | _ => []
theorem vint_inj {a b : Int} (h : V.int a = V.int b) : a = b := by cases h; rfl
theorem vN_inj {a b : Nat} (h : vN a = vN b) : a = b := by
  have := vint_inj h
  omega
theorem mapN (xs : List Nat) : xs.map vN = (xs.map fun k : Nat => (k : Int)).map V.int := by
  rw [List.map_map]
  rfl
theorem sqT_ty {K : PySem.W.Frag} {H : Hp} {a : Addr} {xs : List V} (h : SqT K H a xs) : TyX K H (.ref a) (.type "tuple") := by
  rcases h with (h | ⟨o, h⟩) | ⟨o, its, n, hk, hc, _⟩
  · exact .base (.tup h)
  · exact .fTuple h
  · exact .kTuple hk hc
theorem seqL_same {K : PySem.W.Frag} {H H' : Hp} {a : Addr} {xs : List V} (s : Same H H') (h : SqL K H a xs) : SqL K H' a xs := by
  rcases h with (h | ⟨o, h⟩) | h
  · exact .inl (.inl (s _ _ h))
  · exact .inl (.inr ⟨o, s _ _ h⟩)
  · exact .inr h
/-- a tuple at r of tuples of natural numbers -/
structure RowsT (K : PySem.W.Frag) (H : Hp) (r : Addr) (as : List Addr) (rows : List (List Nat)) : Prop where
  seq : SqT K H r (as.map V.ref)
  len : as.length = rows.length
  row : ∀ (i : Nat) (a : Addr) (row : List Nat), as[i]? = some a → rows[i]? = some row → SqT K H a (row.map vN)
theorem RowsT.same {K : PySem.W.Frag} {H H' : Hp} {r : Addr} {as : List Addr} {rows : List (List Nat)} (h : RowsT K H r as rows) (s : Same H H') : RowsT K H' r as rows :=
  ⟨sqT_same s h.seq, h.len, fun i a row h1 h2 => sqT_same s (h.row i a row h1 h2)⟩
/-! ### as data -/
abbrev natsD (row : List Nat) : PyData := .tuple (row.map fun k : Nat => .int (k : Int))
abbrev tupsD (rows : List (List Nat)) : List PyData := rows.map natsD
theorem nats_dp {K : PySem.W.Frag} {H : Hp} : ∀ row : List Nat, DpAll K H (row.map vN) (row.map fun k : Nat => .int (k : Int))
  | [] => .nil
  | _ :: r => .cons (.int _) (nats_dp r)
theorem natsD_dp {K : PySem.W.Frag} {H : Hp} {a : Addr} {row : List Nat} (h : SqT K H a (row.map vN)) : Dp K H (.ref a) (natsD row) := .tup h (nats_dp row)
theorem nats_flat : ∀ row : List Nat, PyData.depthAll (row.map fun k : Nat => .int (k : Int)) = 0 ∧ PyData.canLayAll0 (row.map fun k : Nat => .int (k : Int)) = true
  | [] => ⟨rfl, rfl⟩
  | f :: r => by
    obtain ⟨a, b⟩ := nats_flat r
    refine ⟨?_, ?_⟩
    · rw [List.map_cons, PyData.depthAll, a]
      rfl
    · rw [List.map_cons, PyData.canLayAll0, b]
      rfl
theorem natsD_shaped (row : List Nat) : SeqAt.shaped (natsD row) = true := by
  obtain ⟨a, b⟩ := nats_flat row
  unfold SeqAt.shaped
  rw [PyData.canLay0, b, PyData.depth, a]
  rfl
theorem nats_eqv : ∀ fs gs : List Nat, PyData.eqvAll (fs.map fun k : Nat => .int (k : Int)) (gs.map fun k : Nat => .int (k : Int)) = decide (fs = gs)
  | [], [] => rfl
  | [], _ :: _ => rfl
  | _ :: _, [] => rfl
  | f :: r, g :: t => by
    rw [List.map_cons, List.map_cons, PyData.eqvAll, nats_eqv r t, PyData.eqv]
    by_cases h : f = g
    · subst h
      by_cases e : r = t <;> simp [e]
    · have : ((f : Int) == (g : Int)) = false := by simpa using fun z => h (by omega)
      rw [this, Bool.false_and]
      simp [h]
theorem natsD_eqv (a b : List Nat) : PyData.eqv (natsD a) (natsD b) = decide (a = b) := by
  rw [PyData.eqv, nats_eqv]
theorem tupsD_flat : ∀ rows : List (List Nat), PyData.depthAll (tupsD rows) ≤ 1 ∧ PyData.canLayAll0 (tupsD rows) = true
  | [] => ⟨Nat.zero_le _, rfl⟩
  | f :: r => by
    obtain ⟨a, b⟩ := tupsD_flat r
    obtain ⟨c, d⟩ := nats_flat f
    refine ⟨?_, ?_⟩
    · rw [tupsD, List.map_cons, PyData.depthAll, PyData.depth, c]
      exact Nat.max_le.mpr ⟨by decide, a⟩
    · rw [tupsD, List.map_cons, PyData.canLayAll0, PyData.canLay0, d]
      exact b
theorem tupsD_shaped (rows : List (List Nat)) : SeqAt.shaped (.tuple (tupsD rows)) = true ∧ SeqAt.shaped (.list (tupsD rows)) = true := by
  obtain ⟨a, b⟩ := tupsD_flat rows
  refine ⟨?_, ?_⟩
  · unfold SeqAt.shaped
    rw [PyData.canLay0, b, PyData.depth]
    exact decide_eq_true (by omega)
  · unfold SeqAt.shaped
    rw [PyData.canLay0, b, PyData.depth]
    exact decide_eq_true (by omega)
theorem tupsD_eqv : ∀ fs gs : List (List Nat), PyData.eqvAll (tupsD fs) (tupsD gs) = decide (fs = gs)
  | [], [] => rfl
  | [], _ :: _ => rfl
  | _ :: _, [] => rfl
  | f :: r, g :: t => by
    rw [tupsD, tupsD, List.map_cons, List.map_cons, PyData.eqvAll, natsD_eqv]
    have := tupsD_eqv r t
    rw [show List.map natsD r = tupsD r from rfl, show List.map natsD t = tupsD t from rfl, this]
    by_cases h : f = g
    · subst h
      by_cases e : r = t <;> simp [e]
    · simp [h]
theorem tupsD_dp {K : PySem.W.Frag} {H : Hp} : ∀ (as : List Addr) (rows : List (List Nat)), as.length = rows.length → (∀ (i : Nat) (a : Addr) (row : List Nat), as[i]? = some a → rows[i]? = some row → SqT K H a (row.map vN)) →
    DpAll K H (as.map V.ref) (tupsD rows)
  | [], [], _, _ => .nil
  | [], _ :: _, h, _ => by cases h
  | _ :: _, [], h, _ => by cases h
  | a :: as, row :: rows, h, hr => .cons (natsD_dp (hr 0 a row rfl rfl)) (tupsD_dp as rows (by simpa using h) fun i b r h1 h2 => hr (i + 1) b r h1 h2)
theorem RowsT.dp {K : PySem.W.Frag} {H : Hp} {r : Addr} {as : List Addr} {rows : List (List Nat)} (h : RowsT K H r as rows) : Dp K H (.ref r) (.tuple (tupsD rows)) := .tup h.seq (tupsD_dp as rows h.len h.row)
/-- a list at r of tuples of natural numbers -/
structure RowsL (K : PySem.W.Frag) (H : Hp) (r : Addr) (as : List Addr) (rows : List (List Nat)) : Prop where
  seq : SqL K H r (as.map V.ref)
  len : as.length = rows.length
  row : ∀ (i : Nat) (a : Addr) (row : List Nat), as[i]? = some a → rows[i]? = some row → SqT K H a (row.map vN)
theorem RowsL.same {K : PySem.W.Frag} {H H' : Hp} {r : Addr} {as : List Addr} {rows : List (List Nat)} (h : RowsL K H r as rows) (s : Same H H') : RowsL K H' r as rows :=
  ⟨seqL_same s h.seq, h.len, fun i a row h1 h2 => sqT_same s (h.row i a row h1 h2)⟩
theorem RowsL.dp {K : PySem.W.Frag} {H : Hp} {r : Addr} {as : List Addr} {rows : List (List Nat)} (h : RowsL K H r as rows) : Dp K H (.ref r) (.list (tupsD rows)) := .lst h.seq (tupsD_dp as rows h.len h.row)
/-- addresses of tuples of natural numbers -/
def Tups (K : PySem.W.Frag) (H : Hp) (as : List Addr) (rows : List (List Nat)) : Prop := as.length = rows.length ∧ ∀ (i : Nat) (a : Addr) (row : List Nat), as[i]? = some a → rows[i]? = some row → SqT K H a (row.map vN)
theorem Tups.nil {K : PySem.W.Frag} {H : Hp} : Tups K H [] [] := ⟨rfl, fun i a row h => by cases h⟩
theorem Tups.same {K : PySem.W.Frag} {H H' : Hp} {as : List Addr} {rows : List (List Nat)} (t : Tups K H as rows) (s : Same H H') : Tups K H' as rows := ⟨t.1, fun i a row h1 h2 => sqT_same s (t.2 i a row h1 h2)⟩
theorem sqT_lst {K : PySem.W.Frag} {H : Hp} {a D : Addr} {xs ys : List V} {o : HO} (h : SqT K H a xs) (hD : H D = some (.lst ys)) : SqT K (upd H D o) a xs := by
  rcases h with (h | ⟨u, h⟩) | h
  · exact .inl (.inl (by rw [upd_ne (fun e => by rw [e, hD] at h; cases h)]; exact h))
  · exact .inl (.inr ⟨u, by rw [upd_ne (fun e => by rw [e, hD] at h; cases h)]; exact h⟩)
  · exact .inr h
theorem Tups.lst {K : PySem.W.Frag} {H : Hp} {D : Addr} {ys : List V} {o : HO} {as : List Addr} {rows : List (List Nat)} (t : Tups K H as rows) (hD : H D = some (.lst ys)) : Tups K (upd H D o) as rows :=
  ⟨t.1, fun i a row h1 h2 => sqT_lst (t.2 i a row h1 h2) hD⟩
theorem Tups.snoc {K : PySem.W.Frag} {H : Hp} {q : Addr} {row : List Nat} {as : List Addr} {rows : List (List Nat)} (t : Tups K H as rows) (hq : SqT K H q (row.map vN)) : Tups K H (as ++ [q]) (rows ++ [row]) := by
  refine ⟨by rw [List.length_append, List.length_append, t.1]; rfl, fun i a r h1 h2 => ?_⟩
  by_cases il : i < as.length
  · rw [List.getElem?_append_left il] at h1
    rw [List.getElem?_append_left (by rw [← t.1]; exact il)] at h2
    exact t.2 i a r h1 h2
  · have b := (List.getElem?_eq_some_iff.mp h1).1
    rw [List.length_append, List.length_singleton] at b
    have e : i = as.length := by omega
    subst e
    rw [List.getElem?_append_right (Nat.le_refl _), Nat.sub_self] at h1
    rw [t.1, List.getElem?_append_right (Nat.le_refl _), Nat.sub_self] at h2
    cases h1
    cases h2
    exact hq
theorem Tups.rowsT {K : PySem.W.Frag} {H : Hp} {r : Addr} {as : List Addr} {rows : List (List Nat)} (t : Tups K H as rows) (h : SqT K H r (as.map V.ref)) : RowsT K H r as rows := ⟨h, t.1, t.2⟩
theorem Tups.rowsL {K : PySem.W.Frag} {H : Hp} {r : Addr} {as : List Addr} {rows : List (List Nat)} (t : Tups K H as rows) (h : SqL K H r (as.map V.ref)) : RowsL K H r as rows := ⟨h, t.1, t.2⟩
theorem RowsT.tups {K : PySem.W.Frag} {H : Hp} {r : Addr} {as : List Addr} {rows : List (List Nat)} (h : RowsT K H r as rows) : Tups K H as rows := ⟨h.len, h.row⟩
/-- the rows of a web -/
structure WebOk (rows : List (List Nat)) : Prop where
  some_ : 1 ≤ rows.length
  few : rows.length ≤ 256
  inn : ∀ row ∈ rows, ∀ x ∈ row, x < rows.length
  asc : ∀ row ∈ rows, row.Pairwise (· < ·)
theorem asc_len {many : Nat} : ∀ {row : List Nat} {lo : Nat}, row.Pairwise (· < ·) → (∀ x ∈ row, lo ≤ x ∧ x < many) → row.length + lo ≤ max lo many
  | [], lo, _, _ => by
    show 0 + lo ≤ _
    omega
  | x :: r, lo, h, hb => by
    obtain ⟨h1, h2⟩ := List.pairwise_cons.mp h
    have b := hb x List.mem_cons_self
    have := asc_len (row := r) (lo := x + 1) h2 (fun y hy => ⟨h1 y hy, (hb y (List.mem_cons_of_mem _ hy)).2⟩)
    rw [List.length_cons]
    omega
theorem WebOk.rowLen {rows : List (List Nat)} (h : WebOk rows) {row : List Nat} (m : row ∈ rows) : row.length ≤ 256 := by
  have := asc_len (lo := 0) (h.asc row m) (fun x hx => ⟨Nat.zero_le _, h.inn row m x hx⟩)
  have := h.few
  omega
theorem ascI_of {row : List Nat} (h : row.Pairwise (· < ·)) : ascI (row.map fun k : Nat => (k : Int)) = true := by
  unfold ascI
  rw [List.all_eq_true]
  intro i hi
  have hi := List.mem_range.mp hi
  rw [List.length_map] at hi
  have h1 : i < row.length := by omega
  have h2 : i + 1 < row.length := by omega
  refine decide_eq_true ?_
  rw [List.getD_eq_getElem?_getD, List.getD_eq_getElem?_getD, List.getElem?_map, List.getElem?_map, List.getElem?_eq_getElem h1, List.getElem?_eq_getElem h2]
  have := List.pairwise_iff_getElem.mp h i (i + 1) h1 h2 (Nat.lt_succ_self i)
  show ((row[i] : Nat) : Int) < ((row[i + 1] : Nat) : Int)
  omega
/-- a web of these rows at w; ld: what it keeps of its depth -/
def WebAt (K : PySem.W.Frag) (H : Hp) (C w : Addr) (rows : List (List Nat)) : Prop :=
  ∃ dx r as ld, H w = some (.ins C dx [("_rows", .ref r), ("_lone_depth", ld)]) ∧ RowsT K H r as rows
theorem WebAt.same {K : PySem.W.Frag} {H H' : Hp} {C w : Addr} {rows : List (List Nat)} (h : WebAt K H C w rows) (s : Same H H') : WebAt K H' C w rows := by
  obtain ⟨dx, r, as, ld, h1, h2⟩ := h
  exact ⟨dx, r, as, ld, s _ _ h1, h2.same s⟩
/-- what the head's text says of the class Web -/
structure WebC (K : PySem.W.Frag) (C : Addr) : Prop where
  c : Cls K C
  no : NoAttr K C "_rows"
  no2 : NoAttr K C "_lone_depth"
theorem lk_rows {r ld : V} : List.lookup ("_rows" : Str) [(("_rows" : Str), r), ("_lone_depth", ld)] = some r := by rfl
/-! ### word webs -/
def wordRows (d k : Nat) : List (List Nat) := (List.range (d ^ k)).map fun p => (List.range d).map fun c => p * d % d ^ k + c
theorem wordRows_len (d k : Nat) : (wordRows d k).length = d ^ k := by
  unfold wordRows
  rw [List.length_map, List.length_range]
theorem word_fit {d k p c : Nat} (hk : 1 ≤ k) (hp : p < d ^ k) (hc : c < d) : p * d % d ^ k + c < d ^ k := by
  obtain ⟨m, rfl⟩ : ∃ m, k = m + 1 := ⟨k - 1, by omega⟩
  rw [Nat.pow_succ, Nat.mul_mod_mul_right]
  have d0 : 0 < d := by omega
  have hm : 0 < d ^ m := Nat.pow_pos d0
  have h1 := Nat.mod_lt p hm
  have h2 : (p % d ^ m + 1) * d ≤ d ^ m * d := Nat.mul_le_mul_right d h1
  rw [Nat.add_mul, Nat.one_mul] at h2
  omega
theorem range_asc (s d : Nat) : ((List.range d).map fun c => s + c).Pairwise (· < ·) := by
  rw [List.pairwise_map]
  exact List.pairwise_lt_range.imp fun h => by omega
theorem wordRows_ok {d k : Nat} (hd : 1 ≤ d) (hk : 1 ≤ k) (h : d ^ k ≤ 256) : WebOk (wordRows d k) := by
  refine ⟨?_, ?_, fun row hr x hx => ?_, fun row hr => ?_⟩
  · rw [wordRows_len]
    exact Nat.pow_pos hd
  · rw [wordRows_len]
    exact h
  · rw [wordRows_len]
    obtain ⟨p, hp, rfl⟩ := List.mem_map.mp hr
    obtain ⟨c, hc, rfl⟩ := List.mem_map.mp hx
    exact word_fit hk (List.mem_range.mp hp) (List.mem_range.mp hc)
  · obtain ⟨p, hp, rfl⟩ := List.mem_map.mp hr
    exact range_asc _ _
def allRows (n : Nat) : List (List Nat) := List.replicate n (List.range n)
theorem allRows_ok {n : Nat} (h1 : 1 ≤ n) (h2 : n ≤ 256) : WebOk (allRows n) := by
  refine ⟨by rw [allRows, List.length_replicate]; exact h1, by rw [allRows, List.length_replicate]; exact h2, fun row hr x hx => ?_, fun row hr => ?_⟩
  · obtain ⟨_, rfl⟩ := List.mem_replicate.mp hr
    rw [allRows, List.length_replicate]
    exact List.mem_range.mp hx
  · obtain ⟨_, rfl⟩ := List.mem_replicate.mp hr
    exact List.pairwise_lt_range
theorem allRows_word {n : Nat} : wordRows n 1 = allRows n := by
  unfold wordRows allRows
  rw [Nat.pow_one]
  refine List.ext_getElem (by rw [List.length_map, List.length_range, List.length_replicate]) fun i h1 h2 => ?_
  rw [List.getElem_map, List.getElem_range, List.getElem_replicate, Nat.mul_mod_left]
  simp
theorem rgV_nat (a b : Nat) : rgV (a : Int) ((a + b : Nat) : Int) = ((List.range b).map fun c => a + c).map vN := by
  unfold rgV
  rw [List.map_map, show (((a + b : Nat) : Int) - (a : Int)).toNat = b by omega]
  rfl
end GG

set_option maxHeartbeats 4000000
namespace GG
open PySem PySem.Spec PyProof.Rows L2
/-! ### values of written shape: of numbers, texts, lists, tuples, empty dicts; F: where its objects may stand -/
mutual
inductive Dv (F : Addr → Prop) (H : Hp) : V → PyData → Prop
  | non : Dv F H .non .none
  | bl (b : Bool) : Dv F H (.bl b) (.bool b)
  | int (i : Int) : Dv F H (.int i) (.int i)
  | str (x : Str) : Dv F H (.str x) (.str x)
  | lst {a : Addr} {xs : List V} {ds : List PyData} : F a → H a = some (.lst xs) → DvAll F H xs ds → Dv F H (.ref a) (.list ds)
  | tup {a : Addr} {xs : List V} {ds : List PyData} : F a → H a = some (.tup xs) → DvAll F H xs ds → Dv F H (.ref a) (.tuple ds)
  | dct0 {a : Addr} : F a → H a = some (.dK []) → Dv F H (.ref a) (.dict [])
inductive DvAll (F : Addr → Prop) (H : Hp) : List V → List PyData → Prop
  | nil : DvAll F H [] []
  | cons {v : V} {vs : List V} {d : PyData} {ds : List PyData} : Dv F H v d → DvAll F H vs ds → DvAll F H (v :: vs) (d :: ds)
end
mutual
theorem Dv.move {F F' : Addr → Prop} {H H' : Hp} (hF : ∀ a o, F a → H a = some o → F' a) (hH : ∀ a o, F a → (∀ ps, o ≠ .tbl ps) → H a = some o → H' a = some o) : ∀ (d : PyData) (v : V), Dv F H v d → Dv F' H' v d
  | .none, _, h => by cases h; exact .non
  | .bool b, _, h => by cases h; exact .bl b
  | .int i, _, h => by cases h; exact .int i
  | .str x, _, h => by cases h; exact .str x
  | .list ds, _, h => by
    cases h with
    | lst f e r => exact .lst (hF _ _ f e) (hH _ _ f (fun ps z => by cases z) e) (DvAll.move hF hH ds _ r)
  | .tuple ds, _, h => by
    cases h with
    | tup f e r => exact .tup (hF _ _ f e) (hH _ _ f (fun ps z => by cases z) e) (DvAll.move hF hH ds _ r)
  | .dict kvs, _, h => by
    cases h with
    | dct0 f e => exact .dct0 (hF _ _ f e) (hH _ _ f (fun ps z => by cases z) e)
theorem DvAll.move {F F' : Addr → Prop} {H H' : Hp} (hF : ∀ a o, F a → H a = some o → F' a) (hH : ∀ a o, F a → (∀ ps, o ≠ .tbl ps) → H a = some o → H' a = some o) : ∀ (ds : List PyData) (vs : List V), DvAll F H vs ds → DvAll F' H' vs ds
  | [], _, h => by cases h; exact .nil
  | d :: ds, _, h => by
    cases h with
    | cons h1 h2 => exact .cons (Dv.move hF hH d _ h1) (DvAll.move hF hH ds _ h2)
end
mutual
theorem Dv.rn {F : Addr → Prop} {H : Hp} : ∀ (d : PyData) (v : V), Dv F H v d → Rn H v d
  | .none, _, h => by cases h; exact .non
  | .bool b, _, h => by cases h; exact .bl b
  | .int i, _, h => by cases h; exact .int i
  | .str x, _, h => by cases h; exact .str x
  | .list ds, _, h => by
    cases h with
    | lst f e r => exact .lst e (DvAll.rn ds _ r)
  | .tuple ds, _, h => by
    cases h with
    | tup f e r => exact .tup e (DvAll.rn ds _ r)
  | .dict kvs, _, h => by
    cases h with
    | dct0 f e => exact .dct0 e
theorem DvAll.rn {F : Addr → Prop} {H : Hp} : ∀ (ds : List PyData) (vs : List V), DvAll F H vs ds → RnAll H vs ds
  | [], _, h => by cases h; exact .nil
  | d :: ds, _, h => by
    cases h with
    | cons h1 h2 => exact .cons (Dv.rn d _ h1) (DvAll.rn ds _ h2)
end
theorem DvAll.len {F : Addr → Prop} {H : Hp} : ∀ {vs : List V} {ds : List PyData}, DvAll F H vs ds → vs.length = ds.length
  | [], [], _ => rfl
  | _ :: _, [], h => by cases h
  | [], _ :: _, h => by cases h
  | _ :: _, _ :: _, h => by
    cases h with
    | cons _ h2 => rw [List.length_cons, List.length_cons, h2.len]
theorem DvAll.get {F : Addr → Prop} {H : Hp} : ∀ {vs : List V} {ds : List PyData}, DvAll F H vs ds → ∀ {i : Nat} {v : V}, vs[i]? = some v → ∃ d, ds[i]? = some d ∧ Dv F H v d
  | [], _, h, i, v, e => by simp at e
  | x :: xs, _, h, i, v, e => by
    cases h with
    | cons h1 h2 =>
      cases i with
      | zero =>
        cases e
        exact ⟨_, rfl, h1⟩
      | succ i => exact h2.get e
theorem DvAll.append {F : Addr → Prop} {H : Hp} : ∀ {vs ws : List V} {ds es : List PyData}, DvAll F H vs ds → DvAll F H ws es → DvAll F H (vs ++ ws) (ds ++ es)
  | [], _, _, _, h, g => by cases h; exact g
  | _ :: _, _, _, _, h, g => by
    cases h with
    | cons h1 h2 => exact .cons h1 (h2.append g)
theorem DvAll.rep {F : Addr → Prop} {H : Hp} {vs : List V} {ds : List PyData} (h : DvAll F H vs ds) : ∀ n : Nat, DvAll F H (List.replicate n vs).flatten (List.replicate n ds).flatten
  | 0 => .nil
  | n + 1 => by
    rw [List.replicate_succ, List.replicate_succ, List.flatten_cons, List.flatten_cons]
    exact h.append (h.rep n)
theorem Dv.same {F : Addr → Prop} {H H' : Hp} {v : V} {d : PyData} (h : Dv F H v d) (s : Same H H') : Dv F H' v d := Dv.move (fun _ _ f _ => f) (fun a o _ _ e => s a o e) d v h
theorem DvAll.same {F : Addr → Prop} {H H' : Hp} {vs : List V} {ds : List PyData} (h : DvAll F H vs ds) (s : Same H H') : DvAll F H' vs ds := DvAll.move (fun _ _ f _ => f) (fun a o _ _ e => s a o e) ds vs h
theorem Dv.but {l : Addr} {H H' : Hp} {v : V} {d : PyData} (h : Dv (· ≠ l) H v d) (b : But l H H') : Dv (· ≠ l) H' v d := Dv.move (fun _ _ f _ => f) (fun a o f _ e => b a o f e) d v h
theorem DvAll.but {l : Addr} {H H' : Hp} {vs : List V} {ds : List PyData} (h : DvAll (· ≠ l) H vs ds) (b : But l H H') : DvAll (· ≠ l) H' vs ds := DvAll.move (fun _ _ f _ => f) (fun a o f _ e => b a o f e) ds vs h
/-! ### their kinds -/
def kindD : PyData → String
  | .none => "NoneType"
  | .bool _ => "bool"
  | .int _ => "int"
  | .str _ => "str"
  | .list _ => "list"
  | .tuple _ => "tuple"
  | .dict _ => "dict"
theorem Dv.ty {K : PySem.W.Frag} {F : Addr → Prop} {H : Hp} {v : V} {d : PyData} (h : Dv F H v d) : TyX K H v (.type (kindD d)) := by
  cases h with
  | non => exact .base .non
  | bl b => exact .base (.bl b)
  | int i => exact .base (.int i)
  | str x => exact .base (.str x)
  | lst f e r => exact .base (.lst e)
  | tup f e r => exact .base (.tup e)
  | dct0 f e => exact .base (.dK e)
theorem kit_tuple : ∀ d : PyData, kitB (kindD d) "tuple" = some (match d with | .tuple _ => true | _ => false)
  | .none => show kitB "NoneType" "tuple" = some false by decide +kernel
  | .bool _ => show kitB "bool" "tuple" = some false by decide +kernel
  | .int _ => show kitB "int" "tuple" = some false by decide +kernel
  | .str _ => show kitB "str" "tuple" = some false by decide +kernel
  | .list _ => show kitB "list" "tuple" = some false by decide +kernel
  | .tuple _ => show kitB "tuple" "tuple" = some true by decide +kernel
  | .dict _ => show kitB "dict" "tuple" = some false by decide +kernel
theorem Dv.int_or {K : PySem.W.Frag} {F : Addr → Prop} {H : Hp} {v : V} {d : PyData} (h : Dv F H v d) : (∃ n, v = .int n ∧ d = .int n) ∨ (NoInt K H v ∧ ∀ n, d ≠ .int n) := by
  cases h with
  | non => exact .inr ⟨.inr ⟨_, .base .non, by decide +kernel⟩, fun n z => by cases z⟩
  | bl b => exact .inr ⟨.inl ⟨b, rfl⟩, fun n z => by cases z⟩
  | int i => exact .inl ⟨i, rfl, rfl⟩
  | str x => exact .inr ⟨.inr ⟨_, .base (.str x), by decide +kernel⟩, fun n z => by cases z⟩
  | lst f e r => exact .inr ⟨.inr ⟨_, .base (.lst e), by decide +kernel⟩, fun n z => by cases z⟩
  | tup f e r => exact .inr ⟨.inr ⟨_, .base (.tup e), by decide +kernel⟩, fun n z => by cases z⟩
  | dct0 f e => exact .inr ⟨.inr ⟨_, .base (.dK e), by decide +kernel⟩, fun n z => by cases z⟩
/-! ### literals -/
theorem PE.imp {X : Cx} {e : Expr} {t t' : TE} (h : PE X e t) (f : ∀ σ H Q, t' σ H Q → t σ H Q) : PE X e t' := ⟨fun pins s σ H Q I q => h.run pins s σ H Q I (f _ _ _ q)⟩
theorem PA.imp {X : Cx} {es : List Expr} {t t' : TA} (h : PA X es t) (f : ∀ σ H Q, t' σ H Q → t σ H Q) : PA X es t' := ⟨fun pos pins s σ H Q I q => h.run pos pins s σ H Q I (f _ _ _ q)⟩
mutual
def litD : Expr → Option PyData
  | .Constant (.int i) _ _ => some (.int i)
  | .Constant (.str x) _ _ => some (.str x)
  | .Constant (.bool b) _ _ => some (.bool b)
  | .Constant .none _ _ => some .none
  | .UnaryOp .USub (.Constant (.int i) _ _) _ => some (.int (-i))
  | .BinOp (.Constant (.int i) _ _) .Pow (.Constant (.int j) _ _) _ => if 0 ≤ j ∧ j ≤ 1000 ∧ i.natAbs ≤ 1000 then some (.int (i ^ j.toNat)) else none
  | .BinOp (.Tuple es _ _) .Mult (.Constant (.int k) _ _) _ => if es.length ≤ 1000 ∧ 2 ≤ k ∧ k ≤ 1000 ∧ es ≠ [] then (litDs es).map fun ds => .tuple (List.replicate k.toNat ds).flatten else none
  | .List es _ => if es.length ≤ 1000 then (litDs es).map .list else none
  | .Tuple es _ _ => if es.length ≤ 1000 then (litDs es).map .tuple else none
  | .Dict [] [] _ => some (.dict [])
  | _ => none
def litDs : List Expr → Option (List PyData)
  | [] => some []
  | e :: es => match litD e with
    | some d => (litDs es).map (d :: ·)
    | none => none
end
def tLit (d : PyData) : TE := fun _ H Q => ∀ v H', Same H H' → Dv (fun a => H a = none) H' v d → Q v H'
def tLits (ds : List PyData) : TA := fun _ H Q => ∀ vs H', Same H H' → DvAll (fun a => H a = none) H' vs ds → Q vs H'
theorem fresh_same {H H1 : Hp} (s : Same H H1) {a : Addr} (h : H1 a = none) : H a = none := by
  rcases e : H a with _ | o
  · rfl
  · rw [s a o e] at h
    cases h
theorem litD_starred {e : Expr} {p : Pos} : litD (.Starred e p) = none := rfl
theorem lit_star {X : Cx} {e : Expr} {es : List Expr} {d : PyData} (h : litD e = some d) : starEach (e :: es) X.env = (false, eval e X.env) :: starEach es X.env := by
  cases e with
  | Starred e p => cases h
  | _ => rfl
set_option maxHeartbeats 1000000 in
mutual
theorem pe_lit {X : Cx} : ∀ (e : Expr) (d : PyData), litD e = some d → PE X e (tLit d)
  | .Constant c j p, d, h => by
    cases c with
    | int i =>
      cases h
      exact PE.imp pe_int fun σ H Q q => q _ H (Same.refl H) (.int i)
    | str x =>
      cases h
      exact PE.imp pe_str fun σ H Q q => q _ H (Same.refl H) (.str x)
    | bool b =>
      cases h
      exact PE.imp pe_bl fun σ H Q q => q _ H (Same.refl H) (.bl b)
    | none =>
      cases h
      exact PE.imp pe_non fun σ H Q q => q _ H (Same.refl H) .non
    | _ => cases h
  | .UnaryOp op a p, d, h => by
    cases op with
    | USub =>
      cases a with
      | Constant c j p2 =>
        cases c with
        | int i =>
          cases h
          exact PE.imp (pe_un un_neg pe_int) fun σ H Q q => ⟨_, rfl, q _ H (Same.refl H) (.int _)⟩
        | _ => cases h
      | _ => cases h
    | _ => cases h
  | .BinOp (.Constant c j p2) op b p, d, h => by
    cases c with
    | int i =>
      cases op with
      | Pow =>
        cases b with
        | Constant c2 j2 p3 =>
          cases c2 with
          | int k =>
            rw [litD] at h
            split at h
            · rename_i g
              cases h
              exact PE.imp (pe_op op_pow pe_int pe_int) fun σ H Q q => ⟨i, k, rfl, rfl, ⟨g.1, by omega, by omega⟩, q _ H (Same.refl H) (.int _)⟩
            · cases h
          | _ => cases h
        | _ => cases h
      | _ => cases h
    | _ => cases h
  | .BinOp (.Tuple es x tp) op b p, d, h => by
    cases op with
    | Mult =>
      cases b with
      | Constant c2 j2 p3 =>
        cases c2 with
        | int k =>
          rw [litD] at h
          split at h
          · rename_i g
            rcases e : litDs es with _ | ds
            · rw [e] at h
              cases h
            · rw [e] at h
              cases h
              refine PE.imp (pe_op op_repN (pe_tup (pa_lit es ds e)) pe_int) fun σ H Q q vs H1 s r => ?_
              have l := r.len
              have l2 := litDs_len es ds e
              refine ⟨by have := small1000 (show vs.length ≤ 1000 by omega); omega, fun a na => ?_⟩
              have s2 : Same H1 (upd H1 a (.tup vs)) := sameUpd na
              refine ⟨a, k, vs, rfl, rfl, .inl (.inl upd_same), fun z => ?_, by omega, by omega, by omega, fun z => by omega, fun _ p np => ?_⟩
              · rw [z] at l
                exact g.2.2.2 (List.length_eq_zero_iff.mp (by rw [← l2, ← l]; rfl))
              · have s3 : Same (upd H1 a (.tup vs)) (upd (upd H1 a (.tup vs)) p (.tup (List.replicate k.toNat vs).flatten)) := sameUpd np
                exact q _ _ ((s.trans s2).trans s3) (.tup (fresh_same (s.trans s2) np) upd_same (DvAll.rep (DvAll.same (DvAll.same r s2) s3) _))
          · cases h
        | _ => cases h
      | _ => cases h
    | _ => cases h
  | .List es p, d, h => by
    rw [litD] at h
    split at h
    · rename_i g
      rcases e : litDs es with _ | ds
      · rw [e] at h
        cases h
      · rw [e] at h
        cases h
        refine PE.imp (pe_lst (pa_lit es ds e)) fun σ H Q q vs H1 s r => ?_
        have l := r.len
        have l2 := litDs_len es ds e
        refine ⟨by have := small1000 (show vs.length ≤ 1000 by omega); omega, fun a na => ?_⟩
        have s2 : Same H1 (upd H1 a (.lst vs)) := sameUpd na
        refine q _ _ (s.trans s2) (.lst (fresh_same s na) upd_same (DvAll.same r s2))
    · cases h
  | .Tuple es x p, d, h => by
    rw [litD] at h
    split at h
    · rename_i g
      rcases e : litDs es with _ | ds
      · rw [e] at h
        cases h
      · rw [e] at h
        cases h
        refine PE.imp (pe_tup (pa_lit es ds e)) fun σ H Q q vs H1 s r => ?_
        have l := r.len
        have l2 := litDs_len es ds e
        refine ⟨by have := small1000 (show vs.length ≤ 1000 by omega); omega, fun a na => ?_⟩
        have s2 : Same H1 (upd H1 a (.tup vs)) := sameUpd na
        refine q _ _ (s.trans s2) (.tup (fresh_same s na) upd_same (DvAll.same r s2))
    · cases h
  | .Dict ks vs p, d, h => by
    cases ks with
    | nil =>
      cases vs with
      | nil =>
        cases h
        exact PE.imp pe_dnewK fun σ H Q q a na => q _ _ (sameUpd na) (.dct0 na upd_same)
      | cons _ _ => cases h
    | cons _ _ => cases h
  | .BinOp (.BoolOp ..) _ _ _, _, h => by cases h
  | .BinOp (.NamedExpr ..) _ _ _, _, h => by cases h
  | .BinOp (.BinOp ..) _ _ _, _, h => by cases h
  | .BinOp (.UnaryOp ..) _ _ _, _, h => by cases h
  | .BinOp (.Lambda ..) _ _ _, _, h => by cases h
  | .BinOp (.IfExp ..) _ _ _, _, h => by cases h
  | .BinOp (.Dict ..) _ _ _, _, h => by cases h
  | .BinOp (.Set ..) _ _ _, _, h => by cases h
  | .BinOp (.ListComp ..) _ _ _, _, h => by cases h
  | .BinOp (.SetComp ..) _ _ _, _, h => by cases h
  | .BinOp (.DictComp ..) _ _ _, _, h => by cases h
  | .BinOp (.GeneratorExp ..) _ _ _, _, h => by cases h
  | .BinOp (.Await ..) _ _ _, _, h => by cases h
  | .BinOp (.Yield ..) _ _ _, _, h => by cases h
  | .BinOp (.YieldFrom ..) _ _ _, _, h => by cases h
  | .BinOp (.Compare ..) _ _ _, _, h => by cases h
  | .BinOp (.Call ..) _ _ _, _, h => by cases h
  | .BinOp (.FormattedValue ..) _ _ _, _, h => by cases h
  | .BinOp (.JoinedStr ..) _ _ _, _, h => by cases h
  | .BinOp (.Attribute ..) _ _ _, _, h => by cases h
  | .BinOp (.Subscript ..) _ _ _, _, h => by cases h
  | .BinOp (.Starred ..) _ _ _, _, h => by cases h
  | .BinOp (.Name ..) _ _ _, _, h => by cases h
  | .BinOp (.List ..) _ _ _, _, h => by cases h
  | .BinOp (.Slice ..) _ _ _, _, h => by cases h
  | .BoolOp .., _, h => by cases h
  | .NamedExpr .., _, h => by cases h
  | .Lambda .., _, h => by cases h
  | .IfExp .., _, h => by cases h
  | .Set .., _, h => by cases h
  | .ListComp .., _, h => by cases h
  | .SetComp .., _, h => by cases h
  | .DictComp .., _, h => by cases h
  | .GeneratorExp .., _, h => by cases h
  | .Await .., _, h => by cases h
  | .Yield .., _, h => by cases h
  | .YieldFrom .., _, h => by cases h
  | .Compare .., _, h => by cases h
  | .Call .., _, h => by cases h
  | .FormattedValue .., _, h => by cases h
  | .JoinedStr .., _, h => by cases h
  | .Attribute .., _, h => by cases h
  | .Subscript .., _, h => by cases h
  | .Starred .., _, h => by cases h
  | .Name .., _, h => by cases h
  | .Slice .., _, h => by cases h
theorem pa_lit {X : Cx} : ∀ (es : List Expr) (ds : List PyData), litDs es = some ds → PA X es (tLits ds)
  | [], ds, h => by
    cases h
    exact PA.imp pa_nil fun σ H Q q => q _ H (Same.refl H) .nil
  | e :: es, ds, h => by
    rw [litDs] at h
    rcases he : litD e with _ | d
    · rw [he] at h
      cases h
    · rw [he] at h
      rcases hes : litDs es with _ | ds2
      · rw [hes] at h
        cases h
      · rw [hes] at h
        cases h
        refine PA.imp (pa_cons (pe_lit e d he) (pa_lit es ds2 hes) (lit_star he)) fun σ H Q q => ?_
        refine fun v H1 s1 r1 vs H2 s2 r2 => q _ _ (s1.trans s2) (.cons (r1.same s2) (DvAll.move (fun _ _ f _ => fresh_same s1 f) (fun _ _ _ _ e => e) ds2 vs r2))
theorem litDs_len : ∀ (es : List Expr) (ds : List PyData), litDs es = some ds → ds.length = es.length
  | [], ds, h => by
    cases h
    rfl
  | e :: es, ds, h => by
    rw [litDs] at h
    rcases he : litD e with _ | d
    · rw [he] at h
      cases h
    · rw [he] at h
      rcases hes : litDs es with _ | ds2
      · rw [hes] at h
        cases h
      · rw [hes] at h
        cases h
        rw [List.length_cons, List.length_cons, litDs_len es ds2 hes]
end
/-! ### what is answered of them -/
def toI : PyData → Int
  | .int n => n
  | _ => 0
def inD (many : Int) : PyData → Bool
  | .int n => inOk 0 (many - 1) n
  | _ => false
def intD : PyData → Bool
  | .int n => intOk n
  | _ => false
/-- a row -/
def rowB (many : Int) : PyData → Bool
  | .tuple ds => ds.all (inD many) && ascI (ds.map toI)
  | _ => false
def rowsB : PyData → Bool
  | .tuple ds => decide (1 ≤ ds.length) && (decide (ds.length ≤ 256) && ds.all (rowB ds.length))
  | _ => false
theorem inOk_iff {many n : Int} (h : inOk 0 (many - 1) n = true) : 0 ≤ n ∧ n < many := by
  unfold inOk at h
  simp only [Bool.and_eq_true, decide_eq_true_eq] at h
  omega
theorem DvAll.ints {F : Addr → Prop} {H : Hp} {many : Int} : ∀ {vs : List V} {ds : List PyData}, DvAll F H vs ds → ds.all (inD many) = true → vs = (ds.map toI).map V.int ∧ ∀ n ∈ ds.map toI, 0 ≤ n ∧ n < many
  | [], _, h, _ => by
    cases h
    exact ⟨rfl, fun n z => absurd z List.not_mem_nil⟩
  | v :: vs, _, h, g => by
    cases h with
    | @cons _ _ d ds h1 h2 =>
      rw [List.all_cons, Bool.and_eq_true] at g
      obtain ⟨e, r⟩ := h2.ints g.2
      cases d with
      | int n =>
        cases h1
        refine ⟨by rw [e]; rfl, fun m hm => ?_⟩
        rw [List.map_cons] at hm
        rcases List.mem_cons.mp hm with rfl | hm
        · exact inOk_iff g.1
        · exact r m hm
      | _ => cases g.1
theorem DvAll.intsOk {F : Addr → Prop} {H : Hp} : ∀ {vs : List V} {ds : List PyData}, DvAll F H vs ds → ds.all intD = true → vs = (ds.map toI).map V.int ∧ ∀ n ∈ ds.map toI, intOk n = true
  | [], _, h, _ => by
    cases h
    exact ⟨rfl, fun n z => absurd z List.not_mem_nil⟩
  | v :: vs, _, h, g => by
    cases h with
    | @cons _ _ d ds h1 h2 =>
      rw [List.all_cons, Bool.and_eq_true] at g
      obtain ⟨e, r⟩ := h2.intsOk g.2
      cases d with
      | int n =>
        cases h1
        refine ⟨by rw [e]; rfl, fun m hm => ?_⟩
        rw [List.map_cons] at hm
        rcases List.mem_cons.mp hm with rfl | hm
        · exact g.1
        · exact r m hm
      | _ => cases g.1
theorem DvAll.items {K : PySem.W.Frag} {F : Addr → Prop} {H : Hp} : ∀ {vs : List V} {ds : List PyData}, DvAll F H vs ds → ∀ x ∈ vs, (∃ n, x = .int n) ∨ NoInt K H x
  | [], _, _, x, hx => absurd hx List.not_mem_nil
  | v :: vs, _, h, x, hx => by
    cases h with
    | cons h1 h2 =>
      rcases List.mem_cons.mp hx with rfl | hx
      · rcases h1.int_or (K := K) with ⟨n, e, _⟩ | ⟨no, _⟩
        · exact .inl ⟨n, e⟩
        · exact .inr no
      · exact h2.items x hx
theorem Dv.inM {F : Addr → Prop} {H : Hp} {many : Int} {v : V} {d : PyData} (h : Dv F H v d) : inM many v = inD many d := by
  cases h <;> rfl
theorem Dv.inI {F : Addr → Prop} {H : Hp} {v : V} {d : PyData} (h : Dv F H v d) : inI v = intD d := by
  cases h <;> rfl
theorem DvAll.bad {F : Addr → Prop} {H : Hp} {many : Int} : ∀ {vs : List V} {ds : List PyData}, DvAll F H vs ds → ds.all (inD many) = false → ∃ x ∈ vs, GG.inM many x = false
  | [], _, h, g => by
    cases h
    cases g
  | v :: vs, _, h, g => by
    cases h with
    | @cons _ _ d ds h1 h2 =>
      rw [List.all_cons] at g
      rcases e : inD many d with _ | _
      · exact ⟨v, List.mem_cons_self, by rw [h1.inM, e]⟩
      · rw [e, Bool.true_and] at g
        obtain ⟨x, hx, q⟩ := h2.bad g
        exact ⟨x, List.mem_cons_of_mem _ hx, q⟩
theorem DvAll.badI {F : Addr → Prop} {H : Hp} : ∀ {vs : List V} {ds : List PyData}, DvAll F H vs ds → ds.all intD = false → ∃ x ∈ vs, GG.inI x = false
  | [], _, h, g => by
    cases h
    cases g
  | v :: vs, _, h, g => by
    cases h with
    | @cons _ _ d ds h1 h2 =>
      rw [List.all_cons] at g
      rcases e : intD d with _ | _
      · exact ⟨v, List.mem_cons_self, by rw [h1.inI, e]⟩
      · rw [e, Bool.true_and] at g
        obtain ⟨x, hx, q⟩ := h2.badI g
        exact ⟨x, List.mem_cons_of_mem _ hx, q⟩
end GG

set_option maxHeartbeats 4000000
/-! ### rules whose readings name the outer K: for blocks and suites -/
namespace GG
open PySem PySem.Spec PyProof.Rows L2
section
variable {X : Cx} {K : PySem.W.Frag}
theorem tupleK (h : X.K = K) : CallR X (.type "tuple") (fun xs H Q => ∃ p ys, xs = [V.ref p] ∧ ((SqL K H p ys ∧ ∀ l, H l = none → Q (.ref l) (upd H l (.tup ys))) ∨ SqT K H p ys ∧ Q (.ref p) H)) := by
  subst h
  exact call_tuple_of
theorem listK (h : X.K = K) : CallR X (.type "list") (fun xs H Q => ∃ p ys, xs = [V.ref p] ∧ (SqL K H p ys ∨ SqT K H p ys) ∧ ∀ l, H l = none → Q (.ref l) (upd H l (.lst ys))) := by
  subst h
  exact call_list_of
theorem sortedK (h : X.K = K) : CallR X (.builtin "sorted") (rSortedI K) := by
  subst h
  exact cr_sortedI
theorem catK (h : X.K = K) : OpR X (binaryOp .Add) (rCatN K) := by
  subst h
  exact op_catN
theorem slK (h : X.K = K) : SlR X (rSlN K) := by
  subst h
  exact sl_tupN
theorem inSeqK (h : X.K = K) : OpR X (compareOp .In) (rIn K false) := by
  subst h
  exact op_in_seq
theorem notInSeqK (h : X.K = K) : OpR X (compareOp .NotIn) (rIn K true) := by
  subst h
  exact op_notIn_seq
theorem ixTupK (h : X.K = K) : IxR X (fun x y H Q => ∃ a xs i v, x = .ref a ∧ y = .int i ∧ SqT K H a xs ∧ atI xs i = some v ∧ Q v H) := by
  subst h
  exact ix_tup
theorem ixLstK (h : X.K = K) : IxR X (fun x y H Q => ∃ a xs i v, x = .ref a ∧ y = .int i ∧ SqL K H a xs ∧ atI xs i = some v ∧ Q v H) := by
  subst h
  exact ix_list
end
/-- sorted, told of natural numbers that are so already -/
theorem sorted_nats {ns' : List Int} {xs : List Nat} (p : ns'.Perm (xs.map fun k : Nat => (k : Int))) (s : ns'.Pairwise (· ≤ ·)) (h : xs.Pairwise (· < ·)) : ns' = xs.map fun k : Nat => (k : Int) := by
  refine List.Perm.eq_of_pairwise (fun x y _ _ h1 h2 => Int.le_antisymm h1 h2) s ?_ p
  rw [List.pairwise_map]
  exact h.imp fun h => by omega
end GG

set_option maxHeartbeats 16000000
namespace K08
def topS (i : Nat) : PySem.Stmt := PySem.Challenge.pw_onebetween_k08_errors_of_webs.main.body.getD i (.Pass ⟨0, 0, 0, 0⟩)
end K08
namespace K08
open PySem PySem.Spec PyProof.Rows L2 GG
abbrev sDice : Stmt := topS 17
abbrev sRoll : Stmt := topS 18
abbrev sPick : Stmt := topS 19
theorem scDice : FnScope ["script", "spot", "cell", "left"] ["script", "spot"] (defScope sDice) := ⟨rfl, rfl, rfl, by decide +kernel, rfl, by decide +kernel, by decide +kernel⟩
theorem scRoll : FnScope ["dice", "total", "found", "one", "two"] ["dice", "total"] (defScope sRoll) := ⟨rfl, rfl, rfl, by decide +kernel, rfl, by decide +kernel, by decide +kernel⟩
theorem scPick : FnScope ["dice", "items"] ["dice", "items"] (defScope sPick) := ⟨rfl, rfl, rfl, by decide +kernel, rfl, by decide +kernel, by decide +kernel⟩
section
variable {P : Program} {w : World} {K : PySem.W.Frag} {mg : Str → Option Value} {base : Heap}
theorem ok_dice {f : Addr} {fd : FuncData} {k : Nat} (F : Fun K "_law_dice" "_law_dice" sDice f fd)
    (ml : mg "len" = none) (mi : mg "int" = none) (mx : mg "max" = none) (ma : mg "abs" = none) :
    FnOk P w K mg base CX0 (k + 1) f fd ["script", "spot"] (spDice K) := by
  refine F.ok scDice (fun vs H Q E h => ?_) (fun cdv A outer s H vs Q E hr h => ?_)
  · obtain ⟨a, ns, spot, rfl, _⟩ := h
    rfl
  · obtain ⟨a, ns, spot, rfl, hS, hsp, q⟩ := h
    refine ⟨_, pss_cons (ps_set (i := 2) scDice.nd rfl (.inl rfl)
        (pe_ifExp (pt_cmpR op_lt (pv 1) (pe_callB call_len_seq (by rfl) ml PySem.boot_len (pa_cons (pv 0) pa_nil)) (nomark _))
          (pe_callTy call_int1 (by rfl) mi (by decide +kernel) (pa_cons (pe_ix ix_list (pv 0) (pv 1) (fun _ _ => rfl)) pa_nil))
          (pe_op op_add (pe_op op_mul pe_int (pv 1)) pe_int)))
      (pss_cons (ps_set (i := 3) scDice.nd rfl (.inl rfl)
        (pe_op op_mod (pe_callB (call_max2 rfl) (by rfl) mx (by decide +kernel) (pa_cons pe_int (pa_cons (pe_op op_sub (pe_callB call_abs (by rfl) ma (by decide +kernel) (pa_cons (pv 2) pa_nil)) (pe_op op_pow pe_int pe_int)) pa_nil)))
          (pe_op op_mulW (pe_op op_pow pe_int pe_int) (pe_op op_pow pe_int pe_int))))
      (pss_one (ps_ret (pe_lst (pa_cons (pv 3) (pa_cons
        (pe_op op_add (pe_op op_add (pe_op op_add (pe_op op_mul (pe_op op_mod (pe_callB call_abs (by rfl) ma (by decide +kernel) (pa_cons (pv 2) pa_nil)) pe_int) pe_int) (pe_op op_mul pe_int (pv 1)))
          (pe_op op_mul pe_int (pe_callTy call_int1 (by rfl) mi (by decide +kernel) (pa_cons (pe_cmpR op_lt (pv 2) pe_int (nomark _)) pa_nil)))) pe_int)
        (pa_cons pe_int pa_nil))))))), ?_⟩
    refine ⟨.int spot, rfl, .ref a, rfl, a, _, rfl, .inl hS, _, _, rfl, rfl, _, rfl, ite2 (fun e => ?_) (fun e => ?_)⟩
    · have e1 := of_decide_eq_true e
      rw [List.length_map] at e1
      have e2 : spot < ns.length := by omega
      have g : (ns.map V.int)[spot]? = some (.int ns[spot]) := by
        rw [List.getElem?_map, List.getElem?_eq_getElem e2]
        rfl
      refine ⟨.ref a, rfl, .int spot, rfl, a, _, spot, .int ns[spot], rfl, rfl, hS, atI_nat g, .inl ⟨_, rfl, ?_⟩⟩
      refine ⟨_, rfl, _, rfl, _, _, rfl, rfl, ⟨by decide, by decide, by decide⟩, _, _, rfl, rfl, _, _, rfl, _, _, rfl, rfl, ⟨by decide, by decide, by decide⟩, _, _, rfl, rfl, ⟨by decide, by decide, by decide⟩, _, _, rfl, rfl, mul60, _, _, rfl, rfl, pos60, ?_⟩
      refine ⟨_, rfl, _, rfl, _, rfl, _, _, rfl, rfl, (show (0 : Int) < 1152921504606846809 by decide), _, _, rfl, rfl, .inr (by decide), _, rfl, _, _, rfl, rfl, .inl (by decide), _, _, rfl, rfl, _, rfl, _, _, rfl, rfl, .inr ⟨_, rfl, _, _, rfl, rfl, .inl (by decide), _, _, rfl, rfl, _, _, rfl, rfl, (by show 3 ≤ sizeLine; decide), fun p np => ?_⟩⟩
      exact q _ p (sameUpd np) np ⟨_, _, _, upd_same, Int.emod_nonneg _ (by have := pos60; omega)⟩
    · refine ⟨_, rfl, _, _, rfl, rfl, .inl (by decide), _, _, rfl, rfl, ?_⟩
      refine ⟨_, rfl, _, rfl, _, _, rfl, rfl, ⟨by decide, by decide, by decide⟩, _, _, rfl, rfl, _, _, rfl, _, _, rfl, rfl, ⟨by decide, by decide, by decide⟩, _, _, rfl, rfl, ⟨by decide, by decide, by decide⟩, _, _, rfl, rfl, mul60, _, _, rfl, rfl, pos60, ?_⟩
      refine ⟨_, rfl, _, rfl, _, rfl, _, _, rfl, rfl, (show (0 : Int) < 1152921504606846809 by decide), _, _, rfl, rfl, .inr (by decide), _, rfl, _, _, rfl, rfl, .inl (by decide), _, _, rfl, rfl, _, rfl, _, _, rfl, rfl, .inr ⟨_, rfl, _, _, rfl, rfl, .inl (by decide), _, _, rfl, rfl, _, _, rfl, rfl, (by show 3 ≤ sizeLine; decide), fun p np => ?_⟩⟩
      exact q _ p (sameUpd np) np ⟨_, _, _, upd_same, Int.emod_nonneg _ (by have := pos60; omega)⟩
theorem ok_roll {f : Addr} {fd : FuncData} {k : Nat} (F : Fun K "_law_roll" "_law_roll" sRoll f fd) (mi : mg "int" = none) :
    FnOk P w K mg base CX0 (k + 1) f fd ["dice", "total"] spRoll := by
  refine F.ok scRoll (fun vs H Q E h => ?_) (fun cdv A outer s H vs Q E hr h => ?_)
  · obtain ⟨a, n, rfl, _⟩ := h
    rfl
  · obtain ⟨l, n, rfl, ⟨a, b, c, hd, ha⟩, h0, h1, q⟩ := h
    have at0 : atI [V.int a, .int b, .int c] 0 = some (.int a) := rfl
    have at1 : atI [V.int a, .int b, .int c] 1 = some (.int b) := rfl
    have at2 : atI [V.int a, .int b, .int c] 2 = some (.int c) := rfl
    refine ⟨_, pss_cons (ps_if (pt_cmpR op_gt (pe_ix ix_list (pv 0) pe_int (fun _ _ => rfl)) pe_int (nomark _))
        (pss_cons (ps_set (i := 2) scRoll.nd rfl (.inl rfl) (pe_op op_mod (pe_callTy call_int1 (by rfl) mi (by decide +kernel) (pa_cons (pe_ix ix_list (pv 0) pe_int (fun _ _ => rfl)) pa_nil)) (pv 1)))
        (pss_cons (ps_asg (pe_op op_fdiv (pe_ix ix_list (pv 0) pe_int (fun _ _ => rfl)) (pv 1)) (pg_sub (pv 0) pe_int set_list))
        (pss_one (ps_ret (pv 2))))) pss_nil)
      (pss_cons (ps_asg (pe_op op_add (pe_ix ix_list (pv 0) pe_int (fun _ _ => rfl)) pe_int) (pg_sub (pv 0) pe_int set_list))
      (pss_cons (ps_set (i := 3) scRoll.nd rfl (.inl rfl) (pe_op op_mod (pe_callTy call_int1 (by rfl) mi (by decide +kernel)
          (pa_cons (pe_op op_add (pe_ix ix_list (pv 0) pe_int (fun _ _ => rfl)) (pe_op op_mul pe_int (pe_ix ix_list (pv 0) pe_int (fun _ _ => rfl)))) pa_nil)) pe_int))
      (pss_cons (ps_set (i := 4) scRoll.nd rfl (.inl rfl) (pe_op op_add (pe_op op_mul (pe_op op_mod (pe_callTy call_int1 (by rfl) mi (by decide +kernel)
          (pa_cons (pe_op op_add (pe_op op_mul (pv 3) (pv 3)) (pe_op op_mul pe_int (pe_ix ix_list (pv 0) pe_int (fun _ _ => rfl)))) pa_nil)) pe_int) pe_int) (pv 3)))
      (pss_one (ps_ret (pe_op op_mod (pe_callTy call_int1 (by rfl) mi (by decide +kernel) (pa_cons (pe_op op_fdiv (pv 4) pe_int) pa_nil)) (pv 1))))))), ?_⟩
    refine ⟨.ref l, rfl, l, _, 0, _, rfl, rfl, .of hd, at0, a, 0, rfl, rfl, _, rfl, ite2 (fun e => ?_) (fun e => ?_)⟩
    · refine ⟨.ref l, rfl, l, _, 0, _, rfl, rfl, .of hd, at0, .inl ⟨a, rfl, .int n, rfl, a, n, rfl, rfl, h0, ?_⟩⟩
      refine ⟨.ref l, rfl, l, _, 0, _, rfl, rfl, .of hd, at0, .int n, rfl, a, n, rfl, rfl, ⟨h0, h1⟩, .ref l, rfl, l, _, 0, 0, rfl, rfl, hd, rfl, ?_⟩
      refine ⟨_, rfl, q _ _ .at ⟨a / n, b, c, upd_same, Int.ediv_nonneg ha (by omega)⟩ (Int.emod_nonneg _ (by omega)) (Int.emod_lt_of_pos _ h0)⟩
    · refine ⟨.ref l, rfl, l, _, 2, _, rfl, rfl, .of hd, at2, c, 1, rfl, rfl, .ref l, rfl, l, _, 2, 2, rfl, rfl, hd, rfl, ?_⟩
      have hd' : (upd H l (.lst [.int a, .int b, .int (c + 1)])) l = some (.lst [.int a, .int b, .int (c + 1)]) := upd_same
      have at1 : atI [V.int a, .int b, .int (c + 1)] 1 = some (.int b) := rfl
      have at2 : atI [V.int a, .int b, .int (c + 1)] 2 = some (.int (c + 1)) := rfl
      have p1 : (0 : Int) < 2305843009213693669 := by decide
      have p2 : (0 : Int) < 1152921504606846779 := by decide
      refine ⟨.ref l, rfl, l, _, 1, _, rfl, rfl, .of hd', at1, .ref l, rfl, l, _, 2, _, rfl, rfl, .of hd', at2, _, _, rfl, rfl, .inl (by decide), _, _, rfl, rfl, .inl ⟨_, rfl, _, _, rfl, rfl, p1, ?_⟩⟩
      have b0 := Int.emod_nonneg (b + 86028121 * (c + 1)) (show (2305843009213693669 : Int) ≠ 0 by decide)
      have b1 := Int.emod_lt_of_pos (b + 86028121 * (c + 1)) p1
      refine ⟨_, rfl, _, rfl, _, _, rfl, rfl, .inl ⟨Int.lt_of_lt_of_le (by decide) b0, Int.lt_trans b1 (by decide)⟩, .ref l, rfl, l, _, 2, _, rfl, rfl, .of hd', at2, _, _, rfl, rfl, .inl (by decide), _, _, rfl, rfl, .inl ⟨_, rfl, _, _, rfl, rfl, p2, ?_⟩⟩
      refine ⟨_, _, rfl, rfl, .inr (by decide), _, rfl, _, _, rfl, rfl, ?_⟩
      refine ⟨_, rfl, _, _, rfl, rfl, ⟨by decide, by decide⟩, .inl ⟨_, rfl, .int n, rfl, _, n, rfl, rfl, h0, ?_⟩⟩
      exact q _ _ .at ⟨a, b, c + 1, upd_same, ha⟩ (Int.emod_nonneg _ (by omega)) (Int.emod_lt_of_pos _ h0)
theorem ok_pick {f fR : Addr} {fd fdR : FuncData} (F : Fun K "_law_pick" "_law_pick" sPick f fd) (FR : Fun K "_law_roll" "_law_roll" sRoll fR fdR)
    (bR : Binds K fdR ["dice", "total"] []) (gR : mg "_law_roll" = some (.ref fR)) (ml : mg "len" = none) (mi : mg "int" = none) :
    FnOk P w K mg base CX0 2 f fd ["dice", "items"] (spPick K) := by
  have GR : FnOk P w K mg base CX0 1 fR fdR ["dice", "total"] spRoll := ok_roll FR mi
  refine F.ok scPick (fun vs H Q E h => ?_) (fun cdv A outer s H vs Q E hr h => ?_)
  · obtain ⟨l, a, xs, rfl, _⟩ := h
    rfl
  · obtain ⟨l, a, xs, rfl, hd, ne, hx, h0, h1, q⟩ := h
    refine ⟨_, pss_one (ps_ret (pe_ix ix_seq (pv 1) (pe_call GR hr (by rfl) gR FR.kp bR .nil pass0
      (pa_cons (pv 0) (pa_cons (pe_callB call_len_seq (by rfl) ml PySem.boot_len (pa_cons (pv 1) pa_nil)) pa_nil))) (fun _ _ => rfl))), ?_⟩
    refine ⟨.ref a, rfl, .ref l, rfl, .ref a, rfl, a, xs, rfl, hx, l, xs.length, rfl, hd, by omega, by omega, fun H' r bt hd' r0 r1 => ?_⟩
    have e : xs[r.toNat]? = some xs[r.toNat] := List.getElem?_eq_getElem (by omega)
    have e2 : atI xs r = some xs[r.toNat] := by
      have := atI_nat e
      rwa [show ((r.toNat : Nat) : Int) = r by omega] at this
    rcases hx with hx | hx
    · exact .inl ⟨a, xs, r, _, rfl, rfl, bt.seqL ne hx, e2, q H' r.toNat _ bt hd' e⟩
    · exact .inr (.inl ⟨a, xs, r, _, rfl, rfl, bt.seqT ne hx, e2, q H' r.toNat _ bt hd' e⟩)
end
end K08

set_option maxHeartbeats 16000000
namespace K08
open PySem PySem.Spec PyProof.Rows L2 GG
abbrev sInteger : Stmt := topS 3
abbrev sWithin : Stmt := topS 4
theorem scInteger : FnScope ["value"] ["value"] (defScope sInteger) := ⟨rfl, rfl, rfl, by decide +kernel, rfl, by decide +kernel, by decide +kernel⟩
theorem scWithin : FnScope ["value", "least", "most"] ["value", "least", "most"] (defScope sWithin) := ⟨rfl, rfl, rfl, by decide +kernel, rfl, by decide +kernel, by decide +kernel⟩
section
variable {P : Program} {w : World} {K : PySem.W.Frag} {mg : Str → Option Value} {base : Heap}
theorem ok_integer {f : Addr} {fd : FuncData} {k : Nat} {tB : Tok} (F : Fun K "is_integer" "is_integer" sInteger f fd)
    (mi : mg "int" = none) (mb : mg "bool" = none) (ms : mg "isinstance" = none) (mB : mg "_BOUND" = some (.int BND tB)) :
    FnOk P w K mg base CX0 (k + 1) f fd ["value"] (spInteger K) := by
  refine F.ok scInteger (fun vs H Q E h => ?_) (fun cdv A outer s H vs Q E hr h => ?_)
  · obtain ⟨v, rfl, _⟩ := h
    rfl
  · obtain ⟨v, rfl, h⟩ := h
    refine ⟨_, pss_one (ps_ret (pe_and (pe_callB call_isi (by rfl) ms (by decide +kernel) (pa_cons (pv 0) (pa_cons (pe_bltn (v := .ty "int") (by rfl) mi (by decide +kernel) rfl) pa_nil)))
      (pe_and (pe_not (pe_callB call_isi (by rfl) ms (by decide +kernel) (pa_cons (pv 0) (pa_cons (pe_bltn (v := .ty "bool") (by rfl) mb (by decide +kernel) rfl) pa_nil))))
      (pe_one (pe_chain op_lt op_lt (pe_un un_neg (pe_glob (v := .int BND) (by rfl) mB ⟨_, rfl⟩)) (pv 0) (pe_glob (v := .int BND) (by rfl) mB ⟨_, rfl⟩)))))), ?_⟩
    rcases h with ⟨i, rfl, q⟩ | ⟨⟨b, rfl⟩ | ⟨t, ty, kb⟩, q⟩
    · refine ⟨_, rfl, _, _, _, _, true, rfl, .ty _, .base (.int i), kit_ty (by decide +kernel), true, rfl, iteT ?_⟩
      refine ⟨_, rfl, _, _, _, _, false, rfl, .ty _, .base (.int i), kit_ty (by decide +kernel), false, rfl, true, rfl, iteT ?_⟩
      refine ⟨_, rfl, _, rfl, _, _, rfl, rfl, _, rfl, ite2 (fun e => ?_) (fun e => ?_)⟩
      · refine ⟨_, _, rfl, rfl, ?_⟩
        have e' : intOk i = decide (i < BND) := by
          unfold intOk
          rw [e, Bool.true_and]
        rw [e'] at q
        exact q
      · have e' : intOk i = false := by
          unfold intOk
          rw [Bool.not_eq_true _ |>.mp e, Bool.false_and]
        rw [e'] at q
        exact q
    · refine ⟨_, rfl, _, _, _, _, true, rfl, .ty _, .base (.bl b), kit_ty (by decide +kernel), true, rfl, iteT ?_⟩
      exact ⟨_, rfl, _, _, _, _, true, rfl, .ty _, .base (.bl b), kit_ty (by decide +kernel), true, rfl, false, rfl, iteF q⟩
    · exact ⟨_, rfl, _, _, _, _, false, rfl, .ty _, ty, kit_ty kb, false, rfl, iteF q⟩
theorem ok_within {f fI : Addr} {fd fdI : FuncData} (F : Fun K "is_within" "is_within" sWithin f fd) (bI : Binds K fdI ["value"] [])
    (GI : FnOk P w K mg base CX0 1 fI fdI ["value"] (spInteger K)) (gI : mg "is_integer" = some (.ref fI)) (kI : PySem.W.keepIn K (.ref fI) = true) :
    FnOk P w K mg base CX0 2 f fd ["value", "least", "most"] (spWithin K) := by
  refine F.ok scWithin (fun vs H Q E h => ?_) (fun cdv A outer s H vs Q E hr h => ?_)
  · obtain ⟨v, lo, hi, rfl, _⟩ := h
    rfl
  · obtain ⟨v, lo, hi, rfl, h⟩ := h
    refine ⟨_, pss_one (ps_ret (pe_and (pe_call GI hr (by rfl) gI kI bI .nil pass0 (pa_cons (pv 0) pa_nil))
      (pe_one (pe_chain op_le op_le (pv 1) (pv 0) (pv 2))))), ?_⟩
    rcases h with ⟨i, rfl, q⟩ | ⟨no, q⟩
    · refine ⟨_, rfl, _, rfl, .inl ⟨i, rfl, _, rfl, and2 (d := decide (lo ≤ i) && decide (i ≤ hi)) (fun _ Q' z => ?_) q⟩⟩
      refine ⟨_, rfl, _, rfl, _, _, rfl, rfl, _, rfl, ite2 (fun e => ⟨_, rfl, _, _, rfl, rfl, ?_⟩) (fun e => ?_)⟩
      · rw [e, Bool.true_and] at z
        exact z
      · rw [Bool.not_eq_true _ |>.mp e, Bool.false_and] at z
        exact z
    · exact ⟨_, rfl, _, rfl, .inr ⟨no, _, rfl, iteF q⟩⟩
end
end K08

set_option maxHeartbeats 16000000
namespace K08
open PySem PySem.Spec PyProof.Rows L2 GG RZ
abbrev sAsc : Stmt := topS 5
theorem scAsc : FnScope ["value", "many", "number", "low", "high"] ["value", "many"] (defScope sAsc) := ⟨rfl, rfl, rfl, by decide +kernel, rfl, by decide +kernel, by decide +kernel⟩
/-- ints or none: what may stand in the tuple; what is answered -/
def spAsc (K : PySem.W.Frag) : Sp := fun vs H Q _ => ∃ v many, vs = [v, .int many] ∧ 0 ≤ many ∧ many ≤ 1000 ∧
  (((∃ t, TyX K H v (.type t) ∧ kitB t "tuple" = some false) ∧ Q (.bl false) H) ∨
   (∃ a xs, v = .ref a ∧ SqT K H a xs ∧ TyX K H v (.type "tuple") ∧ xs.length ≤ 1000 ∧ (∀ x ∈ xs, (∃ n, x = .int n) ∨ NoInt K H x) ∧ (∃ x ∈ xs, inM many x = false) ∧ ∀ H', Same H H' → Q (.bl false) H') ∨
   (∃ a ns, v = .ref a ∧ SqT K H a (ns.map V.int) ∧ TyX K H v (.type "tuple") ∧ ns.length ≤ 1000 ∧ (∀ n ∈ ns, 0 ≤ n ∧ n < many) ∧ ∀ H', Same H H' → Q (.bl (ascI ns)) H'))
def ansA (many : Int) (ns : List Int) : Bool := if 0 < ns.length ∧ (ns.getD 0 0 < 0 ∨ many ≤ ns.getD (ns.length - 1) 0) then false else ascI ns
theorem asc_lt {ns : List Int} (h : ascI ns = true) : ∀ (d i : Nat), i + d < ns.length → ns.getD i 0 ≤ ns.getD (i + d) 0
  | 0, i, _ => Int.le_refl _
  | d + 1, i, l => by
    have a := asc_lt h d i (by omega)
    have b := List.all_eq_true.mp h (i + d) (List.mem_range.mpr (by omega))
    have c := of_decide_eq_true b
    rw [show i + (d + 1) = i + d + 1 by omega]
    omega
theorem ans_bad {many : Int} {ns : List Int} {n : Int} (hn : n ∈ ns) (b : ¬ (0 ≤ n ∧ n < many)) : ansA many ns = false := by
  unfold ansA
  by_cases c : 0 < ns.length ∧ (ns.getD 0 0 < 0 ∨ many ≤ ns.getD (ns.length - 1) 0)
  · rw [if_pos c]
  · rw [if_neg c]
    rcases h : ascI ns with _ | _
    · rfl
    · exfalso
      obtain ⟨i, hi, e⟩ := List.getElem_of_mem hn
      have e' : ns.getD i 0 = n := by rw [List.getD_eq_getElem?_getD, List.getElem?_eq_getElem hi, e]; rfl
      have h1 := asc_lt h i 0 (by omega)
      have h2 := asc_lt h (ns.length - 1 - i) i (by omega)
      rw [Nat.zero_add] at h1
      rw [show i + (ns.length - 1 - i) = ns.length - 1 by omega] at h2
      have c1 : ¬ (ns.getD 0 0 < 0) := fun z => c ⟨by omega, .inl z⟩
      have c2 : ¬ (many ≤ ns.getD (ns.length - 1) 0) := fun z => c ⟨by omega, .inr z⟩
      omega
theorem ans_good {many : Int} {ns : List Int} (h : ∀ n ∈ ns, 0 ≤ n ∧ n < many) : ansA many ns = ascI ns := by
  unfold ansA
  rw [if_neg]
  rintro ⟨p, c⟩
  have g : ∀ i, i < ns.length → 0 ≤ ns.getD i 0 ∧ ns.getD i 0 < many := fun i hi => by
    rw [List.getD_eq_getElem?_getD, List.getElem?_eq_getElem hi]
    exact h _ (List.getElem_mem hi)
  have g0 := g 0 p
  have g1 := g (ns.length - 1) (by omega)
  omega
theorem atI_last {α : Type} {xs : List α} (h : 0 < xs.length) : atI xs (-1) = xs[xs.length - 1]? := by
  have e : ixN xs.length (-1) = some (xs.length - 1) := by
    unfold ixN
    rw [if_neg (by decide), if_pos (by omega)]
    congr 1
    omega
  unfold atI
  rw [e]
  rfl
section
variable {P : Program} {w : World} {K : PySem.W.Frag} {mg : Str → Option Value} {base : Heap}
theorem ok_asc {f fI : Addr} {fd fdI : FuncData} (F : Fun K "is_ascending" "is_ascending" sAsc f fd) (bI : Binds K fdI ["value"] [])
    (GI : FnOk P w K mg base CX0 1 fI fdI ["value"] (spInteger K)) (gI : mg "is_integer" = some (.ref fI)) (kI : PySem.W.keepIn K (.ref fI) = true)
    (ms : mg "isinstance" = none) (mt : mg "tuple" = none) (ma : mg "all" = none) (mz : mg "zip" = none) (ml : mg "len" = none) :
    FnOk P w K mg base CX0 3 f fd ["value", "many"] (spAsc K) := by
  refine F.ok scAsc (fun vs H Q E h => ?_) (fun cdv A outer s H vs Q E hr h => ?_)
  · obtain ⟨v, many, rfl, _⟩ := h
    rfl
  · obtain ⟨v, many, rfl, m0, m1, h⟩ := h
    have N := scAsc.nd
    refine ⟨_, pss_cons (ps_if (PW.pt (pw_or (pt_not (pt_val (pe_callB call_isi (by rfl) ms (by decide +kernel) (pa_cons (pv 0) (pa_cons (pe_bltn (v := .ty "tuple") (by rfl) mt (by decide +kernel) rfl) pa_nil)))))
        (pw_or1 (pt_not (pt_val (pe_callB (cr_all rfl) (by rfl) ma (by decide +kernel) (pa_cons
          (pe_lc (own := [("number", 2)]) (g := gName 2) (tt := tYes) rfl N (pi_tup (pv 0)) (blkOk_by (own := [("number", 2)]) (N := ["value", "many", "number", "low", "high"]) (sc := defScope sAsc) (by decide +kernel))
            (fun _ _ _ _ _ => pg_name (i := 2) N rfl (Or.inl rfl)) (fun _ _ _ _ _ => pts_nil)
            (fun _ _ _ _ _ => pe_call GI (hr.mono (by decide)) (by rfl) gI kI bI .nil pass0 (pa_cons (pv 2) pa_nil))) pa_nil)))))))
        (pss_one (ps_ret pe_bl)) pss_nil)
      (C8.pss_cut (ps_if (PW.pt (pw_and (pt_cmpR op_gt (pe_callB call_len_seq (by rfl) ml PySem.boot_len (pa_cons (pv 0) pa_nil)) pe_int (nomark _))
          (pw_and1 (PW.pt (pw_or (pt_cmpR op_lt (pe_ix ix_seq (pv 0) pe_int (fun _ _ => rfl)) pe_int (nomark _)) (pw_or1 (pt_cmpR op_ge (pe_ix ix_seq (pv 0) (pe_un un_neg pe_int) (fun _ _ => rfl)) (pv 1) (nomark _))))))))
        (pss_one (ps_ret pe_bl)) pss_nil)
      (pss_one (ps_ret (pe_callB (cr_all rfl) (by rfl) ma (by decide +kernel) (pa_cons
          (pe_lc (own := [("low", 3), ("high", 4)]) (g := gTup K 2 (gCons (gName 3) (gCons (gName 4) gNil))) (tt := tYes) rfl N (pi_zipA (by rfl) mz (pa_cons (pv 0) (pa_cons (pe_slice sl_tupA (pv 0) (po_some pe_int) po_none) pa_nil)))
            (blkOk_by (own := [("low", 3), ("high", 4)]) (N := ["value", "many", "number", "low", "high"]) (sc := defScope sAsc) (by decide +kernel))
            (fun _ _ _ _ _ => pg_tup rfl (pgs_cons (pg_name (i := 3) N rfl (Or.inl rfl)) (pgs_cons (pg_name (i := 4) N rfl (Or.inl rfl)) pgs_nil))) (fun _ _ _ _ _ => pts_nil)
            (fun _ _ _ _ _ => pe_cmpR op_lt (pv 3) (pv 4) (nomark _))) pa_nil))))), ?_⟩
    have seg : ∀ (a : Addr) (xs : List V), xs.length ≤ 1000 → ∀ (D : Addr) (k : Nat) (x : V) (H1 : Hp), H D = none → xs[k]? = some x → Same H H1 → H1 D = some (.lst ((xs.take k).map fun v => .bl (inI v))) →
        ((xs.take k).map fun v => V.bl (inI v)).length < sizeLine ∧ Same H (upd H1 D (.lst ((xs.take k).map (fun v => V.bl (inI v)) ++ [V.bl (inI x)]))) ∧
          upd H1 D (.lst ((xs.take k).map (fun v => V.bl (inI v)) ++ [V.bl (inI x)])) D = some (.lst ((xs.take (k + 1)).map fun v => .bl (inI v))) := by
      intro a xs hl D k x H1 nD hx sm hD
      refine ⟨?_, fun b o e => ?_, ?_⟩
      · rw [List.length_map, List.length_take]
        exact Nat.lt_of_le_of_lt (Nat.min_le_right _ _) (small1000 hl)
      · rw [upd_ne (ne_of_none e nD)]
        exact sm b o e
      · rw [upd_same, List.take_add_one, hx, List.map_append]
        rfl
    rcases h with ⟨⟨t, ty, kb⟩, q⟩ | h
    · exact ⟨_, rfl, _, _, _, _, false, rfl, .ty _, ty, kit_ty kb, false, rfl, iteT q⟩
    obtain ⟨a, xs, rfl, sq, ty, hl, items, h⟩ : ∃ a xs, v = .ref a ∧ SqT K H a xs ∧ TyX K H v (.type "tuple") ∧ xs.length ≤ 1000 ∧ (∀ x ∈ xs, (∃ n, x = .int n) ∨ NoInt K H x) ∧
        (((∃ x ∈ xs, inI x = false) ∧ ∀ H', Same H H' → Q (.bl false) H') ∨ ∃ ns : List Int, xs = ns.map V.int ∧ (∀ n ∈ ns, intOk n = true) ∧ ∀ H', Same H H' → Q (.bl (ansA many ns)) H') := by
      rcases h with ⟨a, xs, rfl, sq, ty, hl, items, bad, q⟩ | ⟨a, ns, rfl, sq, ty, hl, items, q⟩
      · refine ⟨a, xs, rfl, sq, ty, hl, items, ?_⟩
        by_cases hb : ∃ x ∈ xs, inI x = false
        · exact .inl ⟨hb, q⟩
        · right
          have allI : ∀ x ∈ xs, ∃ n, x = .int n ∧ intOk n = true := fun x hx => by
            have g : inI x = true := by
              rcases e : inI x with _ | _
              · exact absurd ⟨x, hx, e⟩ hb
              · rfl
            rcases items x hx with ⟨n, rfl⟩ | no
            · exact ⟨n, rfl, g⟩
            · rw [inI_no no] at g
              cases g
          obtain ⟨ns, rfl, hn⟩ : ∃ ns : List Int, xs = ns.map V.int ∧ ∀ n ∈ ns, intOk n = true := by
            clear bad hb items hl sq ty q
            induction xs with
            | nil => exact ⟨[], rfl, fun _ h => by cases h⟩
            | cons x xs ih =>
              obtain ⟨n, rfl, hn⟩ := allI x (by simp)
              obtain ⟨ns, rfl, hs⟩ := ih (fun y hy => allI y (by simp [hy]))
              exact ⟨n :: ns, rfl, fun m hm => by
                rcases List.mem_cons.mp hm with rfl | hm
                · exact hn
                · exact hs m hm⟩
          refine ⟨ns, rfl, hn, ?_⟩
          obtain ⟨x, hx, hb⟩ := bad
          obtain ⟨n, hn', rfl⟩ := List.mem_map.mp hx
          rw [ans_bad hn' (fun z => by
            have : inOk 0 (many - 1) n = false := hb
            unfold inOk at this
            rw [hn n hn', decide_eq_true z.1, decide_eq_true (show n ≤ many - 1 by omega)] at this
            cases this)]
          exact q
      · refine ⟨a, ns.map V.int, rfl, sq, ty, by rw [List.length_map]; exact hl, fun x hx => ?_, .inr ⟨ns, rfl, fun n hn => ?_, ?_⟩⟩
        · obtain ⟨n, _, rfl⟩ := List.mem_map.mp hx
          exact .inl ⟨n, rfl⟩
        · obtain ⟨n0, n1⟩ := items n hn
          exact intOk_small (by omega) (by omega)
        · rw [ans_good items]
          exact q
    refine ⟨_, rfl, _, _, _, _, true, rfl, .ty _, ty, kit_ty (by decide +kernel), true, rfl, iteF ?_⟩
    refine ⟨.ref a, rfl, a, rfl, ⟨_, sq⟩, fun D nD => ?_⟩
    refine lc_tup (K := K) (a := a) (xs := xs) (fun k H1 => Same H H1 ∧ H1 D = some (.lst ((xs.take k).map fun v => .bl (inI v)))) ⟨sameUpd nD, upd_same⟩ (fun k H1 _ hP => sqT_same hP.1 sq) (fun k v H1 hv hP => ?_) (fun H1 hP => ?_)
    · obtain ⟨sm, hD⟩ := hP
      have st := seg a xs hl D k v H1 nD hv sm hD
      rcases items v (List.mem_of_getElem? hv) with ⟨n, rfl⟩ | no
      · exact ⟨rfl, _, rfl, _, rfl, .inl ⟨n, rfl, _, hD, st⟩⟩
      · refine ⟨rfl, _, rfl, _, rfl, .inr ⟨noInt_same sm no, _, hD, ?_⟩⟩
        rw [inI_no no] at st
        exact st
    · obtain ⟨sm, hD⟩ := hP
      rw [List.take_length] at hD
      rcases h with ⟨bad, q⟩ | ⟨ns, rfl, allI, q⟩
      · refine ⟨D, xs.map inI, rfl, .of ?_, _, rfl, iteTo ?_ (q H1 sm)⟩
        · rw [hD, List.map_map]
          rfl
        · have e : (xs.map inI).all id = false := by
            rw [List.all_eq_false]
            obtain ⟨x, hx, hb⟩ := bad
            exact ⟨inI x, List.mem_map.mpr ⟨x, hx, rfl⟩, by rw [hb]; decide⟩
          rw [e]
          rfl
      · have e : ((ns.map V.int).map inI).all id = true := by
          rw [List.all_eq_true]
          intro b hb
          obtain ⟨x, hx, rfl⟩ := List.mem_map.mp hb
          obtain ⟨n, hn, rfl⟩ := List.mem_map.mp hx
          exact allI n hn
        refine ⟨D, (ns.map V.int).map inI, rfl, .of ?_, _, rfl, iteFo (by rw [e]; rfl) ?_⟩
        · rw [hD, List.map_map, List.map_map, List.map_map]
          rfl
        have hl : ns.length ≤ 1000 := by rw [List.length_map] at hl; exact hl
        have sqv := sqT_same sm sq
        refine ⟨fun σ' H' => σ' = [some (.ref a), some (.int many), none, none, none] ∧ H' = H1 ∧ ansA many ns = ascI ns, ?_, ?_⟩
        · refine ⟨_, rfl, a, _, rfl, .inr sqv, _, _, rfl, rfl, _, rfl, ?_⟩
          rw [List.length_map]
          show if decide (((ns.length : Nat) : Int) > 0) = true then _ else _
          by_cases z : ns = []
          · subst z
            exact iteF (iteF ⟨rfl, rfl, rfl⟩)
          · have np : 0 < ns.length := List.length_pos_iff.mpr z
            have g0 : (ns.map V.int)[0]? = some (.int (ns.getD 0 0)) := by
              rw [List.getElem?_map, List.getElem?_eq_getElem np, List.getD_eq_getElem?_getD, List.getElem?_eq_getElem np]
              rfl
            have gl : (ns.map V.int)[ns.length - 1]? = some (.int (ns.getD (ns.length - 1) 0)) := by
              have l1 : ns.length - 1 < ns.length := by omega
              rw [List.getElem?_map, List.getElem?_eq_getElem l1, List.getD_eq_getElem?_getD, List.getElem?_eq_getElem l1]
              rfl
            refine iteTo (decide_eq_true (by omega)) ?_
            refine ⟨_, rfl, .inr (.inl ⟨a, _, 0, _, rfl, rfl, sqv, atI_nat (j := 0) g0, _, _, rfl, rfl, _, rfl, ite2 (fun e => ?_) (fun e => ?_)⟩)⟩
            · have c := of_decide_eq_true e
              have : ansA many ns = false := by
                unfold ansA
                exact if_pos ⟨np, .inl c⟩
              rw [this] at q
              exact iteT (q H1 sm)
            · have c : ¬ ns.getD 0 0 < 0 := fun w => e (decide_eq_true w)
              have al : atI (ns.map V.int) (-1) = some (.int (ns.getD (ns.length - 1) 0)) := by
                rw [atI_last (by rw [List.length_map]; exact np), List.length_map]
                exact gl
              refine ⟨_, rfl, 1, rfl, .inr (.inl ⟨a, _, -1, _, rfl, rfl, sqv, al, _, rfl, _, _, rfl, rfl, _, rfl, ite2 (fun e2 => ?_) (fun e2 => ?_)⟩)⟩
              · have c2 := of_decide_eq_true e2
                have : ansA many ns = false := by
                  unfold ansA
                  exact if_pos ⟨np, .inr c2⟩
                rw [this] at q
                exact q H1 sm
              · refine ⟨rfl, rfl, ?_⟩
                unfold ansA
                exact if_neg (fun w => w.2.elim c (fun v => e2 (decide_eq_true v)))
        rintro σ' H' ⟨rfl, rfl, eqa⟩
        rw [eqa] at q
        have sq1 := sqT_same sm sq
        have nbr : ∀ (H2 : Hp) (D2 : Addr), Same H' H2 → H2 D2 = none → ∀ (k : Nat) (T : Addr) (x y : V) (H3 : Hp), k < ns.length - 1 → H3 T = none → (ns.map V.int)[k]? = some x → ((ns.drop 1).map V.int)[k]? = some y →
            Same H2 H3 → H3 D2 = some (.lst ((List.range k).map fun i => V.bl (decide (ns.getD i 0 < ns.getD (i + 1) 0)))) →
            ∃ i j : Int, x = .int i ∧ y = .int j ∧ (upd H3 T (.tup [x, y])) D2 = some (.lst ((List.range k).map fun i => V.bl (decide (ns.getD i 0 < ns.getD (i + 1) 0)))) ∧ ((List.range k).map fun i => V.bl (decide (ns.getD i 0 < ns.getD (i + 1) 0))).length < sizeLine ∧
              Same H2 (upd (upd H3 T (.tup [x, y])) D2 (.lst ((List.range k).map (fun i => V.bl (decide (ns.getD i 0 < ns.getD (i + 1) 0))) ++ [V.bl (decide (i < j))]))) ∧
              upd (upd H3 T (.tup [x, y])) D2 (.lst ((List.range k).map (fun i => V.bl (decide (ns.getD i 0 < ns.getD (i + 1) 0))) ++ [V.bl (decide (i < j))])) D2 = some (.lst ((List.range (k + 1)).map fun i => V.bl (decide (ns.getD i 0 < ns.getD (i + 1) 0)))) := by
          intro H2 D2 s2 nD2 k T x y H3 hk nT hx hy s3 hD2
          rw [List.getElem?_map] at hx hy
          obtain ⟨i, hi, rfl⟩ := Option.map_eq_some_iff.mp hx
          obtain ⟨j, hj, rfl⟩ := Option.map_eq_some_iff.mp hy
          rw [List.getElem?_drop] at hj
          refine ⟨i, j, rfl, rfl, sameUpd nT _ _ hD2, ?_, fun b o e => ?_, ?_⟩
          · rw [List.length_map, List.length_range]
            exact small1000 (by omega)
          · rw [upd_ne (ne_of_none e nD2)]
            exact sameUpd nT _ _ (s3 b o e)
          · rw [upd_same, List.range_succ, List.map_append]
            have ei : ns.getD k 0 = i := by rw [List.getD_eq_getElem?_getD, hi]; rfl
            have ej : ns.getD (k + 1) 0 = j := by rw [List.getD_eq_getElem?_getD, Nat.add_comm, hj]; rfl
            show _ = some (HO.lst (_ ++ [V.bl (decide (ns.getD k 0 < ns.getD (k + 1) 0))]))
            rw [ei, ej]
        have endq : ∀ (H2 : Hp) (D2 : Addr) (H4 : Hp), Same H' H2 → Same H2 H4 → H4 D2 = some (.lst ((List.range (ns.length - 1)).map fun i => V.bl (decide (ns.getD i 0 < ns.getD (i + 1) 0)))) →
            ∃ (a : Addr) (bs : List Bool), [V.ref D2] = [V.ref a] ∧ SqL K H4 a (bs.map V.bl) ∧ Q (.bl (bs.all id)) H4 := by
          intro H2 D2 H4 s2 s4 hD2
          refine ⟨D2, (List.range (ns.length - 1)).map fun i => decide (ns.getD i 0 < ns.getD (i + 1) 0), rfl, .of (by rw [hD2, List.map_map]; rfl), ?_⟩
          have e2 : ((List.range (ns.length - 1)).map fun i => decide (ns.getD i 0 < ns.getD (i + 1) 0)).all id = ascI ns := by
            rw [List.all_map]
            rfl
          rw [e2]
          exact q H4 ((sm.trans s2).trans s4)
        have ln1 : (ns.map V.int).length = ns.length := List.length_map _
        have ln2 : ((ns.drop 1).map V.int).length = ns.length - 1 := by rw [List.length_map, List.length_drop]
        refine ⟨.ref a, rfl, .ref a, rfl, 1, rfl, a, _, rfl, sq1, fun wh => ?_, fun nw b nb => ?_⟩
        · have n0 : ns = [] := by
            have w1 := wh.1
            rw [ln1] at w1
            have w2 : min (1 : Int).toNat ns.length = 0 := w1
            have w3 : (1 : Int).toNat = 1 := rfl
            rw [w3] at w2
            exact List.eq_nil_of_length_eq_zero (by omega)
          subst n0
          refine ⟨a, a, _, _, rfl, .inr ⟨sq1, sq1, fun D2 nD2 => ?_⟩⟩
          exact lc_it (walk_zipT (n := 0) rfl) (fun k H2 => Same H' H2 ∧ H2 D2 = some (.lst [])) ⟨sameUpd nD2, upd_same⟩ (fun i H2 _ p => ⟨sqT_same p.1 sq1, sqT_same p.1 sq1⟩)
            (fun i x H2 H3 hi => absurd hi (Nat.not_lt_zero _)) (fun H2 p => endq H' D2 H2 (.refl H') p.1 p.2)
        · have nn : 1 ≤ ns.length := by
            rcases Nat.eq_zero_or_pos ns.length with z | z
            · refine absurd ⟨?_, ?_⟩ nw
              · show min (1 : Int).toNat (ns.map V.int).length = 0
                rw [ln1, z, Nat.min_zero]
              · rfl
            · exact z
          have cut : cutV (ns.map V.int) (some 1) none = (ns.drop 1).map V.int := by
            show ((ns.map V.int).drop (min (1 : Int).toNat (ns.map V.int).length)).take ((ns.map V.int).length - min (1 : Int).toNat (ns.map V.int).length) = _
            have m : min (1 : Int).toNat (ns.map V.int).length = 1 := by
              rw [ln1]
              show min 1 ns.length = 1
              omega
            rw [m, List.take_of_length_le (by rw [List.length_drop, ln1]; exact Nat.le_refl _), List.map_drop]
          rw [cut]
          have sb : SqT K (upd H' b (.tup ((ns.drop 1).map V.int))) b ((ns.drop 1).map V.int) := .of upd_same
          have s2 := sameUpd (o := .tup ((ns.drop 1).map V.int)) nb
          generalize upd H' b (.tup ((ns.drop 1).map V.int)) = H2 at sb s2 ⊢
          refine ⟨a, b, _, _, rfl, .inr ⟨sqT_same s2 sq1, sb, fun D2 nD2 => ?_⟩⟩
          refine lc_it (walk_zipT (n := ns.length - 1) (by rw [ln1, ln2]; omega)) (fun k H3 => Same H2 H3 ∧ H3 D2 = some (.lst ((List.range k).map fun i => V.bl (decide (ns.getD i 0 < ns.getD (i + 1) 0)))))
            ⟨sameUpd nD2, upd_same⟩ (fun i H3 _ p => ⟨sqT_same p.1 (sqT_same s2 sq1), sqT_same p.1 sb⟩) (fun k x H3 H4 hk p y => ?_) (fun H3 p => endq H2 D2 H3 s2 p.1 p.2)
          obtain ⟨T, u, v, rfl, nT, rfl, hu, hv⟩ := y
          obtain ⟨i, j, rfl, rfl, r1, r2, r3, r4⟩ := nbr H2 D2 s2 nD2 k T u v H3 hk nT hu hv p.1 p.2
          exact ⟨T, _, rfl, .of upd_same, rfl, _, _, rfl, _, _, rfl, rfl, rfl, _, rfl, _, rfl, i, j, rfl, rfl, _, r1, r2, r3, r4⟩
end
end K08

set_option maxHeartbeats 16000000
namespace K08
open PySem PySem.Spec PyProof.Rows L2 GG
abbrev sArr : Stmt := topS 6
theorem scArr : FnScope ["value", "many", "number"] ["value", "many"] (defScope sArr) := ⟨rfl, rfl, rfl, by decide +kernel, rfl, by decide +kernel, by decide +kernel⟩
def spArr (K : PySem.W.Frag) : Sp := fun vs H Q _ => ∃ v many, vs = [v, .int many] ∧ 0 ≤ many ∧ many ≤ 1000 ∧
  (((∃ t, TyX K H v (.type t) ∧ kitB t "tuple" = some false) ∧ Q (.bl false) H) ∨
   (∃ a xs, v = .ref a ∧ SqT K H a xs ∧ TyX K H v (.type "tuple") ∧ xs.length ≤ 1000 ∧ (∀ x ∈ xs, (∃ n, x = .int n) ∨ NoInt K H x) ∧ (∃ x ∈ xs, inI x = false) ∧ ∀ H', Same H H' → Q (.bl false) H') ∨
   (∃ (a : Addr) (ns : List Int), v = .ref a ∧ SqT K H a (ns.map V.int) ∧ TyX K H v (.type "tuple") ∧ ns.length ≤ 1000 ∧ (∀ n ∈ ns, intOk n = true) ∧ ∀ H' b, Same H H' → (b = true ↔ ns.Perm (places many)) → Q (.bl b) H'))
section
variable {P : Program} {w : World} {K : PySem.W.Frag} {mg : Str → Option Value} {base : Heap}
theorem ok_arr {f fI : Addr} {fd fdI : FuncData} (F : Fun K "is_arrangement" "is_arrangement" sArr f fd) (bI : Binds K fdI ["value"] [])
    (GI : FnOk P w K mg base CX0 1 fI fdI ["value"] (spInteger K)) (gI : mg "is_integer" = some (.ref fI)) (kI : PySem.W.keepIn K (.ref fI) = true)
    (ms : mg "isinstance" = none) (mt : mg "tuple" = none) (ma : mg "all" = none) (mso : mg "sorted" = none) (mli : mg "list" = none) (mr : mg "range" = none) :
    FnOk P w K mg base CX0 3 f fd ["value", "many"] (spArr K) := by
  refine F.ok scArr (fun vs H Q E h => ?_) (fun cdv A outer s H vs Q E hr h => ?_)
  · obtain ⟨v, many, rfl, _⟩ := h
    rfl
  · obtain ⟨v, many, rfl, m0, m1, h⟩ := h
    have N := scArr.nd
    have hr1 := hr.mono (show 1 ≤ 2 by decide)
    have un := hr.units
    refine ⟨_, pss_cons (ps_if (PW.pt (pw_or (pt_not (pt_val (pe_callB call_isi (by rfl) ms (by decide +kernel) (pa_cons (pv 0) (pa_cons (pe_bltn (v := .ty "tuple") (by rfl) mt (by decide +kernel) rfl) pa_nil)))))
        (pw_or1 (pt_not (pt_val (pe_callB (cr_all rfl) (by rfl) ma (by decide +kernel) (pa_cons
          (pe_lc (own := [("number", 2)]) (g := gName 2) (tt := tYes) rfl N (pi_tup (pv 0)) (blkOk_by (own := [("number", 2)]) (N := ["value", "many", "number"]) (sc := defScope sArr) (by decide +kernel))
            (fun _ _ _ _ _ => pg_name (i := 2) N rfl (Or.inl rfl)) (fun _ _ _ _ _ => pts_nil)
            (fun _ _ _ _ _ => pe_call GI hr1 (by rfl) gI kI bI .nil pass0 (pa_cons (pv 2) pa_nil))) pa_nil)))))))
        (pss_one (ps_ret pe_bl)) pss_nil)
      (pss_one (ps_ret (pe_cmpR (op_eqD un) (pe_callB cr_sortT (by rfl) mso (by decide +kernel) (pa_cons (pv 0) pa_nil)) (pe_listRg rfl (by rfl) mli (prg_1 (by rfl) mr (pv 1))) (nomark _)))), ?_⟩
    have seg : ∀ (a : Addr) (xs : List V), xs.length ≤ 1000 → ∀ (D : Addr) (k : Nat) (x : V) (H1 : Hp), H D = none → xs[k]? = some x → Same H H1 → H1 D = some (.lst ((xs.take k).map fun v => .bl (inI v))) →
        ((xs.take k).map fun v => V.bl (inI v)).length < sizeLine ∧ Same H (upd H1 D (.lst ((xs.take k).map (fun v => V.bl (inI v)) ++ [V.bl (inI x)]))) ∧
          upd H1 D (.lst ((xs.take k).map (fun v => V.bl (inI v)) ++ [V.bl (inI x)])) D = some (.lst ((xs.take (k + 1)).map fun v => .bl (inI v))) := by
      intro a xs hl D k x H1 nD hx sm hD
      refine ⟨?_, fun b o e => ?_, ?_⟩
      · rw [List.length_map, List.length_take]
        exact Nat.lt_of_le_of_lt (Nat.min_le_right _ _) (small1000 hl)
      · rw [upd_ne (ne_of_none e nD)]
        exact sm b o e
      · rw [upd_same, List.take_add_one, hx, List.map_append]
        rfl
    rcases h with ⟨⟨t, ty, kb⟩, q⟩ | ⟨a, xs, rfl, sq, ty, hl, items, bad, q⟩ | ⟨a, ns, rfl, sq, ty, hl, items, q⟩
    · exact ⟨_, rfl, _, _, _, _, false, rfl, .ty _, ty, kit_ty kb, false, rfl, iteT q⟩
    · refine ⟨_, rfl, _, _, _, _, true, rfl, .ty _, ty, kit_ty (by decide +kernel), true, rfl, iteF ?_⟩
      refine ⟨.ref a, rfl, a, rfl, ⟨_, sq⟩, fun D nD => ?_⟩
      refine lc_tup (K := K) (a := a) (xs := xs) (fun k H1 => Same H H1 ∧ H1 D = some (.lst ((xs.take k).map fun v => .bl (inI v)))) ⟨sameUpd nD, upd_same⟩ (fun k H1 _ hP => sqT_same hP.1 sq) (fun k v H1 hv hP => ?_) (fun H1 hP => ?_)
      · obtain ⟨sm, hD⟩ := hP
        have st := seg a xs hl D k v H1 nD hv sm hD
        rcases items v (List.mem_of_getElem? hv) with ⟨n, rfl⟩ | no
        · exact ⟨rfl, _, rfl, _, rfl, .inl ⟨n, rfl, _, hD, st⟩⟩
        · refine ⟨rfl, _, rfl, _, rfl, .inr ⟨noInt_same sm no, _, hD, ?_⟩⟩
          rw [inI_no no] at st
          exact st
      · obtain ⟨sm, hD⟩ := hP
        rw [List.take_length] at hD
        refine ⟨D, xs.map inI, rfl, .of ?_, _, rfl, iteTo ?_ (q H1 sm)⟩
        · rw [hD, List.map_map]
          rfl
        · have e : (xs.map inI).all id = false := by
            rw [List.all_eq_false]
            obtain ⟨x, hx, hb⟩ := bad
            exact ⟨inI x, List.mem_map.mpr ⟨x, hx, rfl⟩, by rw [hb]; decide⟩
          rw [e]
          rfl
    · have itV : ∀ x ∈ ns.map V.int, (∃ n, x = .int n) ∨ NoInt K H x := fun x hx => by
        obtain ⟨n, _, rfl⟩ := List.mem_map.mp hx
        exact .inl ⟨n, rfl⟩
      have lnV : (ns.map V.int).length ≤ 1000 := by
        rw [List.length_map]
        exact hl
      refine ⟨_, rfl, _, _, _, _, true, rfl, .ty _, ty, kit_ty (by decide +kernel), true, rfl, iteF ?_⟩
      refine ⟨.ref a, rfl, a, rfl, ⟨_, sq⟩, fun D nD => ?_⟩
      refine lc_tup (K := K) (a := a) (xs := ns.map V.int) (fun k H1 => Same H H1 ∧ H1 D = some (.lst (((ns.map V.int).take k).map fun v => .bl (inI v)))) ⟨sameUpd nD, upd_same⟩ (fun k H1 _ hP => sqT_same hP.1 sq) (fun k v H1 hv hP => ?_) (fun H1 hP => ?_)
      · obtain ⟨sm, hD⟩ := hP
        have st := seg a _ lnV D k v H1 nD hv sm hD
        rcases itV v (List.mem_of_getElem? hv) with ⟨n, rfl⟩ | no
        · exact ⟨rfl, _, rfl, _, rfl, .inl ⟨n, rfl, _, hD, st⟩⟩
        · refine ⟨rfl, _, rfl, _, rfl, .inr ⟨noInt_same sm no, _, hD, ?_⟩⟩
          rw [inI_no no] at st
          exact st
      · obtain ⟨sm, hD⟩ := hP
        rw [List.take_length] at hD
        have e : ((ns.map V.int).map inI).all id = true := by
          rw [List.all_eq_true]
          intro b hb
          obtain ⟨x, hx, rfl⟩ := List.mem_map.mp hb
          obtain ⟨n, hn, rfl⟩ := List.mem_map.mp hx
          exact items n hn
        refine ⟨D, (ns.map V.int).map inI, rfl, .of ?_, _, rfl, iteFo (by rw [e]; rfl) ?_⟩
        · rw [hD, List.map_map, List.map_map, List.map_map]
          rfl
        refine ⟨.ref a, rfl, a, ns, rfl, sqT_same sm sq, fun ns' p pm so np => ⟨_, rfl, many, rfl, .of_le (by decide) (by omega) (by decide) m0, fun r nr => ?_⟩⟩
        have rg : rgV 0 many = (places many).map V.int := by
          unfold rgV places
          rw [List.map_map, Int.sub_zero]
          apply List.map_congr_left
          intro i _
          show V.int (0 + (i : Int)) = V.int (i : Int)
          rw [Int.zero_add]
        rw [rg]
        refine ⟨.list (ns'.map PyData.int), .list ((places many).map PyData.int), .lst (.of (sameUpd nr _ _ upd_same)) (dpAll_ints _), .lst (.of upd_same) (dpAll_ints _), list_shaped _, list_shaped _, ?_⟩
        rw [PyData.eqv, ints_eqv]
        refine q _ _ ((sm.trans (sameUpd np)).trans (sameUpd nr)) ?_
        rw [decide_eq_true_eq]
        constructor
        · intro e2
          rw [← e2]
          exact pm.symm
        · intro e2
          exact List.Perm.eq_of_pairwise (fun x y _ _ h1 h2 => Int.le_antisymm h1 h2) so (places_sorted many) (pm.trans e2)
end
end K08

set_option maxHeartbeats 16000000
namespace K08
open PySem PySem.Spec PyProof.Rows L2 GG
abbrev sRows : Stmt := topS 15
theorem scRows : FnScope ["rows", "row"] ["rows"] (defScope sRows) := ⟨rfl, rfl, rfl, by decide +kernel, rfl, by decide +kernel, by decide +kernel⟩
/-- what is_ascending answers of a row of a web of so many places -/
def RowAns (K : PySem.W.Frag) (H : Hp) (many : Int) (v : V) (b : Bool) : Prop :=
  ((∃ t, TyX K H v (.type t) ∧ kitB t "tuple" = some false) ∧ b = false) ∨
  (∃ a xs, v = .ref a ∧ SqT K H a xs ∧ TyX K H v (.type "tuple") ∧ xs.length ≤ 1000 ∧ (∀ x ∈ xs, (∃ n, x = .int n) ∨ NoInt K H x) ∧ (∃ x ∈ xs, inM many x = false) ∧ b = false) ∨
  (∃ (a : Addr) (ns : List Int), v = .ref a ∧ SqT K H a (ns.map V.int) ∧ TyX K H v (.type "tuple") ∧ ns.length ≤ 1000 ∧ (∀ n ∈ ns, 0 ≤ n ∧ n < many) ∧ b = ascI ns)
theorem RowAns.same {K : PySem.W.Frag} {H H' : Hp} {many : Int} {v : V} {b : Bool} (h : RowAns K H many v b) (s : Same H H') : RowAns K H' many v b := by
  rcases h with ⟨⟨t, ty, kb⟩, e⟩ | ⟨a, xs, ev, sq, ty, hl, items, bad, e⟩ | ⟨a, ns, ev, sq, ty, hl, items, e⟩
  · exact .inl ⟨⟨t, tyX_same s ty, kb⟩, e⟩
  · exact .inr (.inl ⟨a, xs, ev, sqT_same s sq, tyX_same s ty, hl, fun x hx => (items x hx).imp id (noInt_same s), bad, e⟩)
  · exact .inr (.inr ⟨a, ns, ev, sqT_same s sq, tyX_same s ty, hl, items, e⟩)
theorem RowAns.or {K : PySem.W.Frag} {H : Hp} {many : Int} {v : V} {b : Bool} {Q : VK} (h : RowAns K H many v b) (q : ∀ H', Same H H' → Q (.bl b) H') :
    ((∃ t, TyX K H v (.type t) ∧ kitB t "tuple" = some false) ∧ Q (.bl false) H) ∨
   (∃ a xs, v = .ref a ∧ SqT K H a xs ∧ TyX K H v (.type "tuple") ∧ xs.length ≤ 1000 ∧ (∀ x ∈ xs, (∃ n, x = .int n) ∨ NoInt K H x) ∧ (∃ x ∈ xs, inM many x = false) ∧ ∀ H', Same H H' → Q (.bl false) H') ∨
   (∃ a ns, v = .ref a ∧ SqT K H a (ns.map V.int) ∧ TyX K H v (.type "tuple") ∧ ns.length ≤ 1000 ∧ (∀ n ∈ ns, 0 ≤ n ∧ n < many) ∧ ∀ H', Same H H' → Q (.bl (ascI ns)) H') := by
  rcases h with ⟨no, rfl⟩ | ⟨a, xs, ev, sq, ty, hl, items, bad, rfl⟩ | ⟨a, ns, ev, sq, ty, hl, items, rfl⟩
  · exact .inl ⟨no, q H (.refl H)⟩
  · exact .inr (.inl ⟨a, xs, ev, sq, ty, hl, items, bad, q⟩)
  · exact .inr (.inr ⟨a, ns, ev, sq, ty, hl, items, q⟩)
theorem RowAns.asc {K : PySem.W.Frag} {H : Hp} {many : Int} {v : V} {b : Bool} {Q : VK} {E : XK} (h : RowAns K H many v b) (m0 : 0 ≤ many) (m1 : many ≤ 1000) (q : ∀ H', Same H H' → Q (.bl b) H') : spAsc K [v, .int many] H Q E := by
  refine ⟨v, many, rfl, m0, m1, ?_⟩
  rcases h with ⟨no, rfl⟩ | ⟨a, xs, ev, sq, ty, hl, items, bad, rfl⟩ | ⟨a, ns, ev, sq, ty, hl, items, rfl⟩
  · exact .inl ⟨no, q H (.refl H)⟩
  · exact .inr (.inl ⟨a, xs, ev, sq, ty, hl, items, bad, q⟩)
  · exact .inr (.inr ⟨a, ns, ev, sq, ty, hl, items, q⟩)
/-- what _are_rows is asked, what it answers -/
def RowsAns (K : PySem.W.Frag) (H : Hp) (v : V) (b : Bool) : Prop :=
  ((∃ t, TyX K H v (.type t) ∧ kitB t "tuple" = some false) ∧ b = false) ∨
  (∃ a xs, v = .ref a ∧ SqT K H a xs ∧ TyX K H v (.type "tuple") ∧ (xs.length < 1 ∨ 256 < xs.length) ∧ b = false) ∨
  (∃ (a : Addr) (xs : List V) (bs : List Bool), v = .ref a ∧ SqT K H a xs ∧ TyX K H v (.type "tuple") ∧ 1 ≤ xs.length ∧ xs.length ≤ 256 ∧ bs.length = xs.length ∧ (∀ (i : Nat) (x : V) (c : Bool), xs[i]? = some x → bs[i]? = some c → RowAns K H xs.length x c) ∧ b = bs.all id)
def spRows (K : PySem.W.Frag) : Sp := fun vs H Q _ => ∃ v b, vs = [v] ∧ RowsAns K H v b ∧ ∀ H', Same H H' → Q (.bl b) H'
section
variable {P : Program} {w : World} {K : PySem.W.Frag} {mg : Str → Option Value} {base : Heap}
theorem ok_rows {f fA : Addr} {fd fdA : FuncData} {tM : Tok} (F : Fun K "_are_rows" "_are_rows" sRows f fd) (bA : Binds K fdA ["value", "many"] [])
    (GA : FnOk P w K mg base CX0 3 fA fdA ["value", "many"] (spAsc K)) (gA : mg "is_ascending" = some (.ref fA)) (kA : PySem.W.keepIn K (.ref fA) = true) (mM : mg "MAX_PLACES" = some (.int 256 tM))
    (ms : mg "isinstance" = none) (mt : mg "tuple" = none) (ml : mg "len" = none) (ma : mg "all" = none) :
    FnOk P w K mg base CX0 4 f fd ["rows"] (spRows K) := by
  refine F.ok scRows (fun vs H Q E h => ?_) (fun cdv A outer s H vs Q E hr h => ?_)
  · obtain ⟨v, b, rfl, _⟩ := h
    rfl
  · obtain ⟨v, b, rfl, h, q⟩ := h
    have N := scRows.nd
    refine ⟨_, pss_cons (ps_if (PW.pt (pw_or (pt_not (pt_val (pe_callB call_isi (by rfl) ms (by decide +kernel) (pa_cons (pv 0) (pa_cons (pe_bltn (v := .ty "tuple") (by rfl) mt (by decide +kernel) rfl) pa_nil)))))
        (pw_or1 (pt_not (pt_chain op_le op_le pe_int (pe_callB call_len_seq (by rfl) ml PySem.boot_len (pa_cons (pv 0) pa_nil)) (pe_glob (v := .int 256) (by rfl) mM ⟨_, rfl⟩))))))
        (pss_one (ps_ret pe_bl)) pss_nil)
      (pss_one (ps_ret (pe_callB (cr_all rfl) (by rfl) ma (by decide +kernel) (pa_cons
          (pe_lc (own := [("row", 1)]) (g := gName 1) (tt := tYes) rfl N (pi_tup (pv 0)) (blkOk_by (own := [("row", 1)]) (N := ["rows", "row"]) (sc := defScope sRows) (by decide +kernel))
            (fun _ _ _ _ _ => pg_name (i := 1) N rfl (Or.inl rfl)) (fun _ _ _ _ _ => pts_nil)
            (fun _ _ _ _ _ => pe_call GA hr (by rfl) gA kA bA .nil pass0 (pa_cons (pv 1) (pa_cons (pe_callB (call_lenK (K := K) rfl) (by rfl) ml PySem.boot_len (pa_cons (pv 0) pa_nil)) pa_nil)))) pa_nil)))), ?_⟩
    rcases h with ⟨⟨t, ty, kb⟩, rfl⟩ | ⟨a, xs, rfl, sq, ty, few, rfl⟩ | ⟨a, xs, bs, rfl, sq, ty, l1, l2, lb, ans, rfl⟩
    · exact ⟨_, rfl, _, _, _, _, false, rfl, .ty _, ty, kit_ty kb, false, rfl, iteT (q H (.refl H))⟩
    · refine ⟨_, rfl, _, _, _, _, true, rfl, .ty _, ty, kit_ty (by decide +kernel), true, rfl, iteF ?_⟩
      refine ⟨.ref a, rfl, a, _, rfl, .inr sq, _, _, rfl, rfl, _, rfl, ?_⟩
      by_cases z : 1 ≤ xs.length
      · refine iteTo (decide_eq_true (by omega)) ⟨_, _, rfl, rfl, _, rfl, iteTo ?_ (q H (.refl H))⟩
        rw [decide_eq_false (by omega)]
        rfl
      · exact iteFo (decide_eq_false (by omega)) ⟨false, rfl, iteT (q H (.refl H))⟩
    · refine ⟨_, rfl, _, _, _, _, true, rfl, .ty _, ty, kit_ty (by decide +kernel), true, rfl, iteF ?_⟩
      refine ⟨.ref a, rfl, a, _, rfl, .inr sq, _, _, rfl, rfl, _, rfl, iteTo (decide_eq_true (by omega)) ⟨_, _, rfl, rfl, _, rfl, iteFo ?_ ?_⟩⟩
      · rw [decide_eq_true (by omega)]
        rfl
      refine ⟨.ref a, rfl, a, rfl, ⟨_, sq⟩, fun D nD => ?_⟩
      refine lc_tup (K := K) (a := a) (xs := xs) (fun k H1 => Same H H1 ∧ H1 D = some (.lst ((bs.take k).map V.bl))) ⟨sameUpd nD, upd_same⟩ (fun k H1 _ hP => sqT_same hP.1 sq) (fun k v H1 hv hP => ?_) (fun H1 hP => ?_)
      · obtain ⟨sm, hD⟩ := hP
        have kl : k < xs.length := (List.getElem?_eq_some_iff.mp hv).1
        have hb : bs[k]? = some bs[k] := List.getElem?_eq_getElem (by omega)
        refine ⟨rfl, _, rfl, _, rfl, a, xs, rfl, .inr (sqT_same sm sq), v, (xs.length : Int), rfl, by omega, by omega, RowAns.or (Q := fun y H4 => ∃ acc, H4 D = some (.lst acc) ∧ acc.length < sizeLine ∧ Same H (upd H4 D (.lst (acc ++ [y]))) ∧ upd H4 D (.lst (acc ++ [y])) D = some (.lst ((bs.take (k + 1)).map V.bl))) ((ans k v _ hv hb).same sm) fun H2 s2 => ⟨_, s2 _ _ hD, ?_, fun b o e => ?_, ?_⟩⟩
        · rw [List.length_map, List.length_take]
          exact Nat.lt_of_le_of_lt (Nat.min_le_right _ _) (small1000 (by omega))
        · rw [upd_ne (ne_of_none e nD)]
          exact s2 _ _ (sm b o e)
        · rw [upd_same, List.take_add_one, hb, List.map_append]
          rfl
      · obtain ⟨sm, hD⟩ := hP
        rw [← lb, List.take_length] at hD
        exact ⟨D, bs, rfl, .of hD, q H1 sm⟩
end
end K08

set_option maxHeartbeats 16000000
namespace K08
open PySem PySem.Spec PyProof.Rows L2 GG
/-! ### answers about values of written shape -/
def thin1 : PyData → Bool
  | .tuple ds => decide (ds.length ≤ 1000)
  | _ => true
def thin2 : PyData → Bool
  | .tuple ds => ds.all thin1
  | _ => true
theorem not_tuple {K : PySem.W.Frag} {F : Addr → Prop} {H : Hp} {v : V} {d : PyData} (h : Dv F H v d) (nt : ∀ ds, d ≠ .tuple ds) : ∃ t, TyX K H v (.type t) ∧ kitB t "tuple" = some false := by
  refine ⟨_, h.ty, ?_⟩
  rw [kit_tuple]
  cases d with
  | tuple ds => exact absurd rfl (nt ds)
  | _ => rfl
theorem row_ans {K : PySem.W.Frag} {F : Addr → Prop} {H : Hp} {v : V} {d : PyData} {many : Int} (h : Dv F H v d) (t : thin1 d = true) : RowAns K H many v (rowB many d) := by
  by_cases z : ∃ ds, d = .tuple ds
  · obtain ⟨ds, rfl⟩ := z
    have ty := h.ty (K := K)
    cases h with
    | @tup a xs _ f e r =>
      have sq : SqT K H a xs := .inl (.inl e)
      have l : xs.length ≤ 1000 := by rw [r.len]; exact of_decide_eq_true t
      rcases g : ds.all (inD many) with _ | _
      · exact .inr (.inl ⟨a, xs, rfl, sq, ty, l, r.items, r.bad g, by show (ds.all (inD many) && _) = false; rw [g, Bool.false_and]⟩)
      · obtain ⟨e1, e2⟩ := r.ints g
        refine .inr (.inr ⟨a, ds.map toI, rfl, by rw [← e1]; exact sq, ty, by rw [List.length_map, ← r.len]; exact l, e2, ?_⟩)
        show (ds.all (inD many) && _) = _
        rw [g, Bool.true_and]
  · have e : rowB many d = false := by
      cases d with
      | tuple ds => exact absurd ⟨ds, rfl⟩ z
      | _ => rfl
    rw [e]
    exact .inl ⟨not_tuple h (fun ds q => z ⟨ds, q⟩), rfl⟩
theorem rows_ans {K : PySem.W.Frag} {F : Addr → Prop} {H : Hp} {v : V} {d : PyData} (h : Dv F H v d) (t : thin2 d = true) : RowsAns K H v (rowsB d) := by
  by_cases z : ∃ ds, d = .tuple ds
  · obtain ⟨ds, rfl⟩ := z
    have ty := h.ty (K := K)
    cases h with
    | @tup a xs _ f e r =>
      have sq : SqT K H a xs := .inl (.inl e)
      have l := r.len
      by_cases g : 1 ≤ ds.length ∧ ds.length ≤ 256
      · refine .inr (.inr ⟨a, xs, ds.map (rowB ds.length), rfl, sq, ty, by omega, by omega, by rw [List.length_map, l], fun i x c hx hc => ?_, ?_⟩)
        · obtain ⟨d, hd, dv⟩ := r.get hx
          rw [List.getElem?_map, hd] at hc
          cases hc
          rw [l]
          exact row_ans dv (List.all_eq_true.mp t d (List.mem_of_getElem? hd))
        · show (decide _ && (decide _ && ds.all (rowB ds.length))) = _
          rw [decide_eq_true g.1, decide_eq_true g.2, Bool.true_and, Bool.true_and, List.all_map]
          rfl
      · refine .inr (.inl ⟨a, xs, rfl, sq, ty, by omega, ?_⟩)
        show (decide _ && (decide _ && _)) = false
        by_cases g1 : 1 ≤ ds.length
        · rw [decide_eq_false (show ¬ ds.length ≤ 256 by omega), Bool.false_and, Bool.and_false]
        · rw [decide_eq_false g1, Bool.false_and]
  · have e : rowsB d = false := by
      cases d with
      | tuple ds => exact absurd ⟨ds, rfl⟩ z
      | _ => rfl
    rw [e]
    exact .inl ⟨not_tuple h (fun ds q => z ⟨ds, q⟩), rfl⟩
theorem FnOk.weak {P : Program} {w : World} {K : PySem.W.Frag} {mg : Str → Option Value} {base : Heap} {CX : CXT} {k : Nat} {f : Addr} {fd : FuncData} {ps : List Str} {sp sp' : Sp} (F : FnOk P w K mg base CX k f fd ps sp) (h : ∀ vs H Q E, sp' vs H Q E → sp vs H Q E) :
    FnOk P w K mg base CX k f fd ps sp' := ⟨fun vs H Q E q => F.len vs H Q E (h _ _ _ _ q), fun A o s H ar us vs Q E r e b v q => F.run A o s H ar us vs Q E r e b v (h _ _ _ _ q)⟩
/-- is_ascending, in one -/
def spAscB (K : PySem.W.Frag) : Sp := fun vs H Q _ => ∃ v many b, vs = [v, .int many] ∧ 0 ≤ many ∧ many ≤ 1000 ∧ RowAns K H many v b ∧ ∀ H', Same H H' → Q (.bl b) H'
theorem ascB {P : Program} {w : World} {K : PySem.W.Frag} {mg : Str → Option Value} {base : Heap} {k : Nat} {f : Addr} {fd : FuncData} (F : FnOk P w K mg base CX0 k f fd ["value", "many"] (spAsc K)) : FnOk P w K mg base CX0 k f fd ["value", "many"] (spAscB K) :=
  FnOk.weak F fun vs H Q E q => by
    obtain ⟨v, many, b, rfl, m0, m1, a, q⟩ := q
    exact a.asc m0 m1 q
/-- what _is_place answers -/
def PAns (K : PySem.W.Frag) (H : Hp) (many : Int) (v : V) (b : Bool) : Prop := (∃ n, v = .int n ∧ b = inOk 0 (many - 1) n) ∨ (NoInt K H v ∧ b = false)
theorem place_ans {K : PySem.W.Frag} {F : Addr → Prop} {H : Hp} {v : V} {d : PyData} {many : Int} (h : Dv F H v d) : PAns K H many v (inD many d) := by
  rcases h.int_or (K := K) with ⟨n, rfl, rfl⟩ | ⟨no, nd⟩
  · exact .inl ⟨n, rfl, rfl⟩
  · refine .inr ⟨no, ?_⟩
    cases d with
    | int n => exact absurd rfl (nd n)
    | _ => rfl
theorem PAns.same {K : PySem.W.Frag} {H H' : Hp} {many : Int} {v : V} {b : Bool} (h : PAns K H many v b) (s : Same H H') : PAns K H' many v b := h.imp id fun z => ⟨noInt_same s z.1, z.2⟩
theorem PAns.nat {K : PySem.W.Frag} {H : Hp} {many : Nat} {v : V} (h : PAns K H many v true) : ∃ n : Nat, v = vN n ∧ n < many := by
  rcases h with ⟨n, rfl, e⟩ | ⟨_, e⟩
  · have := inOk_iff e.symm
    exact ⟨n.toNat, by rw [vN, Int.toNat_of_nonneg this.1], by omega⟩
  · cases e
/-- repr of them -/
theorem Dv.dp {K : PySem.W.Frag} {F : Addr → Prop} {H : Hp} : ∀ (d : PyData) (v : V), Dv F H v d → d.hasDict = false → Dp K H v d := by
  intro d v h g
  refine dvDp d v h g
where
  dvDp : ∀ (d : PyData) (v : V), Dv F H v d → d.hasDict = false → Dp K H v d
    | .none, _, h, _ => by cases h; exact .non
    | .bool b, _, h, _ => by cases h; exact .bl b
    | .int i, _, h, _ => by cases h; exact .int i
    | .str x, _, h, _ => by cases h; exact .str x
    | .list ds, _, h, g => by
      cases h with
      | lst f e r => exact .lst (.of e) (dvDpAll ds _ r (by rw [PyData.hasDict] at g; exact g))
    | .tuple ds, _, h, g => by
      cases h with
      | tup f e r => exact .tup (.inl (.inl e)) (dvDpAll ds _ r (by rw [PyData.hasDict] at g; exact g))
    | .dict kvs, _, h, g => by
      rw [PyData.hasDict] at g
      cases g
  dvDpAll : ∀ (ds : List PyData) (vs : List V), DvAll F H vs ds → PyData.hasDictAll ds = false → DpAll K H vs ds
    | [], _, h, _ => by cases h; exact .nil
    | d :: ds, _, h, g => by
      rw [PyData.hasDictAll, Bool.or_eq_false_iff] at g
      cases h with
      | cons h1 h2 => exact .cons (dvDp d _ h1 g.1) (dvDpAll ds _ h2 g.2)
/-- to be shown -/
def showsD (d : PyData) : Bool := match d with
  | .dict [] => true
  | d => d.showable && (!d.hasDict && (decide (d.depth ≤ 40) && decide (d.shown.length ≤ 1000)))
theorem Dv.rp {K : PySem.W.Frag} {F : Addr → Prop} {H : Hp} {v : V} {d : PyData} (h : Dv F H v d) (g : showsD d = true) : Rp K H v d ∧ d.shown.length ≤ 1000 := by
  by_cases z : d = .dict []
  · subst z
    cases h with
    | dct0 f e => exact ⟨.inr ⟨_, rfl, e, rfl⟩, by decide +kernel⟩
  · have g' : (d.showable && (!d.hasDict && (decide (d.depth ≤ 40) && decide (d.shown.length ≤ 1000)))) = true := by
      unfold showsD at g
      split at g
      · exact absurd rfl z
      · exact g
    simp only [Bool.and_eq_true, decide_eq_true_eq, Bool.not_eq_true'] at g'
    obtain ⟨g1, g2, g3, g4⟩ := g'
    exact ⟨.inl ⟨Dv.dp d v h g2, g1, g2, g3, by have := small1000 g4; omega⟩, g4⟩
end K08

set_option maxHeartbeats 16000000
namespace K08
open PySem PySem.Spec PyProof.Rows L2 GG
/-- the defs of the class Web, in their order -/
def webS (i : Nat) : Stmt := (clsBody (topS 14)).getD i (.Pass ⟨0, 0, 0, 0⟩)
abbrev sWInit : Stmt := webS 0
abbrev sWRows : Stmt := webS 2
abbrev sWLen : Stmt := webS 17
abbrev sWGet : Stmt := webS 15
abbrev sWIs : Stmt := webS 21
abbrev sWCheck : Stmt := webS 22
abbrev sWEq : Stmt := webS 19
theorem scWInit : FnScope ["self", "rows"] ["self", "rows"] (defScope sWInit) := ⟨rfl, rfl, rfl, by decide +kernel, rfl, by decide +kernel, by decide +kernel⟩
theorem scWRows : FnScope ["self"] ["self"] (defScope sWRows) := ⟨rfl, rfl, rfl, by decide +kernel, rfl, by decide +kernel, by decide +kernel⟩
theorem scWLen : FnScope ["self"] ["self"] (defScope sWLen) := ⟨rfl, rfl, rfl, by decide +kernel, rfl, by decide +kernel, by decide +kernel⟩
theorem scWGet : FnScope ["self", "place"] ["self", "place"] (defScope sWGet) := ⟨rfl, rfl, rfl, by decide +kernel, rfl, by decide +kernel, by decide +kernel⟩
theorem scWIs : FnScope ["self", "value"] ["self", "value"] (defScope sWIs) := ⟨rfl, rfl, rfl, by decide +kernel, rfl, by decide +kernel, by decide +kernel⟩
theorem scWCheck : FnScope ["self", "place"] ["self", "place"] (defScope sWCheck) := ⟨rfl, rfl, rfl, by decide +kernel, rfl, by decide +kernel, by decide +kernel⟩
theorem scWEq : FnScope ["self", "value"] ["self", "value"] (defScope sWEq) := ⟨rfl, rfl, rfl, by decide +kernel, rfl, by decide +kernel, by decide +kernel⟩
/-- right rows are right -/
theorem rowsAns {K : PySem.W.Frag} {H : Hp} {r : Addr} {as : List Addr} {rows : List (List Nat)} (h : RowsT K H r as rows) (ok : WebOk rows) : RowsAns K H (.ref r) true := by
  have la : (as.map V.ref).length = rows.length := by rw [List.length_map, h.len]
  refine .inr (.inr ⟨r, as.map V.ref, List.replicate rows.length true, rfl, h.seq, sqT_ty h.seq, by rw [la]; exact ok.some_, by rw [la]; exact ok.few, by rw [List.length_replicate, la], fun i x c hx hc => ?_, ?_⟩)
  · rw [List.getElem?_map] at hx
    obtain ⟨a, ha, rfl⟩ := Option.map_eq_some_iff.mp hx
    have il : i < rows.length := by
      have := (List.getElem?_eq_some_iff.mp ha).1
      have := h.len
      omega
    have ec : c = true := by
      rw [List.getElem?_replicate_of_lt il] at hc
      exact (Option.some.inj hc).symm
    subst ec
    have hr := h.row i a rows[i] ha (List.getElem?_eq_getElem il)
    have m : rows[i] ∈ rows := List.getElem_mem il
    refine .inr (.inr ⟨a, rows[i].map (fun k : Nat => (k : Int)), rfl, by rw [← mapN]; exact hr, sqT_ty hr, ?_, fun n hn => ?_, (ascI_of (ok.asc _ m)).symm⟩)
    · rw [List.length_map]
      have := ok.rowLen m
      omega
    · obtain ⟨k, hk, rfl⟩ := List.mem_map.mp hn
      have := ok.inn _ m k hk
      omega
  · rw [List.all_replicate]
    simp
/-- __init__, of right rows -/
def spWInit (K : PySem.W.Frag) (C : Addr) : Sp := fun vs H Q _ => ∃ x dx r as rows, vs = [.ref x, .ref r] ∧ H x = some (.ins C dx []) ∧ RowsT K H r as rows ∧ WebOk rows ∧
  ∀ H', But x H H' → H' x = some (.ins C dx [("_rows", .ref r), ("_lone_depth", .non)]) → Q .non H'
def spWRows (K : PySem.W.Frag) (C : Addr) : Sp := fun vs H Q _ => ∃ w dx r ld, vs = [.ref w] ∧ H w = some (.ins C dx [("_rows", .ref r), ("_lone_depth", ld)]) ∧ Q (.ref r) H
def spWLen (K : PySem.W.Frag) (C : Addr) : Sp := fun vs H Q _ => ∃ w rows, vs = [.ref w] ∧ WebAt K H C w rows ∧ Q (.int rows.length) H
def spWIs (K : PySem.W.Frag) (C : Addr) : Sp := fun vs H Q _ => ∃ w rows v, vs = [.ref w, v] ∧ WebAt K H C w rows ∧
  ((∃ n, v = .int n ∧ Q (.bl (inOk 0 ((rows.length : Int) - 1) n)) H) ∨ (NoInt K H v ∧ Q (.bl false) H))
/-- of right places -/
def spWCheck (K : PySem.W.Frag) (C : Addr) : Sp := fun vs H Q _ => ∃ w rows n, vs = [.ref w, vN n] ∧ WebAt K H C w rows ∧ rows.length ≤ 256 ∧ n < rows.length ∧ Q .non H
def spWGet (K : PySem.W.Frag) (C : Addr) : Sp := fun vs H Q _ => ∃ w dx r as ld rows n a, vs = [.ref w, vN n] ∧ H w = some (.ins C dx [("_rows", .ref r), ("_lone_depth", ld)]) ∧ RowsT K H r as rows ∧ rows.length ≤ 256 ∧ as[n]? = some a ∧ Q (.ref a) H
def spWEq (K : PySem.W.Frag) (C : Addr) : Sp := fun vs H Q _ => ∃ w v rows, vs = [.ref w, .ref v] ∧ WebAt K H C w rows ∧ ∃ rows2, WebAt K H C v rows2 ∧ Q (.bl (decide (rows = rows2))) H
theorem inOk_of {m n : Int} (h0 : 0 ≤ n) (h1 : n < m) (hm : m ≤ 1000) : inOk 0 (m - 1) n = true := by
  unfold inOk
  rw [intOk_small (by omega) (by omega), decide_eq_true h0, decide_eq_true (by omega)]
  rfl
section
variable {P : Program} {w : World} {K : PySem.W.Frag} {mg : Str → Option Value} {base : Heap}
theorem ok_winit {f fR C : Addr} {fd fdR : FuncData} (F : Fun K "__init__" "Web.__init__" sWInit f fd) (bR : Binds K fdR ["rows"] []) (W : WebC K C)
    (GR : FnOk P w K mg base CX0 4 fR fdR ["rows"] (spRows K)) (gR : mg "_are_rows" = some (.ref fR)) (kR : PySem.W.keepIn K (.ref fR) = true) :
    FnOk P w K mg base CX0 5 f fd ["self", "rows"] (spWInit K C) := by
  refine F.ok scWInit (fun vs H Q E h => ?_) (fun cdv A outer s H vs Q E hr h => ?_)
  · obtain ⟨x, dx, r, as, rows, rfl, _⟩ := h
    rfl
  · obtain ⟨x, dx, r, as, rows, rfl, hx, hrw, ok, q⟩ := h
    refine ⟨_, pss_cons (ps_if (pt_not (pt_val (pe_call GR hr (by rfl) gR kR bR .nil pass0 (pa_cons (pv 1) pa_nil)))) (pss_one ps_never) pss_nil)
      (pss_cons (ps_fld (pv 0) (pv 1) rfl) (pss_one (ps_fld (pv 0) pe_non rfl))), ?_⟩
    refine ⟨_, rfl, _, true, rfl, rowsAns hrw ok, fun H1 s1 => ⟨true, rfl, iteF ?_⟩⟩
    have h1 := s1 _ _ hx
    refine ⟨_, rfl, _, rfl, x, C, dx, _, rfl, h1, W.c, W.no, (by show 0 < 1000; decide), ?_⟩
    refine ⟨_, rfl, x, C, dx, _, rfl, upd_same, W.c, W.no2, (by show 1 < 1000; decide), ?_⟩
    refine q _ (fun b o n e => ?_) ?_
    · rw [upd_ne n, upd_ne n]
      exact s1 _ _ e
    · rw [upd_same]
      rfl
theorem ok_wrows {f C : Addr} {fd : FuncData} {k : Nat} (F : Fun K "rows" "Web.rows" sWRows f fd) (W : WebC K C) : FnOk P w K mg base CX0 (k + 1) f fd ["self"] (spWRows K C) := by
  refine F.ok scWRows (fun vs H Q E h => ?_) (fun cdv A outer s H vs Q E hr h => ?_)
  · obtain ⟨w, dx, r, ld, rfl, _⟩ := h
    rfl
  · obtain ⟨w, dx, r, ld, rfl, hw, q⟩ := h
    exact ⟨_, pss_one (ps_ret (pe_fld (pv 0) rfl)), _, rfl, w, C, dx, _, _, rfl, hw, W.c, W.no, rfl, q⟩
theorem ok_wlen {f C : Addr} {fd : FuncData} {k : Nat} (F : Fun K "__len__" "Web.__len__" sWLen f fd) (W : WebC K C) (ml : mg "len" = none) : FnOk P w K mg base CX0 (k + 1) f fd ["self"] (spWLen K C) := by
  refine F.ok scWLen (fun vs H Q E h => ?_) (fun cdv A outer s H vs Q E hr h => ?_)
  · obtain ⟨w, rows, rfl, _⟩ := h
    rfl
  · obtain ⟨w, rows, rfl, ⟨dx, r, as, ld, hw, hrw⟩, q⟩ := h
    refine ⟨_, pss_one (ps_ret (pe_callB call_len_seq (by rfl) ml PySem.boot_len (pa_cons (pe_fld (pv 0) rfl) pa_nil))), ?_⟩
    refine ⟨_, rfl, w, C, dx, _, _, rfl, hw, W.c, W.no, rfl, r, _, rfl, .inr hrw.seq, ?_⟩
    rw [List.length_map, hrw.len]
    exact q
theorem ok_wis {f fW C : Addr} {fd fdW : FuncData} (F : Fun K "_is_place" "Web._is_place" sWIs f fd) (bW : Binds K fdW ["value", "least", "most"] []) (W : WebC K C)
    (GW : FnOk P w K mg base CX0 2 fW fdW ["value", "least", "most"] (spWithin K)) (gW : mg "is_within" = some (.ref fW)) (kW : PySem.W.keepIn K (.ref fW) = true) (ml : mg "len" = none) :
    FnOk P w K mg base CX0 3 f fd ["self", "value"] (spWIs K C) := by
  refine F.ok scWIs (fun vs H Q E h => ?_) (fun cdv A outer s H vs Q E hr h => ?_)
  · obtain ⟨w, rows, v, rfl, _⟩ := h
    rfl
  · obtain ⟨w, rows, v, rfl, ⟨dx, r, as, ld, hw, hrw⟩, h⟩ := h
    refine ⟨_, pss_one (ps_ret (pe_call GW hr (by rfl) gW kW bW .nil pass0 (pa_cons (pv 1) (pa_cons pe_int (pa_cons (pe_op op_sub (pe_callB call_len_seq (by rfl) ml PySem.boot_len (pa_cons (pe_fld (pv 0) rfl) pa_nil)) pe_int) pa_nil))))), ?_⟩
    refine ⟨_, rfl, _, rfl, w, C, dx, _, _, rfl, hw, W.c, W.no, rfl, r, _, rfl, .inr hrw.seq, _, _, rfl, rfl, v, 0, (((as.map V.ref).length : Nat) : Int) - 1, rfl, ?_⟩
    rw [List.length_map, hrw.len]
    exact h
theorem ok_wcheck {f fS C : Addr} {fd fdS : FuncData} (F : Fun K "_check_place" "Web._check_place" sWCheck f fd) (bS : Binds K fdS ["self", "value"] []) (W : WebC K C) (mS : Meth K C "_is_place" fS)
    (GS : FnOk P w K mg base CX0 3 fS fdS ["self", "value"] (spWIs K C)) : FnOk P w K mg base CX0 4 f fd ["self", "place"] (spWCheck K C) := by
  refine F.ok scWCheck (fun vs H Q E h => ?_) (fun cdv A outer s H vs Q E hr h => ?_)
  · obtain ⟨w, rows, n, rfl, _⟩ := h
    rfl
  · obtain ⟨w, rows, n, rfl, wa, few, hn, q⟩ := h
    obtain ⟨dx, r, as, ld, hw, hrw⟩ := id wa
    refine ⟨_, pss_one (ps_if (pt_not (pt_val (pe_meth (pv 0) W.c mS GS hr bS .nil pass0 (pa_cons (pv 1) pa_nil)))) (pss_one ps_never) pss_nil), ?_⟩
    exact ⟨_, rfl, w, dx, _, rfl, hw, rfl, _, rfl, w, rows, _, rfl, wa, .inl ⟨(n : Int), rfl, true, by rw [inOk_of (by omega) (by omega) (by omega)], iteF q⟩⟩
theorem ok_wget {f fC C : Addr} {fd fdC : FuncData} (F : Fun K "__getitem__" "Web.__getitem__" sWGet f fd) (bC : Binds K fdC ["self", "place"] []) (W : WebC K C) (mC : Meth K C "_check_place" fC)
    (GC : FnOk P w K mg base CX0 4 fC fdC ["self", "place"] (spWCheck K C)) : FnOk P w K mg base CX0 5 f fd ["self", "place"] (spWGet K C) := by
  refine F.ok scWGet (fun vs H Q E h => ?_) (fun cdv A outer s H vs Q E hr h => ?_)
  · obtain ⟨w, dx, r, as, ld, rows, n, a, rfl, _⟩ := h
    rfl
  · obtain ⟨w, dx, r, as, ld, rows, n, a, rfl, hw, hrw, few, ha, q⟩ := h
    refine ⟨_, pss_cons (ps_expr (pe_meth (pv 0) W.c mC GC hr bC .nil pass0 (pa_cons (pv 1) pa_nil))) (pss_one (ps_ret (pe_ix ix_seq (pe_fld (pv 0) rfl) (pv 1) (fun _ _ => rfl)))), ?_⟩
    have nl : n < as.length := (List.getElem?_eq_some_iff.mp ha).1
    have e : (as.map V.ref)[n]? = some (.ref a) := by
      rw [List.getElem?_map, ha]
      rfl
    refine ⟨_, rfl, w, dx, _, rfl, hw, rfl, _, rfl, w, rows, n, rfl, ⟨dx, r, as, ld, hw, hrw⟩, few, by have := hrw.len; omega, ?_⟩
    exact ⟨_, rfl, w, C, dx, _, _, rfl, hw, W.c, W.no, rfl, _, rfl, .inr (.inl ⟨r, _, (n : Int), _, rfl, rfl, hrw.seq, atI_nat e, q⟩)⟩
theorem ok_weq {f C : Addr} {fd : FuncData} {k : Nat} (F : Fun K "__eq__" "Web.__eq__" sWEq f fd) (W : WebC K C) (ms : mg "isinstance" = none) (gW : mg "Web" = some (.ref C))
    (ha : PySem.W.findIn K (.ref C) "__class__" = some (some (.builtin "object.__class__"))) (hn : PySem.W.specialIn K (.builtin "object.__class__") "__get__" = some (some (.builtin "getset_descriptor.__get__")))
    (htk : PySem.W.takesIn K (.builtin "object.__class__") = some true) (hm : PySem.W.mroIn K C (.type "object") = some true) :
    FnOk P w K mg base CX0 (k + 1) f fd ["self", "value"] (spWEq K C) := by
  refine F.ok scWEq (fun vs H Q E h => ?_) (fun cdv A outer s H vs Q E hr h => ?_)
  · obtain ⟨w, v, rows, rfl, _⟩ := h
    rfl
  · obtain ⟨w, v, rows, rfl, ⟨dx, r, as, ld, hw, hrw⟩, rows2, ⟨dx2, r2, as2, ld2, hv, hrw2⟩, q⟩ := h
    have un := hr.units
    refine ⟨_, pss_one (ps_ret (pe_and (pe_callB call_isi (by rfl) ms (by decide +kernel) (pa_cons (pv 1) (pa_cons (pe_glob (v := .ref C) (by rfl) gW rfl) pa_nil)))
      (pe_one (pe_cmpR (op_eqD un) (pe_fld (pv 0) rfl) (pe_fld (pv 1) rfl) (nomark _))))), ?_⟩
    refine ⟨_, rfl, .ref v, .ref C, .ref C, .ref C, true, rfl, .own C, .base (.ins hv W.c ha hn htk hm), ?_, true, rfl, iteT ?_⟩
    · show (if (Value.ref C == Value.ref C) = true then some true else _) = some true
      rw [if_pos (beq_self_eq_true _)]
    refine ⟨_, rfl, w, C, dx, _, _, rfl, hw, W.c, W.no, rfl, _, rfl, v, C, dx2, _, _, rfl, hv, W.c, W.no, rfl, ?_⟩
    refine ⟨_, _, hrw.dp, hrw2.dp, (tupsD_shaped rows).1, (tupsD_shaped rows2).1, ?_⟩
    rw [PyData.eqv, tupsD_eqv]
    exact q
end
end K08

set_option maxHeartbeats 16000000
namespace K08
open PySem PySem.Spec PyProof.Rows L2 GG
/-! ### the class Web, of any arguments: what is refused -/
abbrev XN (K : PySem.W.Frag) (mg : Str → Option Value) (C fI : Addr) : Prop :=
  PySem.GX.OwnX K mg "InvalidNumber" "value" [.type "IndexError", .type "LookupError", .type "Exception", .type "BaseException", .type "object"] "IndexError.__new__" C fI
abbrev xdv (v : V) : HO := .xd [("value", v)]
def Raised (E : XK) (C : Addr) (v : V) (H : Hp) : Prop := ∀ H' d, Same H H' → H' d = none → E (.ref C) (some d) (upd H' d (xdv v))
/-- an own exception without __init__, over ValueError -/
structure XP (K : PySem.W.Frag) (mg : Str → Option Value) (nm : Str) (C : Addr) : Prop where
  x : PySem.W.excIn K C [.type "ValueError", .type "Exception", .type "BaseException", .type "object"] "ValueError.__new__" = true
  g : mg nm = some (.ref C)
  k : PySem.W.keepIn K (.ref C) = true
  b : PySem.W.subIn K (.ref C) (.type "BaseException") = some true
  t : PySem.W.typeIn K (.ref C) = some (.type "type")
def RaisedP (E : XK) (C : Addr) (H : Hp) : Prop := ∀ H', Same H H' → E (.ref C) none H'
theorem Raised.same {E : XK} {C : Addr} {v : V} {H H1 : Hp} (r : Raised E C v H) (s : Same H H1) : Raised E C v H1 := fun H' d s' n => r H' d (s.trans s') n
theorem RaisedP.same {E : XK} {C : Addr} {H H1 : Hp} (r : RaisedP E C H) (s : Same H H1) : RaisedP E C H1 := fun H' s' => r H' (s.trans s')
/-- the row that is_ascending lets -/
theorem RowAns.nat {K : PySem.W.Frag} {H : Hp} {many : Nat} {v : V} (h : RowAns K H many v true) : ∃ (a : Addr) (ns : List Nat), v = .ref a ∧ SqT K H a (ns.map vN) ∧ ns.Pairwise (· < ·) ∧ (∀ n ∈ ns, n < many) := by
  rcases h with ⟨_, e⟩ | ⟨a, xs, ev, sq, ty, hl, items, bad, e⟩ | ⟨a, ns, ev, sq, ty, hl, items, e⟩
  · cases e
  · cases e
  · have back : (ns.map Int.toNat).map (fun k : Nat => (k : Int)) = ns := by
      rw [List.map_map]
      exact (List.map_congr_left fun n hn => Int.toNat_of_nonneg (items n hn).1).trans (List.map_id _)
    refine ⟨a, ns.map Int.toNat, ev, by rw [mapN, back]; exact sq, ?_, fun n hn => ?_⟩
    · rw [List.pairwise_iff_getElem]
      have asc : ∀ (d i : Nat) (h1 : i + 1 + d < ns.length), ns[i]'(by omega) < ns[i + 1 + d] := by
        intro d
        induction d with
        | zero =>
          intro i h1
          unfold ascI at e
          have := of_decide_eq_true (List.all_eq_true.mp e.symm i (List.mem_range.mpr (by omega)))
          rw [List.getD_eq_getElem?_getD, List.getD_eq_getElem?_getD, List.getElem?_eq_getElem (by omega), List.getElem?_eq_getElem (by omega)] at this
          exact this
        | succ d ih =>
          intro i h1
          have a1 := ih i (by omega)
          unfold ascI at e
          have := of_decide_eq_true (List.all_eq_true.mp e.symm (i + 1 + d) (List.mem_range.mpr (by omega)))
          rw [List.getD_eq_getElem?_getD, List.getD_eq_getElem?_getD, List.getElem?_eq_getElem (by omega), List.getElem?_eq_getElem (by omega)] at this
          exact Int.lt_trans a1 this
      intro i j hi hj ij
      rw [List.length_map] at hi hj
      have := asc (j - i - 1) i (by omega)
      have e2 : i + 1 + (j - i - 1) = j := by omega
      rw [List.getElem_map, List.getElem_map]
      have n1 := (items _ (List.getElem_mem hi)).1
      simp only [e2] at this
      omega
    · obtain ⟨m, hm, rfl⟩ := List.mem_map.mp hn
      have := items m hm
      omega
/-- a right row -/
theorem row_right {K : PySem.W.Frag} {H : Hp} {many : Nat} {a : Addr} {ns : List Nat} (h : SqT K H a (ns.map vN)) (asc : ns.Pairwise (· < ·)) (inn : ∀ n ∈ ns, n < many) (few : many ≤ 256) : RowAns K H many (.ref a) true := by
  have := asc_len (lo := 0) asc (fun x hx => ⟨Nat.zero_le _, inn x hx⟩)
  refine .inr (.inr ⟨a, ns.map (fun k : Nat => (k : Int)), rfl, by rw [← mapN]; exact h, sqT_ty h, by rw [List.length_map]; omega, fun n hn => ?_, (ascI_of asc).symm⟩)
  obtain ⟨k, hk, rfl⟩ := List.mem_map.mp hn
  have := inn k hk
  omega
abbrev sWRow : Stmt := webS 13
theorem scWRow : FnScope ["self", "place", "row"] ["self", "place", "row"] (defScope sWRow) := ⟨rfl, rfl, rfl, by decide +kernel, rfl, by decide +kernel, by decide +kernel⟩
/-- _check_place -/
def spXCheck (K : PySem.W.Frag) (C CN : Addr) : Sp := fun vs H Q E => ∃ (w : Addr) (v : V) (rows : List (List Nat)) (b : Bool), vs = [.ref w, v] ∧ WebAt K H C w rows ∧ PAns K H rows.length v b ∧ (b = true → Q .non H) ∧ (b = false → Raised E CN v H)
/-- __init__ -/
def spXInit (K : PySem.W.Frag) (C CW : Addr) : Sp := fun vs H Q E => ∃ (x dx : Addr) (v : V) (b : Bool), vs = [.ref x, v] ∧ H x = some (.ins C dx []) ∧ RowsAns K H v b ∧
  (b = true → ∀ H', But x H H' → H' x = some (.ins C dx [("_rows", v), ("_lone_depth", .non)]) → Q .non H') ∧ (b = false → RaisedP E CW H)
/-- web[v] -/
def spXGet (K : PySem.W.Frag) (C CN : Addr) : Sp := fun vs H Q E => ∃ (w dx r : Addr) (as : List Addr) (ld v : V) (rows : List (List Nat)) (b : Bool), vs = [.ref w, v] ∧ H w = some (.ins C dx [("_rows", .ref r), ("_lone_depth", ld)]) ∧ RowsT K H r as rows ∧ PAns K H rows.length v b ∧
  (b = true → ∀ (n : Nat) (a : Addr), v = vN n → as[n]? = some a → Q (.ref a) H) ∧ (b = false → Raised E CN v H)
/-- with_row -/
def spXRow (K : PySem.W.Frag) (C CN CO : Addr) : Sp := fun vs H Q E => ∃ (w : Addr) (v r : V) (rows : List (List Nat)) (b b2 : Bool), vs = [.ref w, v, r] ∧ WebAt K H C w rows ∧ WebOk rows ∧ PAns K H rows.length v b ∧ RowAns K H rows.length r b2 ∧
  (b = true → b2 = true → ∃ (a : Addr) (ns : List Nat), r = .ref a ∧ SqT K H a (ns.map vN) ∧ ns.Pairwise (· < ·) ∧ (∀ k ∈ ns, k < rows.length) ∧
    ∀ (n : Nat) (w' : Addr) (H' : Hp), v = vN n → n < rows.length → Same H H' → H w' = none → WebAt K H' C w' (rows.set n ns) → WebOk (rows.set n ns) → Q (.ref w') H') ∧
  (b = false → Raised E CN v H) ∧ (b = true → b2 = false → RaisedP E CO H)
theorem webOk_set {rows : List (List Nat)} (h : WebOk rows) {n : Nat} {ns : List Nat} (asc : ns.Pairwise (· < ·)) (inn : ∀ k ∈ ns, k < rows.length) : WebOk (rows.set n ns) := by
  refine ⟨by rw [List.length_set]; exact h.some_, by rw [List.length_set]; exact h.few, fun row hr x hx => ?_, fun row hr => ?_⟩
  · rw [List.length_set]
    rcases List.mem_or_eq_of_mem_set hr with m | rfl
    · exact h.inn row m x hx
    · exact inn x hx
  · rcases List.mem_or_eq_of_mem_set hr with m | rfl
    · exact h.asc row m
    · exact asc
theorem cut_to {xs : List V} {n : Nat} (h : n ≤ xs.length) : cutV xs none (some (n : Int)) = xs.take n := by
  unfold cutV HT.sIx
  show (xs.drop 0).take ((if ((n : Nat) : Int) < 0 then (((n : Nat) : Int) + xs.length).toNat else min ((n : Nat) : Int).toNat xs.length) - 0) = _
  rw [if_neg (by omega), Int.toNat_natCast, Nat.min_eq_left h]
  rfl
theorem cut_from {xs : List V} {n : Nat} (h : n ≤ xs.length) : cutV xs (some (n : Int)) none = xs.drop n := by
  unfold cutV HT.sIx
  show (xs.drop (if ((n : Nat) : Int) < 0 then (((n : Nat) : Int) + xs.length).toNat else min ((n : Nat) : Int).toNat xs.length)).take (xs.length - (if ((n : Nat) : Int) < 0 then (((n : Nat) : Int) + xs.length).toNat else min ((n : Nat) : Int).toNat xs.length)) = _
  rw [if_neg (by omega), Int.toNat_natCast, Nat.min_eq_left h, List.take_of_length_le (by rw [List.length_drop]; exact Nat.le_refl _)]
theorem set_cut {α : Type} {xs : List α} {n : Nat} {y : α} (h : n < xs.length) : xs.take n ++ [y] ++ xs.drop (n + 1) = xs.set n y := by
  rw [List.set_eq_take_append_cons_drop, if_pos h, List.append_assoc]
  rfl
section
variable {P : Program} {w : World} {K : PySem.W.Frag} {mg : Str → Option Value} {base : Heap}
theorem okX_check {f fS C CN fI : Addr} {fd fdS : FuncData} (F : Fun K "_check_place" "Web._check_place" sWCheck f fd) (bS : Binds K fdS ["self", "value"] []) (W : WebC K C) (mS : Meth K C "_is_place" fS)
    (GS : FnOk P w K mg base CX0 3 fS fdS ["self", "value"] (spWIs K C)) (T : XN K mg CN fI) (init : PySem.GX.InitOk K "value" CN fI) : FnOk P w K mg base (L2.CX P w) 4 f fd ["self", "place"] (spXCheck K C CN) := by
  refine F.okX scWCheck (fun vs H Q E h => ?_) (fun cdv A outer s H vs Q E hr h => ?_)
  · obtain ⟨w, v, rows, b, rfl, _⟩ := h
    rfl
  · obtain ⟨w, v, rows, b, rfl, wa, ans, qT, qF⟩ := h
    obtain ⟨dx, r, as, ld, hw, hrw⟩ := id wa
    refine ⟨_, pss_one (ps_if (pt_not (pt_val (pe_meth (pv 0) W.c mS GS hr bS .nil pass0 (pa_cons (pv 1) pa_nil))))
      (pss_one (ps_raiseX PySem.F.excBase_IndexError rfl T init hr (takes_of rfl rfl rfl rfl) (pa_cons (pv 1) pa_nil))) pss_nil), ?_⟩
    refine ⟨_, rfl, w, dx, _, rfl, hw, rfl, _, rfl, w, rows, _, rfl, wa, ?_⟩
    rcases ans with ⟨n, rfl, e⟩ | ⟨no, e⟩
    · refine .inl ⟨n, rfl, b, by rw [e], ?_⟩
      cases b with
      | true => exact iteF (qT rfl)
      | false => exact iteT ⟨_, rfl, _, rfl, fun d hd => qF rfl H d (.refl H) hd⟩
    · subst e
      exact .inr ⟨no, false, rfl, iteT ⟨_, rfl, _, rfl, fun d hd => qF rfl H d (.refl H) hd⟩⟩
theorem okX_init {f fR C CW : Addr} {fd fdR : FuncData} (F : Fun K "__init__" "Web.__init__" sWInit f fd) (bR : Binds K fdR ["rows"] []) (W : WebC K C)
    (GR : FnOk P w K mg base CX0 4 fR fdR ["rows"] (spRows K)) (gR : mg "_are_rows" = some (.ref fR)) (kR : PySem.W.keepIn K (.ref fR) = true) (X : XP K mg "InvalidWeb" CW) :
    FnOk P w K mg base (L2.CX P w) 5 f fd ["self", "rows"] (spXInit K C CW) := by
  refine F.okX scWInit (fun vs H Q E h => ?_) (fun cdv A outer s H vs Q E hr h => ?_)
  · obtain ⟨x, dx, v, b, rfl, _⟩ := h
    rfl
  · obtain ⟨x, dx, v, b, rfl, hx, ans, qT, qF⟩ := h
    refine ⟨_, pss_cons (ps_if (pt_not (pt_val (pe_call GR hr (by rfl) gR kR bR .nil pass0 (pa_cons (pv 1) pa_nil))))
        (pss_one (ps_raise rfl (takes_of rfl rfl rfl rfl) (pmk_own PySem.F.excBase_ValueError X.x X.g X.k (raises_own X.b X.t) rfl))) pss_nil)
      (pss_cons (ps_fld (pv 0) (pv 1) rfl) (pss_one (ps_fld (pv 0) pe_non rfl))), ?_⟩
    refine ⟨_, rfl, v, b, rfl, ans, fun H1 s1 => ⟨b, rfl, ?_⟩⟩
    cases b with
    | false => exact iteT (qF rfl H1 s1)
    | true =>
      have h1 := s1 _ _ hx
      refine iteF ⟨_, rfl, _, rfl, x, C, dx, _, rfl, h1, W.c, W.no, (by show 0 < 1000; decide), ?_⟩
      refine ⟨_, rfl, x, C, dx, _, rfl, upd_same, W.c, W.no2, (by show 1 < 1000; decide), ?_⟩
      refine qT rfl _ (fun b o n e => ?_) ?_
      · rw [upd_ne n, upd_ne n]
        exact s1 _ _ e
      · rw [upd_same]
        rfl
theorem okX_get {f fC C CN : Addr} {fd fdC : FuncData} (F : Fun K "__getitem__" "Web.__getitem__" sWGet f fd) (bC : Binds K fdC ["self", "place"] []) (W : WebC K C) (mC : Meth K C "_check_place" fC)
    (GC : FnOk P w K mg base (L2.CX P w) 4 fC fdC ["self", "place"] (spXCheck K C CN)) : FnOk P w K mg base (L2.CX P w) 5 f fd ["self", "place"] (spXGet K C CN) := by
  refine F.okX scWGet (fun vs H Q E h => ?_) (fun cdv A outer s H vs Q E hr h => ?_)
  · obtain ⟨w, dx, r, as, ld, v, rows, b, rfl, _⟩ := h
    rfl
  · obtain ⟨w, dx, r, as, ld, v, rows, b, rfl, hw, hrw, ans, qT, qF⟩ := h
    refine ⟨_, pss_cons (ps_expr (pe_meth (pv 0) W.c mC GC hr bC .nil (passes_call (E := E) (takes_of rfl rfl rfl rfl) fun _ _ _ _ h => h) (pa_cons (pv 1) pa_nil))) (pss_one (ps_ret (pe_ix ix_seq (pe_fld (pv 0) rfl) (pv 1) (fun _ _ => rfl)))), ?_⟩
    refine ⟨_, rfl, w, dx, _, rfl, hw, rfl, _, rfl, w, v, rows, b, rfl, ⟨dx, r, as, ld, hw, hrw⟩, ans, fun e => ?_, qF⟩
    subst e
    obtain ⟨n, rfl, nl⟩ := ans.nat
    have l := hrw.len
    have ea : as[n]? = some as[n] := List.getElem?_eq_getElem (by omega)
    have e : (as.map V.ref)[n]? = some (.ref as[n]) := by
      rw [List.getElem?_map, ea]
      rfl
    exact ⟨_, rfl, w, C, dx, _, _, rfl, hw, W.c, W.no, rfl, _, rfl, .inr (.inl ⟨r, _, (n : Int), _, rfl, rfl, hrw.seq, atI_nat e, qT rfl n _ rfl ea⟩)⟩
theorem okX_row {f fC fA fI C CN CO CW : Addr} {fd fdC fdA fdI : FuncData} (F : Fun K "with_row" "Web.with_row" sWRow f fd) (bC : Binds K fdC ["self", "place"] []) (bA : Binds K fdA ["value", "many"] []) (bI : Binds K fdI ["self", "rows"] []) (W : WebC K C)
    (mC : Meth K C "_check_place" fC) (GC : FnOk P w K mg base (L2.CX P w) 4 fC fdC ["self", "place"] (spXCheck K C CN)) (GA : FnOk P w K mg base CX0 3 fA fdA ["value", "many"] (spAscB K)) (gA : mg "is_ascending" = some (.ref fA)) (kA : PySem.W.keepIn K (.ref fA) = true)
    (M : Mk K C fI) (GI : FnOk P w K mg base (L2.CX P w) 5 fI fdI ["self", "rows"] (spXInit K C CW)) (gW : mg "Web" = some (.ref C)) (XO : XP K mg "InvalidOperation" CO) (ml : mg "len" = none) :
    FnOk P w K mg base (L2.CX P w) 7 f fd ["self", "place", "row"] (spXRow K C CN CO) := by
  refine F.okX scWRow (fun vs H Q E h => ?_) (fun cdv A outer s H vs Q E hr h => ?_)
  · obtain ⟨w, v, r, rows, b, b2, rfl, _⟩ := h
    rfl
  · obtain ⟨w, v, q, rows, b, b2, rfl, wa, ok, ans, ans2, good, qF, qO⟩ := h
    obtain ⟨dx, r, as, ld, hw, hrw⟩ := id wa
    have hr4 := hr.mono (show 4 ≤ 6 by decide)
    have hr3 := hr.mono (show 3 ≤ 6 by decide)
    have fw := ok.few
    have hl := hrw.len
    refine ⟨_, pss_cons (ps_expr (pe_meth (pv 0) W.c mC GC hr4 bC .nil (passes_call (E := E) (takes_of rfl rfl rfl rfl) fun _ _ _ _ h => h) (pa_cons (pv 1) pa_nil)))
      (pss_cons (ps_if (pt_not (pt_val (pe_call GA hr3 (by rfl) gA kA bA .nil pass0 (pa_cons (pv 2) (pa_cons (pe_callB call_len_seq (by rfl) ml PySem.boot_len (pa_cons (pe_fld (pv 0) rfl) pa_nil)) pa_nil)))))
        (pss_one (ps_raise rfl (takes_of rfl rfl rfl rfl) (pmk_own PySem.F.excBase_ValueError XO.x XO.g XO.k (raises_own XO.b XO.t) rfl))) pss_nil)
      (pss_one (ps_ret (pe_make M GI hr (by rfl) gW bI .nil (passes_call (E := E) (takes_of rfl rfl rfl rfl) fun _ _ _ _ h => h) (pa_cons
        (pe_op op_catN (pe_op op_catN (pe_slice sl_tupN (pe_fld (pv 0) rfl) po_none (po_some (pv 1))) (pe_tup (pa_cons (pv 2) pa_nil))) (pe_slice sl_tupN (pe_fld (pv 0) rfl) (po_some (pe_op op_add (pv 1) pe_int)) po_none)) pa_nil))))), ?_⟩
    refine ⟨_, rfl, w, dx, _, rfl, hw, rfl, _, rfl, w, v, rows, b, rfl, wa, ans, fun e => ?_, qF⟩
    subst e
    obtain ⟨n, rfl, nl⟩ := ans.nat
    refine ⟨_, rfl, _, rfl, w, C, dx, _, _, rfl, hw, W.c, W.no, rfl, r, _, rfl, .inr hrw.seq, ?_⟩
    rw [List.length_map, hl]
    refine ⟨q, (rows.length : Int), b2, rfl, by omega, by omega, ans2, fun H1 s1 => ⟨b2, rfl, ?_⟩⟩
    cases b2 with
    | false => exact iteT (qO rfl rfl H1 s1)
    | true =>
      obtain ⟨a, ns, rfl, sq0, asc, inn, good⟩ := good rfl rfl
      have sq := sqT_same s1 sq0
      have hw1 := s1 _ _ hw
      have hrw1 := hrw.same s1
      have la : (as.map V.ref).length = rows.length := by rw [List.length_map, hl]
      refine iteF ⟨_, rfl, w, C, dx, _, _, rfl, hw1, W.c, W.no, rfl, _, rfl, (n : Int), rfl, r, _, rfl, hrw1.seq, fun r1 H2 s2 q1 => ?_⟩
      refine ⟨_, rfl, (by show 1 ≤ sizeLine; decide), fun t nt => ?_⟩
      have s3 := s2.trans (sameUpd (o := .tup [.ref a]) nt)
      rw [cut_to (by omega)] at q1
      refine ⟨r1, t, _, _, rfl, rfl, sqT_same (sameUpd nt) q1, .inl (.inl upd_same), by rw [List.length_take]; have := small1000 (show min n (as.map V.ref).length + 1 ≤ 1000 by omega); show _ + 1 ≤ _; omega, fun r2 H3 s4 q2 => ?_⟩
      have s5 := s3.trans s4
      refine ⟨_, rfl, w, C, dx, _, _, rfl, s5 _ _ hw1, W.c, W.no, rfl, _, rfl, _, _, rfl, rfl, _, rfl, r, _, rfl, (hrw1.same s5).seq, fun r3 H4 s6 q3 => ?_⟩
      have e1 : ((n : Int) + 1) = ((n + 1 : Nat) : Int) := rfl
      rw [e1, cut_from (by omega)] at q3
      refine ⟨r2, r3, _, _, rfl, rfl, sqT_same s6 q2, q3, by rw [List.length_append, List.length_take, List.length_drop]; have := small1000 (show rows.length + 1 ≤ 1000 by omega); show _ + 1 + _ ≤ _; omega, fun r4 H5 s7 q4 => ?_⟩
      have s8 := (s5.trans s6).trans s7
      have e2 : (as.map V.ref).take n ++ [.ref a] ++ (as.map V.ref).drop (n + 1) = (as.set n a).map V.ref := by
        rw [set_cut (by omega), List.map_set]
      rw [e2] at q4
      have sqa := sqT_same s8 sq
      have rt : RowsT K H5 r4 (as.set n a) (rows.set n ns) := by
        refine ⟨q4, by rw [List.length_set, List.length_set, hl], fun i b row h1 h2 => ?_⟩
        by_cases z : n = i
        · subst z
          rw [List.getElem?_set_self (by omega)] at h1 h2
          cases h1
          cases h2
          exact sqa
        · rw [List.getElem?_set_ne z] at h1 h2
          exact sqT_same s8 (hrw1.row i b row h1 h2)
      have ok2 := webOk_set ok (n := n) asc inn
      refine fun x dx2 nx ndx ne => ?_
      have s9 : Same H5 (upd (upd H5 dx2 (.own x)) x (.ins C dx2 [])) := fun b o e => by
        rw [upd_ne (ne_of_none e nx), upd_ne (ne_of_none e ndx)]
        exact e
      refine ⟨x, dx2, .ref r4, true, rfl, upd_same, rowsAns (rt.same s9) ok2, fun _ H6 b6 hx6 => ⟨rfl, ?_⟩, fun z => (by cases z)⟩
      have s10 : Same H5 H6 := fun b o e => b6 b o (ne_of_none e nx) (s9 b o e)
      refine good n x H6 rfl nl ((s1.trans s8).trans s10) ?_ ⟨dx2, r4, _, _, hx6, rt.same s10⟩ ok2
      rcases e : H x with _ | o
      · rfl
      · rw [(s1.trans s8) x o e] at nx
        cases nx
end
end K08

set_option maxHeartbeats 16000000
namespace K08
open PySem PySem.Spec PyProof.Rows L2 GG
abbrev sWTie : Stmt := webS 11
abbrev sWUntie : Stmt := webS 12
theorem scWTie : FnScope ["self", "one", "other", "row"] ["self", "one", "other"] (defScope sWTie) := ⟨rfl, rfl, rfl, by decide +kernel, rfl, by decide +kernel, by decide +kernel⟩
theorem scWUntie : FnScope ["self", "one", "other", "row", "place"] ["self", "one", "other"] (defScope sWUntie) := ⟨rfl, rfl, rfl, by decide +kernel, rfl, by decide +kernel, by decide +kernel⟩
theorem inV_nat {n : Nat} {row : List Nat} : inV (vN n) (row.map vN) = decide (n ∈ row) := by
  unfold inV
  rw [List.any_map, Bool.eq_iff_iff, List.any_eq_true, decide_eq_true_eq]
  constructor
  · rintro ⟨x, hx, e⟩
    have e2 : ((x : Int) == (n : Int)) = true := e
    have : x = n := by
      have := eq_of_beq e2
      omega
    exact this ▸ hx
  · intro h
    exact ⟨n, h, show ((n : Int) == (n : Int)) = true from beq_self_eq_true _⟩
theorem flat_nats {row : List Nat} : (row.map vN).all flatV = true := by
  rw [List.all_map]
  exact List.all_eq_true.mpr fun x _ => rfl
/-- sorted, of natural numbers told once each -/
theorem sorted_set {ns' : List Int} {xs : List Nat} (p : ns'.Perm (xs.map fun k : Nat => (k : Int))) (s : ns'.Pairwise (· ≤ ·)) (nd : xs.Nodup) :
    ∃ row : List Nat, ns' = row.map (fun k : Nat => (k : Int)) ∧ row.Pairwise (· < ·) ∧ ∀ x, x ∈ row ↔ x ∈ xs := by
  have pos : ∀ n ∈ ns', 0 ≤ n := fun n hn => by
    obtain ⟨k, _, rfl⟩ := List.mem_map.mp (p.mem_iff.mp hn)
    omega
  have back : (ns'.map Int.toNat).map (fun k : Nat => (k : Int)) = ns' := by
    rw [List.map_map]
    exact (List.map_congr_left fun n hn => Int.toNat_of_nonneg (pos n hn)).trans (List.map_id _)
  have p2 : (ns'.map Int.toNat).Perm xs := by
    have := p.map Int.toNat
    rw [List.map_map] at this
    exact this.trans (List.Perm.of_eq ((List.map_congr_left fun n _ => Int.toNat_natCast n).trans (List.map_id _)))
  refine ⟨ns'.map Int.toNat, back.symm, ?_, fun x => p2.mem_iff⟩
  have nd2 : (ns'.map Int.toNat).Nodup := p2.nodup_iff.mpr nd
  have le2 : (ns'.map Int.toNat).Pairwise (· ≤ ·) := by
    rw [List.pairwise_map]
    exact s.imp fun h => by omega
  exact (le2.and nd2).imp fun h => by omega
/-- with_tie, without_tie -/
def spXTie (K : PySem.W.Frag) (C CN CO : Addr) (neg : Bool) : Sp := fun vs H Q E => ∃ (w : Addr) (v1 v2 : V) (rows : List (List Nat)) (b1 b2 : Bool), vs = [.ref w, v1, v2] ∧ WebAt K H C w rows ∧ WebOk rows ∧ PAns K H rows.length v1 b1 ∧ PAns K H rows.length v2 b2 ∧
  (b1 = false → Raised E CN v1 H) ∧ (b1 = true → b2 = false → Raised E CN v2 H) ∧
  (b1 = true → b2 = true → ∀ (n1 n2 : Nat) (row : List Nat), v1 = vN n1 → v2 = vN n2 → n1 < rows.length → n2 < rows.length → rows[n1]? = some row → ((decide (n2 ∈ row) != neg) = true → RaisedP E CO H) ∧
    ((decide (n2 ∈ row) != neg) = false → ∀ (row' : List Nat) (w' : Addr) (H' : Hp), row'.Pairwise (· < ·) → (∀ x, x ∈ row' ↔ (if neg = true then x ∈ row ∧ x ≠ n2 else x = n2 ∨ x ∈ row)) → Same H H' → H w' = none → WebAt K H' C w' (rows.set n1 row') → WebOk (rows.set n1 row') → Q (.ref w') H'))
section
variable {P : Program} {w : World} {K : PySem.W.Frag} {mg : Str → Option Value} {base : Heap}
theorem okX_tie {f fC fW C CN CO : Addr} {fd fdC fdW : FuncData} (F : Fun K "with_tie" "Web.with_tie" sWTie f fd) (bC : Binds K fdC ["self", "place"] []) (bW : Binds K fdW ["self", "place", "row"] []) (W : WebC K C)
    (mC : Meth K C "_check_place" fC) (GC : FnOk P w K mg base (L2.CX P w) 4 fC fdC ["self", "place"] (spXCheck K C CN)) (mW : Meth K C "with_row" fW) (GW : FnOk P w K mg base (L2.CX P w) 7 fW fdW ["self", "place", "row"] (spXRow K C CN CO))
    (XO : XP K mg "InvalidOperation" CO) (mt : mg "tuple" = none) (mso : mg "sorted" = none) :
    FnOk P w K mg base (L2.CX P w) 8 f fd ["self", "one", "other"] (spXTie K C CN CO false) := by
  refine F.okX scWTie (fun vs H Q E h => ?_) (fun cdv A outer s H vs Q E hr h => ?_)
  · obtain ⟨w, v1, v2, rows, b1, b2, rfl, _⟩ := h
    rfl
  · obtain ⟨w, v1, v2, rows, b1, b2, rfl, wa, ok, ans1, ans2, qF1, qF2, good⟩ := h
    obtain ⟨dx, r, as, ld, hw, hrw⟩ := id wa
    have hr4 := hr.mono (show 4 ≤ 7 by decide)
    have fw := ok.few
    have hl := hrw.len
    have N := scWTie.nd
    refine ⟨_, pss_cons (ps_expr (pe_meth (pv 0) W.c mC GC hr4 bC .nil (passes_call (E := E) (takes_of rfl rfl rfl rfl) fun _ _ _ _ h => h) (pa_cons (pv 1) pa_nil)))
      (pss_cons (ps_expr (pe_meth (pv 0) W.c mC GC hr4 bC .nil (passes_call (E := E) (takes_of rfl rfl rfl rfl) fun _ _ _ _ h => h) (pa_cons (pv 2) pa_nil)))
      (pss_cons (ps_set (i := 3) N rfl (.inl rfl) (pe_ix ix_seq (pe_fld (pv 0) rfl) (pv 1) (fun _ _ => rfl)))
      (pss_cons (ps_if (pt_cmpR op_in_seq (pv 2) (pv 3) (by rfl))
        (pss_one (ps_raise rfl (takes_of rfl rfl rfl rfl) (pmk_own PySem.F.excBase_ValueError XO.x XO.g XO.k (raises_own XO.b XO.t) rfl))) pss_nil)
      (pss_one (ps_ret (pe_meth (pv 0) W.c mW GW hr bW .nil (passes_call (E := E) (takes_of rfl rfl rfl rfl) fun _ _ _ _ h => h) (pa_cons (pv 1)
        (pa_cons (pe_callTy call_tuple_of (by rfl) mt (by decide +kernel) (pa_cons (pe_callB cr_sortT (by rfl) mso (by decide +kernel) (pa_cons (pe_op op_catN (pv 3) (pe_tup (pa_cons (pv 2) pa_nil))) pa_nil)) pa_nil)) pa_nil)))))))), ?_⟩
    refine ⟨_, rfl, w, dx, _, rfl, hw, rfl, _, rfl, w, v1, rows, b1, rfl, wa, ans1, fun e => ?_, qF1⟩
    subst e
    refine ⟨_, rfl, w, dx, _, rfl, hw, rfl, _, rfl, w, v2, rows, b2, rfl, wa, ans2, fun e => ?_, qF2 rfl⟩
    subst e
    obtain ⟨n1, rfl, l1⟩ := ans1.nat
    obtain ⟨n2, rfl, l2⟩ := ans2.nat
    have ea : as[n1]? = some as[n1] := List.getElem?_eq_getElem (by omega)
    have er : rows[n1]? = some rows[n1] := List.getElem?_eq_getElem (by omega)
    have e : (as.map V.ref)[n1]? = some (.ref as[n1]) := by
      rw [List.getElem?_map, ea]
      rfl
    obtain ⟨g1, g2⟩ := good rfl rfl n1 n2 rows[n1] rfl rfl l1 l2 er
    have sq := hrw.row n1 _ _ ea er
    have asc := ok.asc _ (List.getElem_mem l1)
    have inn := ok.inn _ (List.getElem_mem l1)
    have rl := ok.rowLen (List.getElem_mem l1)
    refine ⟨_, rfl, w, C, dx, _, _, rfl, hw, W.c, W.no, rfl, _, rfl, .inr (.inl ⟨r, _, (n1 : Int), _, rfl, rfl, hrw.seq, atI_nat e, ?_⟩)⟩
    refine ⟨_, rfl, _, rfl, _, _, rfl, .inr sq, rfl, flat_nats, _, rfl, ?_⟩
    show if inV (vN n2) (rows[n1].map vN) = true then _ else _
    rw [inV_nat]
    refine ite2 (fun z => ?_) (fun z => ?_)
    · exact g1 (by rw [z]; rfl) H (.refl H)
    · have z2 : decide (n2 ∈ rows[n1]) = false := by simpa using z
      have nm : n2 ∉ rows[n1] := of_decide_eq_false z2
      refine ⟨_, rfl, w, dx, _, rfl, hw, rfl, _, rfl, _, rfl, _, rfl, (by show 1 ≤ sizeLine; decide), fun t nt => ?_⟩
      refine ⟨as[n1], t, _, _, rfl, rfl, sqT_same (sameUpd nt) sq, .inl (.inl upd_same), by rw [List.length_map]; have := small1000 (show rows[n1].length + 1 ≤ 1000 by omega); show _ + 1 ≤ _; omega, fun r2 H2 s2 q2 => ?_⟩
      have s3 := (sameUpd (o := .tup [vN n2]) nt).trans s2
      have e2 : rows[n1].map vN ++ [vN n2] = ((rows[n1] ++ [n2]).map fun k : Nat => (k : Int)).map V.int := by
        rw [← mapN, List.map_append]
        rfl
      rw [e2] at q2
      refine ⟨r2, _, rfl, q2, fun ns' p perm rising np => ?_⟩
      obtain ⟨row', rfl, asc', mem'⟩ := sorted_set perm rising (by
        rw [List.nodup_append]
        refine ⟨asc.imp fun h => by omega, by simp, fun a ha b hb e => ?_⟩
        rw [List.mem_singleton] at hb
        exact nm (by rw [← hb, ← e]; exact ha))
      have s4 := s3.trans (sameUpd (o := .lst ((row'.map fun k : Nat => (k : Int)).map V.int)) np)
      refine ⟨p, _, rfl, .inl ⟨.of upd_same, fun l nl => ?_⟩⟩
      have s5 := s4.trans (sameUpd (o := .tup ((row'.map fun k : Nat => (k : Int)).map V.int)) nl)
      have inn' : ∀ k ∈ row', k < rows.length := fun k hk => by
        rcases List.mem_append.mp ((mem' k).mp hk) with h | h
        · exact inn k h
        · rw [List.mem_singleton.mp h]
          exact l2
      have sl : SqT K (upd (upd H2 p (.lst ((row'.map fun k : Nat => (k : Int)).map V.int))) l (.tup ((row'.map fun k : Nat => (k : Int)).map V.int))) l (row'.map vN) := .inl (.inl (by rw [mapN]; exact upd_same))
      refine ⟨w, vN n1, .ref l, rows, true, true, rfl, wa.same s5, ok, ans1.same s5, row_right sl asc' inn' fw, ?_, fun z => (by cases z), fun _ z => (by cases z)⟩
      refine fun _ _ => ⟨l, row', rfl, sl, asc', inn', fun n w' H' en nl' s6 nw wa' ok' => ?_⟩
      cases vN_inj en
      refine g2 (by rw [z2]; rfl) row' w' H' asc' (fun x => ?_) (s5.trans s6) ?_ wa' ok'
      · rw [mem' x, List.mem_append, List.mem_singleton]
        exact Or.comm
      · rcases e : H w' with _ | o
        · rfl
        · rw [s5 w' o e] at nw
          cases nw
theorem okX_untie {f fC fW C CN CO : Addr} {fd fdC fdW : FuncData} (F : Fun K "without_tie" "Web.without_tie" sWUntie f fd) (bC : Binds K fdC ["self", "place"] []) (bW : Binds K fdW ["self", "place", "row"] []) (W : WebC K C)
    (mC : Meth K C "_check_place" fC) (GC : FnOk P w K mg base (L2.CX P w) 4 fC fdC ["self", "place"] (spXCheck K C CN)) (mW : Meth K C "with_row" fW) (GW : FnOk P w K mg base (L2.CX P w) 7 fW fdW ["self", "place", "row"] (spXRow K C CN CO))
    (XO : XP K mg "InvalidOperation" CO) (mt : mg "tuple" = none) :
    FnOk P w K mg base (L2.CX P w) 8 f fd ["self", "one", "other"] (spXTie K C CN CO true) := by
  refine F.okX scWUntie (fun vs H Q E h => ?_) (fun cdv A outer s H vs Q E hr h => ?_)
  · obtain ⟨w, v1, v2, rows, b1, b2, rfl, _⟩ := h
    rfl
  · obtain ⟨w, v1, v2, rows, b1, b2, rfl, wa, ok, ans1, ans2, qF1, qF2, good⟩ := h
    obtain ⟨dx, r, as, ld, hw, hrw⟩ := id wa
    have hr4 := hr.mono (show 4 ≤ 7 by decide)
    have fw := ok.few
    have hl := hrw.len
    have N := scWUntie.nd
    refine ⟨_, pss_cons (ps_expr (pe_meth (pv 0) W.c mC GC hr4 bC .nil (passes_call (E := E) (takes_of rfl rfl rfl rfl) fun _ _ _ _ h => h) (pa_cons (pv 1) pa_nil)))
      (pss_cons (ps_expr (pe_meth (pv 0) W.c mC GC hr4 bC .nil (passes_call (E := E) (takes_of rfl rfl rfl rfl) fun _ _ _ _ h => h) (pa_cons (pv 2) pa_nil)))
      (pss_cons (ps_set (i := 3) N rfl (.inl rfl) (pe_ix ix_seq (pe_fld (pv 0) rfl) (pv 1) (fun _ _ => rfl)))
      (pss_cons (ps_if (pt_cmpR op_notIn_seq (pv 2) (pv 3) (by rfl))
        (pss_one (ps_raise rfl (takes_of rfl rfl rfl rfl) (pmk_own PySem.F.excBase_ValueError XO.x XO.g XO.k (raises_own XO.b XO.t) rfl))) pss_nil)
      (pss_one (ps_ret (pe_meth (pv 0) W.c mW GW hr bW .nil (passes_call (E := E) (takes_of rfl rfl rfl rfl) fun _ _ _ _ h => h) (pa_cons (pv 1)
        (pa_cons (pe_callTy call_tuple_of (by rfl) mt (by decide +kernel) (pa_cons
          (pe_lc (own := [("place", 4)]) (g := gName 4) rfl N (pi_tup (pv 3)) (blkOk_by (own := [("place", 4)]) (N := ["self", "one", "other", "row", "place"]) (sc := defScope sWUntie) (by decide +kernel))
            (fun _ _ _ _ _ => pg_name (i := 4) N rfl (Or.inl rfl)) (fun _ _ _ _ _ => pts_one (pt_cmpR op_ne (pv 4) (pv 2) (nomark _))) (fun _ _ _ _ _ => pv 4)) pa_nil)) pa_nil)))))))), ?_⟩
    refine ⟨_, rfl, w, dx, _, rfl, hw, rfl, _, rfl, w, v1, rows, b1, rfl, wa, ans1, fun e => ?_, qF1⟩
    subst e
    refine ⟨_, rfl, w, dx, _, rfl, hw, rfl, _, rfl, w, v2, rows, b2, rfl, wa, ans2, fun e => ?_, qF2 rfl⟩
    subst e
    obtain ⟨n1, rfl, l1⟩ := ans1.nat
    obtain ⟨n2, rfl, l2⟩ := ans2.nat
    have ea : as[n1]? = some as[n1] := List.getElem?_eq_getElem (by omega)
    have er : rows[n1]? = some rows[n1] := List.getElem?_eq_getElem (by omega)
    have e : (as.map V.ref)[n1]? = some (.ref as[n1]) := by
      rw [List.getElem?_map, ea]
      rfl
    obtain ⟨g1, g2⟩ := good rfl rfl n1 n2 rows[n1] rfl rfl l1 l2 er
    have sq := hrw.row n1 _ _ ea er
    have asc := ok.asc _ (List.getElem_mem l1)
    have inn := ok.inn _ (List.getElem_mem l1)
    have rl := ok.rowLen (List.getElem_mem l1)
    refine ⟨_, rfl, w, C, dx, _, _, rfl, hw, W.c, W.no, rfl, _, rfl, .inr (.inl ⟨r, _, (n1 : Int), _, rfl, rfl, hrw.seq, atI_nat e, ?_⟩)⟩
    refine ⟨_, rfl, _, rfl, _, _, rfl, .inr sq, rfl, flat_nats, _, rfl, ?_⟩
    show if (!inV (vN n2) (rows[n1].map vN)) = true then _ else _
    rw [inV_nat]
    refine ite2 (fun z => ?_) (fun z => ?_)
    · exact g1 (by simpa using z) H (.refl H)
    · have z2 : n2 ∈ rows[n1] := by simpa using z
      refine ⟨_, rfl, w, dx, _, rfl, hw, rfl, _, rfl, _, rfl, as[n1], rfl, ⟨_, sq⟩, fun D nD => ?_⟩
      refine lc_tup (K := K) (a := as[n1]) (xs := rows[n1].map vN) (fun k H2 => Same H H2 ∧ H2 D = some (.lst (((rows[n1].take k).filter fun x => decide (x ≠ n2)).map vN))) ⟨sameUpd nD, upd_same⟩ (fun k H2 _ hP => sqT_same hP.1 sq) (fun k v H2 hv hP => ?_) (fun H2 hP => ?_)
      · obtain ⟨sm, hD⟩ := hP
        rw [List.getElem?_map] at hv
        obtain ⟨x, hx, rfl⟩ := Option.map_eq_some_iff.mp hv
        have few : ((rows[n1].take k).filter fun x => decide (x ≠ n2)).length ≤ 256 := Nat.le_trans (List.length_filter_le _ _) (by rw [List.length_take]; omega)
        refine ⟨rfl, _, rfl, _, rfl, rfl, _, rfl, ite2 (fun e => ?_) (fun e => ?_)⟩
        · have ne : x ≠ n2 := fun z => by
            subst z
            simp at e
          refine ⟨_, rfl, _, hD, by rw [List.length_map]; exact small1000 (by omega), fun b o eb => ?_, ?_⟩
          · rw [upd_ne (ne_of_none eb nD)]
            exact sm b o eb
          · rw [upd_same, List.take_add_one, hx, List.filter_append, List.map_append]
            show _ = some (HO.lst (_ ++ (([x].filter fun x => decide (x ≠ n2)).map vN)))
            rw [List.filter_cons_of_pos (by exact decide_eq_true ne)]
            rfl
        · have ne : x = n2 := by
            refine Decidable.byContradiction fun z => e ?_
            have : V.int (x : Int) ≠ V.int (n2 : Int) := fun q => z (vN_inj q)
            simpa using this
          refine ⟨sm, ?_⟩
          rw [hD, List.take_add_one, hx, List.filter_append]
          show _ = some (HO.lst ((_ ++ ([x].filter fun x => decide (x ≠ n2))).map vN))
          rw [List.filter_cons_of_neg (by simpa using ne)]
          rw [List.filter_nil, List.append_nil]
      · obtain ⟨sm, hD⟩ := hP
        rw [List.length_map, List.take_length] at hD
        refine ⟨D, _, rfl, .inl ⟨.of hD, fun l nl => ?_⟩⟩
        have s5 := sm.trans (sameUpd (o := .tup ((rows[n1].filter fun x => decide (x ≠ n2)).map vN)) nl)
        have asc' : (rows[n1].filter fun x => decide (x ≠ n2)).Pairwise (· < ·) := asc.filter _
        have inn' : ∀ k ∈ rows[n1].filter fun x => decide (x ≠ n2), k < rows.length := fun k hk => inn k (List.mem_filter.mp hk).1
        have sl : SqT K (upd H2 l (.tup ((rows[n1].filter fun x => decide (x ≠ n2)).map vN))) l ((rows[n1].filter fun x => decide (x ≠ n2)).map vN) := .inl (.inl upd_same)
        refine ⟨w, vN n1, .ref l, rows, true, true, rfl, wa.same s5, ok, ans1.same s5, row_right sl asc' inn' fw, ?_, fun z => (by cases z), fun _ z => (by cases z)⟩
        refine fun _ _ => ⟨l, _, rfl, sl, asc', inn', fun n w' H' en nl' s6 nw wa' ok' => ?_⟩
        cases vN_inj en
        refine g2 (by simpa using z2) _ w' H' asc' (fun x => ?_) (s5.trans s6) ?_ wa' ok'
        · rw [List.mem_filter, decide_eq_true_eq]
          exact Iff.rfl
        · rcases e : H w' with _ | o
          · rfl
          · rw [s5 w' o e] at nw
            cases nw
end
end K08

set_option maxHeartbeats 16000000
namespace K08
open PySem PySem.Spec PyProof.Rows L2 GG
abbrev sWIn : Stmt := webS 16
theorem scWIn : FnScope ["self", "value", "one", "other"] ["self", "value"] (defScope sWIn) := ⟨rfl, rfl, rfl, by decide +kernel, rfl, by decide +kernel, by decide +kernel⟩
/-- what `in` answers -/
def InAns (K : PySem.W.Frag) (H : Hp) (rows : List (List Nat)) (v : V) (b : Bool) : Prop :=
  ((∃ t, TyX K H v (.type t) ∧ kitB t "tuple" = some false) ∧ b = false) ∨
  (∃ a xs, v = .ref a ∧ SqT K H a xs ∧ xs.length ≠ 2 ∧ b = false) ∨
  (∃ a x y b1 b2, v = .ref a ∧ SqT K H a [x, y] ∧ PAns K H rows.length x b1 ∧ PAns K H rows.length y b2 ∧ (b1 = false → b = false) ∧ (b2 = false → b = false) ∧
    (∀ (n1 n2 : Nat) (row : List Nat), x = vN n1 → y = vN n2 → n1 < rows.length → n2 < rows.length → rows[n1]? = some row → b1 = true → b2 = true → b = decide (n2 ∈ row)))
def spXIn (K : PySem.W.Frag) (C : Addr) : Sp := fun vs H Q _ => ∃ (w : Addr) (v : V) (rows : List (List Nat)) (b : Bool), vs = [.ref w, v] ∧ WebAt K H C w rows ∧ rows.length ≤ 256 ∧ InAns K H rows v b ∧ Q (.bl b) H
section
variable {P : Program} {w : World} {K : PySem.W.Frag} {mg : Str → Option Value} {base : Heap}
theorem is_ask {K : PySem.W.Frag} {C w : Addr} {H : Hp} {rows : List (List Nat)} {v : V} {b : Bool} {Q : VK} {E : XK} (wa : WebAt K H C w rows) (a : PAns K H rows.length v b) (q : Q (.bl b) H) : spWIs K C [.ref w, v] H Q E := by
  refine ⟨w, rows, v, rfl, wa, ?_⟩
  rcases a with ⟨n, rfl, e⟩ | ⟨no, e⟩
  · exact .inl ⟨n, rfl, by rw [← e]; exact q⟩
  · exact .inr ⟨no, by rw [← e]; exact q⟩
def spWIsB (K : PySem.W.Frag) (C : Addr) : Sp := fun vs H Q _ => ∃ (w : Addr) (rows : List (List Nat)) (v : V) (b : Bool), vs = [.ref w, v] ∧ WebAt K H C w rows ∧ PAns K H rows.length v b ∧ Q (.bl b) H
theorem isB {C : Addr} {k : Nat} {f : Addr} {fd : FuncData} (F : FnOk P w K mg base CX0 k f fd ["self", "value"] (spWIs K C)) : FnOk P w K mg base CX0 k f fd ["self", "value"] (spWIsB K C) :=
  FnOk.weak F fun vs H Q E q => by
    obtain ⟨w, rows, v, b, rfl, wa, a, q⟩ := q
    exact is_ask wa a q
theorem ok_win {f fS C : Addr} {fd fdS : FuncData} (F : Fun K "__contains__" "Web.__contains__" sWIn f fd) (bS : Binds K fdS ["self", "value"] []) (W : WebC K C) (mS : Meth K C "_is_place" fS)
    (GS : FnOk P w K mg base CX0 3 fS fdS ["self", "value"] (spWIsB K C)) (ms : mg "isinstance" = none) (mt : mg "tuple" = none) (ml : mg "len" = none) : FnOk P w K mg base CX0 4 f fd ["self", "value"] (spXIn K C) := by
  refine F.ok scWIn (fun vs H Q E h => ?_) (fun cdv A outer s H vs Q E hr h => ?_)
  · obtain ⟨w, v, rows, b, rfl, _⟩ := h
    rfl
  · obtain ⟨w, v, rows, b, rfl, wa, fw, ans, q⟩ := h
    obtain ⟨dx, r, as, ld, hw, hrw⟩ := id wa
    have N := scWIn.nd
    have hl := hrw.len
    refine ⟨_, pss_cons (ps_if (PW.pt (pw_or (pt_not (pt_val (pe_callB call_isi (by rfl) ms (by decide +kernel) (pa_cons (pv 1) (pa_cons (pe_bltn (v := .ty "tuple") (by rfl) mt (by decide +kernel) rfl) pa_nil)))))
        (pw_or1 (pt_cmpR op_ne (pe_callB call_len_seq (by rfl) ml PySem.boot_len (pa_cons (pv 1) pa_nil)) pe_int (nomark _)))))
        (pss_one (ps_ret pe_bl)) pss_nil)
      (pss_cons (ps_asg (pv 1) (pg_tup rfl (pgs_cons (pg_name (i := 2) N rfl (.inl rfl)) (pgs_cons (pg_name (i := 3) N rfl (.inl rfl)) pgs_nil))))
      (pss_one (ps_ret (pe_and (pe_meth (pv 0) W.c mS GS hr bS .nil pass0 (pa_cons (pv 2) pa_nil)) (pe_and (pe_meth (pv 0) W.c mS GS hr bS .nil pass0 (pa_cons (pv 3) pa_nil))
        (pe_one (pe_cmpR op_in_seq (pv 3) (pe_ix ix_seq (pe_fld (pv 0) rfl) (pv 2) (fun _ _ => rfl)) (by rfl)))))))), ?_⟩
    rcases ans with ⟨⟨t, ty, kb⟩, rfl⟩ | ⟨a, xs, rfl, sq, l2, rfl⟩ | ⟨a, x, y, b1, b2, rfl, sq, a1, a2, f1, f2, good⟩
    · exact ⟨_, rfl, _, _, _, _, false, rfl, .ty _, ty, kit_ty kb, false, rfl, iteT q⟩
    · refine ⟨_, rfl, _, _, _, _, true, rfl, .ty _, sqT_ty sq, kit_ty (by decide +kernel), true, rfl, iteF ?_⟩
      refine ⟨.ref a, rfl, a, _, rfl, .inr sq, rfl, _, rfl, iteTo ?_ q⟩
      have : V.int (xs.length : Int) ≠ V.int 2 := fun z => l2 (by have := vint_inj z; omega)
      simpa using this
    · refine ⟨_, rfl, _, _, _, _, true, rfl, .ty _, sqT_ty sq, kit_ty (by decide +kernel), true, rfl, iteF ?_⟩
      refine ⟨.ref a, rfl, a, _, rfl, .inr sq, rfl, _, rfl, iteFo (by rfl) ?_⟩
      refine ⟨_, rfl, a, _, rfl, sq, rfl, _, _, rfl, _, _, rfl, rfl, ?_⟩
      refine ⟨_, rfl, w, dx, _, rfl, hw, rfl, _, rfl, w, rows, x, b1, rfl, wa, a1, b1, rfl, ?_⟩
      cases b1 with
      | false =>
        rw [f1 rfl] at q
        exact iteF q
      | true =>
        refine iteT ⟨_, rfl, w, dx, _, rfl, hw, rfl, _, rfl, w, rows, y, b2, rfl, wa, a2, b2, rfl, ?_⟩
        cases b2 with
        | false =>
          rw [f2 rfl] at q
          exact iteF q
        | true =>
          obtain ⟨n1, rfl, l1⟩ := a1.nat
          obtain ⟨n2, rfl, l2⟩ := a2.nat
          have ea : as[n1]? = some as[n1] := List.getElem?_eq_getElem (by omega)
          have er : rows[n1]? = some rows[n1] := List.getElem?_eq_getElem (by omega)
          have e : (as.map V.ref)[n1]? = some (.ref as[n1]) := by
            rw [List.getElem?_map, ea]
            rfl
          have g := good n1 n2 _ rfl rfl l1 l2 er rfl rfl
          refine iteT ⟨_, rfl, _, rfl, w, C, dx, _, _, rfl, hw, W.c, W.no, rfl, _, rfl, .inr (.inl ⟨r, _, (n1 : Int), _, rfl, rfl, hrw.seq, atI_nat e, ?_⟩)⟩
          refine ⟨_, _, rfl, .inr (hrw.row n1 _ _ ea er), rfl, flat_nats, ?_⟩
          show Q (.bl (inV (vN n2) (rows[n1].map vN))) H
          rw [inV_nat, ← g]
          exact q
end
end K08

set_option maxHeartbeats 16000000
namespace K08
open PySem PySem.Spec PyProof.Rows L2 GG
abbrev sWPart : Stmt := webS 14
theorem scWPart : FnScope ["self", "places", "numbers", "rows", "place", "index", "other"] ["self", "places"] (defScope sWPart) := ⟨rfl, rfl, rfl, by decide +kernel, rfl, by decide +kernel, by decide +kernel⟩
/-- where a place stands -/
def idx (ps : List Nat) (x : Nat) : Option Nat := (List.range ps.length).find? fun i => decide (ps.getD i 0 = x)
theorem idx_some {ps : List Nat} {x i : Nat} (h : idx ps x = some i) : ps[i]? = some x := by
  unfold idx at h
  have h1 := List.mem_range.mp (List.mem_of_find?_eq_some h)
  have h2 := of_decide_eq_true (List.find?_some (p := fun i => decide (ps.getD i 0 = x)) h)
  rw [List.getD_eq_getElem?_getD, List.getElem?_eq_getElem h1] at h2
  rw [List.getElem?_eq_getElem h1]
  exact congrArg some h2
theorem idx_none {ps : List Nat} {x : Nat} (h : idx ps x = none) : x ∉ ps := by
  unfold idx at h
  intro m
  obtain ⟨i, hi, e⟩ := List.mem_iff_getElem.mp m
  have := List.find?_eq_none.mp h i (List.mem_range.mpr hi)
  rw [List.getD_eq_getElem?_getD, List.getElem?_eq_getElem hi] at this
  exact this (decide_eq_true e)
/-- the dict of the numbers -/
def numK (ps : List Nat) : List (Key × V) := (List.range ps.length).map fun i => ((Sum.inl (ps.getD i 0 : Int) : Key), vN i)
theorem numK_val (ps : List Nat) (x : Nat) : valV (numK ps) (Sum.inl (x : Int) : Key) = (idx ps x).map vN := by
  unfold valV numK idx
  rw [List.find?_map, Option.map_map]
  have e : ((fun kv : Key × V => decide (kv.1 = (Sum.inl (x : Int) : Key))) ∘ fun i : Nat => ((Sum.inl (ps.getD i 0 : Int) : Key), vN i)) = fun i => decide (ps.getD i 0 = x) := by
    funext i
    show decide ((Sum.inl (ps.getD i 0 : Int) : Key) = Sum.inl (x : Int)) = _
    rw [decide_eq_decide]
    constructor
    · intro h
      have := Sum.inl.inj h
      omega
    · intro h
      rw [h]
  rw [e]
  rfl
theorem numK_snoc {ps : List Nat} {k x : Nat} (nd : ps.Nodup) (h : ps[k]? = some x) : putK (numK (ps.take k)) (Sum.inl (x : Int)) (vN k) = numK (ps.take (k + 1)) := by
  have kl : k < ps.length := (List.getElem?_eq_some_iff.mp h).1
  have lk : (ps.take k).length = k := by rw [List.length_take]; omega
  have new : ((numK (ps.take k)).any fun kv => decide (kv.1 = (Sum.inl (x : Int) : Key))) = false := by
    rw [List.any_eq_false]
    intro kv hkv e
    obtain ⟨i, hi, rfl⟩ := List.mem_map.mp hkv
    have hi := List.mem_range.mp hi
    have e1 := Sum.inl.inj (of_decide_eq_true e)
    rw [List.getD_eq_getElem?_getD, List.getElem?_eq_getElem hi, List.getElem_take] at e1
    have e2 : ps[i]'(by omega) = x := by
      have : ((ps[i]'(by omega) : Nat) : Int) = (x : Int) := e1
      omega
    have e3 : ps[k] = x := by
      rw [List.getElem?_eq_getElem kl] at h
      exact Option.some.inj h
    exact List.pairwise_iff_getElem.mp nd i k (by omega) kl (by omega) (by rw [e2, e3])
  unfold putK
  rw [if_neg (by rw [new]; decide)]
  have lk1 : (ps.take (k + 1)).length = k + 1 := by rw [List.length_take]; omega
  unfold numK
  rw [lk, lk1, List.range_succ, List.map_append]
  congr 1
  · refine List.map_congr_left fun i hi => ?_
    have hi := List.mem_range.mp hi
    rw [List.getD_eq_getElem?_getD, List.getD_eq_getElem?_getD, List.getElem?_take, List.getElem?_take, if_pos hi, if_pos (by omega)]
  · show [(_, _)] = [(_, _)]
    rw [List.getD_eq_getElem?_getD, List.getElem?_take, if_pos (Nat.lt_succ_self k), h]
    rfl
/-- the rows of a part -/
def partRow (ps row : List Nat) : List Nat := row.filterMap (idx ps)
def partRows (rows : List (List Nat)) (ps : List Nat) : List (List Nat) := ps.map fun p => partRow ps (rows.getD p [])
theorem partRow_ok {ps row : List Nat} (asc : ps.Pairwise (· < ·)) (ra : row.Pairwise (· < ·)) : (partRow ps row).Pairwise (· < ·) ∧ ∀ x ∈ partRow ps row, x < ps.length := by
  refine ⟨?_, fun x hx => ?_⟩
  · unfold partRow
    rw [List.pairwise_filterMap]
    refine ra.imp fun {a b} hab i hi j hj => ?_
    have h1 := idx_some hi
    have h2 := idx_some hj
    refine Decidable.byContradiction fun z => ?_
    have l1 := (List.getElem?_eq_some_iff.mp h1).1
    have l2 := (List.getElem?_eq_some_iff.mp h2).1
    have e1 := (List.getElem?_eq_some_iff.mp h1).2
    have e2 := (List.getElem?_eq_some_iff.mp h2).2
    rcases Nat.lt_or_ge j i with h | h
    · have := List.pairwise_iff_getElem.mp asc j i l2 l1 h
      omega
    · have : i = j := by omega
      subst this
      omega
  · obtain ⟨y, _, hy⟩ := List.mem_filterMap.mp hx
    exact (List.getElem?_eq_some_iff.mp (idx_some hy)).1
theorem partRows_ok {rows : List (List Nat)} {ps : List Nat} (ok : WebOk rows) (asc : ps.Pairwise (· < ·)) (inn : ∀ p ∈ ps, p < rows.length) (ne : ps ≠ []) : WebOk (partRows rows ps) := by
  have row : ∀ p ∈ ps, (rows.getD p []).Pairwise (· < ·) := fun p hp => by
    rw [List.getD_eq_getElem?_getD, List.getElem?_eq_getElem (inn p hp)]
    exact ok.asc _ (List.getElem_mem (inn p hp))
  have few := asc_len (lo := 0) asc (fun x hx => ⟨Nat.zero_le _, inn x hx⟩)
  have fw := ok.few
  have l : (partRows rows ps).length = ps.length := by
    unfold partRows
    rw [List.length_map]
  refine ⟨?_, by omega, fun r hr x hx => ?_, fun r hr => ?_⟩
  · rw [l]
    exact List.length_pos_iff.mpr ne
  · rw [l]
    obtain ⟨p, hp, rfl⟩ := List.mem_map.mp hr
    exact (partRow_ok asc (row p hp)).2 x hx
  · obtain ⟨p, hp, rfl⟩ := List.mem_map.mp hr
    exact (partRow_ok asc (row p hp)).1
/-- part -/
def spXPart (K : PySem.W.Frag) (C CO : Addr) : Sp := fun vs H Q E => ∃ (w : Addr) (v : V) (rows : List (List Nat)) (b : Bool), vs = [.ref w, v] ∧ WebAt K H C w rows ∧ WebOk rows ∧ RowAns K H rows.length v b ∧ (b = false → RaisedP E CO H) ∧
  (b = true → ∃ (a : Addr) (ps : List Nat), v = .ref a ∧ SqT K H a (ps.map vN) ∧ ps.Pairwise (· < ·) ∧ (∀ k ∈ ps, k < rows.length) ∧ (ps = [] → RaisedP E CO H) ∧
    (ps ≠ [] → ∀ (w' : Addr) (H' : Hp), Same H H' → H w' = none → WebAt K H' C w' (partRows rows ps) → WebOk (partRows rows ps) → Q (.ref w') H'))
section
variable {P : Program} {w : World} {K : PySem.W.Frag} {mg : Str → Option Value} {base : Heap}
theorem okX_part {f fA fI C CO : Addr} {fd fdA fdI : FuncData} (F : Fun K "part" "Web.part" sWPart f fd) (bA : Binds K fdA ["value", "many"] []) (bI : Binds K fdI ["self", "rows"] []) (W : WebC K C)
    (GA : FnOk P w K mg base CX0 3 fA fdA ["value", "many"] (spAscB K)) (gA : mg "is_ascending" = some (.ref fA)) (kA : PySem.W.keepIn K (.ref fA) = true)
    (M : Mk K C fI) (GI : FnOk P w K mg base CX0 5 fI fdI ["self", "rows"] (spWInit K C)) (gW : mg "Web" = some (.ref C)) (XO : XP K mg "InvalidOperation" CO) (ml : mg "len" = none) (mt : mg "tuple" = none) (me : mg "enumerate" = none) :
    FnOk P w K mg base (L2.CX P w) 7 f fd ["self", "places"] (spXPart K C CO) := by
  refine F.okX scWPart (fun vs H Q E h => ?_) (fun cdv A outer s H vs Q E hr h => ?_)
  · obtain ⟨w, v, rows, b, rfl, _⟩ := h
    rfl
  · obtain ⟨w, v, rows, b, rfl, wa, ok, ans, qF, good⟩ := h
    obtain ⟨dx, r, as, ld, hw, hrw⟩ := id wa
    have hr3 := hr.mono (show 3 ≤ 6 by decide)
    have fw := ok.few
    have hl := hrw.len
    have N := scWPart.nd
    have hu := hu_of hr
    refine ⟨_, pss_cons (ps_if (PW.pt (pw_or (pt_not (pt_val (pe_call GA hr3 (by rfl) gA kA bA .nil pass0 (pa_cons (pv 1) (pa_cons (pe_callB call_len_seq (by rfl) ml PySem.boot_len (pa_cons (pe_fld (pv 0) rfl) pa_nil)) pa_nil)))))
        (pw_or1 (pt_cmpR op_eq (pe_callB call_len_seq (by rfl) ml PySem.boot_len (pa_cons (pv 1) pa_nil)) pe_int (nomark _)))))
        (pss_one (ps_raise rfl (takes_of rfl rfl rfl rfl) (pmk_own PySem.F.excBase_ValueError XO.x XO.g XO.k (raises_own XO.b XO.t) rfl))) pss_nil)
      (PSs.nox (pss_cons (ps_set (i := 2) N rfl (.inr rfl)
          (pe_dc (own := [("index", 5), ("place", 4)]) (g := gTup K 2 (gCons (gName 5) (gCons (gName 4) gNil))) (tt := tYes) rfl N (pi_enumT (by rfl) me (pa_cons (pv 1) pa_nil))
            (blkOk_by (own := [("index", 5), ("place", 4)]) (N := ["self", "places", "numbers", "rows", "place", "index", "other"]) (sc := defScope sWPart) (by decide +kernel))
            (fun _ _ _ _ _ => pg_tup rfl (pgs_cons (pg_name (i := 5) N rfl (Or.inl rfl)) (pgs_cons (pg_name (i := 4) N rfl (Or.inl rfl)) pgs_nil))) (fun _ _ _ _ _ => pts_nil)
            (fun _ _ _ _ _ => pv 4) (fun _ _ _ _ _ => pv 5)))
      (pss_cons (ps_set (i := 3) N rfl (.inl rfl) (pe_lst pa_nil))
      (pss_cons (ps_for PassesOwn.never rfl (pi_tup (pv 1)) (pg_name (i := 4) N rfl (.inl rfl))
        (pss_one (ps_expr (pe_bm PySem.F.plainAttrs_list PySem.F.slot_list_append PySem.F.type_list_append mt_append (pv 3) (pa_cons
          (pe_callTy call_tuple_of (by rfl) mt (by decide +kernel) (pa_cons
            (pe_lc (own := [("other", 6)]) (g := gName 6) rfl N (pi_tup (pe_ix ix_seq (pe_fld (pv 0) rfl) (pv 4) (fun _ _ => rfl)))
              (blkOk_by (own := [("other", 6)]) (N := ["self", "places", "numbers", "rows", "place", "index", "other"]) (sc := defScope sWPart) (by decide +kernel))
              (fun _ _ _ _ _ => pg_name (i := 6) N rfl (Or.inl rfl)) (fun _ _ _ _ _ => pts_one (pt_cmp (pc_din hu (pv 6) (pv 2)))) (fun _ _ _ _ _ => pe_dget hu (pv 2) (pv 6) (fun _ _ => rfl))) pa_nil)) pa_nil)))))
      (pss_one (ps_ret (pe_make M GI hr (by rfl) gW bI .nil pass0 (pa_cons (pe_callTy call_tuple_of (by rfl) mt (by decide +kernel) (pa_cons (pv 3) pa_nil)) pa_nil)))))))), ?_⟩
    refine ⟨_, rfl, _, rfl, w, C, dx, _, _, rfl, hw, W.c, W.no, rfl, r, _, rfl, .inr hrw.seq, ?_⟩
    rw [List.length_map, hl]
    refine ⟨v, (rows.length : Int), b, rfl, by omega, by omega, ans, fun H1 s1 => ⟨b, rfl, ?_⟩⟩
    cases b with
    | false => exact iteT (iteT (qF rfl H1 s1))
    | true =>
      obtain ⟨a, ps, rfl, sq0, asc, inn, qE, good⟩ := good rfl
      have sq := sqT_same s1 sq0
      have few := asc_len (lo := 0) asc (fun x hx => ⟨Nat.zero_le _, inn x hx⟩)
      refine iteF ⟨.ref a, rfl, a, _, rfl, .inr sq, rfl, _, rfl, ?_⟩
      rw [List.length_map]
      by_cases en : ps = []
      · subst en
        exact iteTo (by rfl) (qE rfl H1 s1)
      have lp : 0 < ps.length := List.length_pos_iff.mpr en
      refine iteFo ?_ ?_
      · have : V.int (ps.length : Int) ≠ V.int 0 := fun z => by
          have := vint_inj z
          omega
        simpa using this
      have nd : ps.Nodup := asc.imp fun h => by omega
      refine ⟨.ref a, rfl, a, _, rfl, sq, fun d nd0 => ?_⟩
      refine dc_enumT (K := K) (a := a) (xs := ps.map vN) (fun k H2 => Same H1 H2 ∧ H2 d = some (.dK (numK (ps.take k)))) ⟨sameUpd nd0, upd_same⟩ (fun k H2 _ hP => sqT_same hP.1 sq) (fun k x H2 T hx nT hP => ?_) (fun H2 hP => ?_)
      · obtain ⟨sm, hD⟩ := hP
        rw [List.getElem?_map] at hx
        obtain ⟨p, hp, rfl⟩ := Option.map_eq_some_iff.mp hx
        have kl : k < ps.length := (List.getElem?_eq_some_iff.mp hp).1
        have dT : d ≠ T := fun z => by
          rw [z, nT] at hD
          cases hD
        refine ⟨T, _, rfl, .inl (.inl upd_same), rfl, _, _, rfl, _, _, rfl, rfl, rfl, _, rfl, _, rfl, numK (ps.take k), Sum.inl (p : Int), rfl, by rw [upd_ne dT]; exact hD, ?_, fun b o e => ?_, ?_⟩
        · unfold numK
          rw [List.length_map, List.length_range, List.length_take]
          exact small1000 (by omega)
        · have e1 := sm b o e
          rw [upd_ne (ne_of_none e nd0), upd_ne (ne_of_none e1 nT)]
          exact e1
        · rw [upd_same, numK_snoc nd hp]
      · obtain ⟨s2, hd⟩ := hP
        rw [List.length_map, List.take_length] at hd
        refine ⟨(by show 0 ≤ sizeLine; decide), fun L nL => ?_⟩
        have s3 := s2.trans (sameUpd (o := .lst []) nL)
        have dL : d ≠ L := fun z => by
          rw [z, nL] at hd
          cases hd
        refine ⟨.ref a, rfl, a, rfl, ⟨_, sqT_same s3 sq⟩, ?_⟩
        refine for_tup (K := K) (a := a) (xs := ps.map vN) (fun k σ H3 => ∃ y4 y5 y6, σ = [some (.ref w), some (.ref a), some (.ref d), some (.ref L), y4, y5, y6] ∧ Same H2 H3 ∧ ∃ bs, H3 L = some (.lst (bs.map V.ref)) ∧ Tups K H3 bs ((partRows rows ps).take k))
          ⟨_, _, _, rfl, sameUpd nL, [], upd_same, .nil⟩ (fun k σ H3 _ hP => by obtain ⟨_, _, _, rfl, s4, _⟩ := hP; exact sqT_same (s2.trans s4) sq) (fun k x σ H3 hx hP => ?_) (fun σ H3 hP => ?_)
        · obtain ⟨y4, y5, y6, rfl, s4, bs, hL, tp⟩ := hP
          rw [List.getElem?_map] at hx
          obtain ⟨p, hp, rfl⟩ := Option.map_eq_some_iff.mp hx
          have kl : k < ps.length := (List.getElem?_eq_some_iff.mp hp).1
          have pl : p < rows.length := inn p (List.mem_of_getElem? hp)
          have ea : as[p]? = some as[p] := List.getElem?_eq_getElem (by omega)
          have er : rows[p]? = some rows[p] := List.getElem?_eq_getElem pl
          have e : (as.map V.ref)[p]? = some (.ref as[p]) := by
            rw [List.getElem?_map, ea]
            rfl
          have s6 := (s1.trans s2).trans s4
          have hw3 := s6 _ _ hw
          have hrw3 := hrw.same s6
          have hd3 := s4 _ _ hd
          have sq3 := hrw3.row p _ _ ea er
          have rl := ok.rowLen (List.getElem_mem pl)
          refine ⟨.ref L, rfl, .inl ⟨rfl, _, .inl (.inl hL)⟩, _, rfl, w, C, dx, _, _, rfl, hw3, W.c, W.no, rfl, _, rfl, .inr (.inl ⟨r, _, (p : Int), _, rfl, rfl, hrw3.seq, atI_nat e, as[p], rfl, ⟨_, sq3⟩, fun D nD => ?_⟩)⟩
          refine lc_tup (K := K) (a := as[p]) (xs := rows[p].map vN) (fun j H4 => Same H3 H4 ∧ H4 D = some (.lst ((partRow ps (rows[p].take j)).map vN))) ⟨sameUpd nD, upd_same⟩ (fun j H4 _ hP => sqT_same hP.1 sq3) (fun j v H4 hv hP => ?_) (fun H4 hP => ?_)
          · obtain ⟨sm, hD⟩ := hP
            rw [List.getElem?_map] at hv
            obtain ⟨x, hx, rfl⟩ := Option.map_eq_some_iff.mp hv
            have hd4 := sm _ _ hd3
            have fl : (partRow ps (rows[p].take j)).length ≤ 256 := Nat.le_trans (List.length_filterMap_le _ _) (by rw [List.length_take]; omega)
            have gx : partRow ps (rows[p].take (j + 1)) = partRow ps (rows[p].take j) ++ (idx ps x).toList := by
              unfold partRow
              rw [List.take_add_one, hx, List.filterMap_append]
              refine congrArg _ ?_
              show [x].filterMap (idx ps) = _
              rcases ei : idx ps x with _ | i
              · rw [List.filterMap_cons_none ei]
                rfl
              · rw [List.filterMap_cons_some ei]
                rfl
            have nv := numK_val ps x
            refine ⟨rfl, _, rfl, _, rfl, d, _, rfl, DGet.k (k := Sum.inl (x : Int)) hd4, _, rfl, ?_⟩
            rw [nv]
            rcases ei : idx ps x with _ | i
            · refine iteF ⟨sm, ?_⟩
              rw [hD, gx, ei]
              show _ = some (HO.lst ((_ ++ []).map vN))
              rw [List.append_nil]
            · refine iteT ⟨_, rfl, _, rfl, d, vN i, rfl, ?_, _, hD, by rw [List.length_map]; exact small1000 (by omega), fun b o eb => ?_, ?_⟩
              · have := DGet.k (k := Sum.inl (x : Int)) hd4
                rw [nv, ei] at this
                exact this
              · rw [upd_ne (ne_of_none eb nD)]
                exact sm b o eb
              · rw [upd_same, gx, ei, List.map_append]
                rfl
          · obtain ⟨sm, hD⟩ := hP
            rw [List.length_map, List.take_length] at hD
            refine ⟨D, _, rfl, .inl ⟨.of hD, fun q nq => ?_⟩⟩
            have s7 := sm.trans (sameUpd (o := .tup ((partRow ps rows[p]).map vN)) nq)
            have hL7 := s7 _ _ hL
            have lb := tp.1
            rw [List.length_take] at lb
            refine ⟨L, _, _, rfl, rfl, hL7, by rw [List.length_map]; exact small1000 (by omega), _, _, _, rfl, fun b o eb => ?_, bs ++ [q], by rw [upd_same, List.map_append]; rfl, ?_⟩
            · have nl : b ≠ L := ne_of_none eb nL
              rw [upd_ne nl]
              exact s7 b o (s4 b o eb)
            · have t1 := tp.same s7
              have t2 := Tups.snoc t1 (q := q) (row := partRow ps rows[p]) (.inl (.inl upd_same))
              have t3 := Tups.lst (o := .lst ((bs ++ [q]).map V.ref)) t2 hL7
              have ek : (partRows rows ps).take (k + 1) = (partRows rows ps).take k ++ [partRow ps rows[p]] := by
                unfold partRows
                rw [List.take_add_one, List.getElem?_map, hp]
                show _ ++ [partRow ps (rows.getD p [])] = _
                rw [List.getD_eq_getElem?_getD, er]
                rfl
              rw [ek]
              rw [List.map_append] at t3
              exact t3
        · obtain ⟨y4, y5, y6, rfl, s4, bs, hL, tp⟩ := hP
          rw [List.length_map] at tp
          rw [List.take_of_length_le (by unfold partRows; rw [List.length_map]; exact Nat.le_refl _)] at tp
          have s6 := (s1.trans s2).trans s4
          have ok2 := partRows_ok ok asc inn en
          refine ⟨_, rfl, L, _, rfl, .inl ⟨.of hL, fun q nq => ?_⟩⟩
          have s7 := sameUpd (o := .tup (bs.map V.ref)) nq
          have rt : RowsT K (upd H3 q (.tup (bs.map V.ref))) q bs (partRows rows ps) := (tp.same s7).rowsT (.inl (.inl upd_same))
          refine fun x dx2 nx ndx ne => ?_
          have s9 : Same (upd H3 q (.tup (bs.map V.ref))) (upd (upd (upd H3 q (.tup (bs.map V.ref))) dx2 (.own x)) x (.ins C dx2 [])) := fun b o e => by
            rw [upd_ne (ne_of_none e nx), upd_ne (ne_of_none e ndx)]
            exact e
          refine ⟨x, dx2, q, bs, _, rfl, upd_same, rt.same s9, ok2, fun H6 b6 hx6 => ⟨rfl, ?_⟩⟩
          have s10 : Same (upd H3 q (.tup (bs.map V.ref))) H6 := fun b o e => b6 b o (ne_of_none e nx) (s9 b o e)
          refine good en x H6 ((s6.trans s7).trans s10) ?_ ⟨dx2, q, _, _, hx6, rt.same s10⟩ ok2
          rcases e : H x with _ | o
          · rfl
          · rw [(s6.trans s7) x o e] at nx
            cases nx
end
end K08

set_option maxHeartbeats 16000000
namespace K08
open PySem PySem.Spec PyProof.Rows L2 GG
abbrev sWRen : Stmt := webS 10
theorem scWRen : FnScope ["self", "names", "rows", "place", "row", "other"] ["self", "names"] (defScope sWRen) := ⟨rfl, rfl, rfl, by decide +kernel, rfl, by decide +kernel, by decide +kernel⟩
/-- what is_arrangement answers -/
def ArrAns (K : PySem.W.Frag) (H : Hp) (many : Int) (v : V) (b : Bool) : Prop :=
  ((∃ t, TyX K H v (.type t) ∧ kitB t "tuple" = some false) ∧ b = false) ∨
  (∃ a xs, v = .ref a ∧ SqT K H a xs ∧ TyX K H v (.type "tuple") ∧ xs.length ≤ 1000 ∧ (∀ x ∈ xs, (∃ n, x = .int n) ∨ NoInt K H x) ∧ (∃ x ∈ xs, inI x = false) ∧ b = false) ∨
  (∃ (a : Addr) (ns : List Int), v = .ref a ∧ SqT K H a (ns.map V.int) ∧ TyX K H v (.type "tuple") ∧ ns.length ≤ 1000 ∧ (∀ n ∈ ns, intOk n = true) ∧ (b = true ↔ ns.Perm (places many)))
def spArrB (K : PySem.W.Frag) : Sp := fun vs H Q _ => ∃ v many b, vs = [v, .int many] ∧ 0 ≤ many ∧ many ≤ 1000 ∧ ArrAns K H many v b ∧ ∀ H', Same H H' → Q (.bl b) H'
theorem arrB {P : Program} {w : World} {K : PySem.W.Frag} {mg : Str → Option Value} {base : Heap} {k : Nat} {f : Addr} {fd : FuncData} (F : FnOk P w K mg base CX0 k f fd ["value", "many"] (spArr K)) : FnOk P w K mg base CX0 k f fd ["value", "many"] (spArrB K) :=
  FnOk.weak F fun vs H Q E q => by
    obtain ⟨v, many, b, rfl, m0, m1, h, q⟩ := q
    refine ⟨v, many, rfl, m0, m1, ?_⟩
    rcases h with ⟨no, rfl⟩ | ⟨a, xs, ev, sq, ty, hl, items, bad, rfl⟩ | ⟨a, ns, ev, sq, ty, hl, items, iff⟩
    · exact .inl ⟨no, q H (.refl H)⟩
    · exact .inr (.inl ⟨a, xs, ev, sq, ty, hl, items, bad, q⟩)
    · refine .inr (.inr ⟨a, ns, ev, sq, ty, hl, items, fun H' b' s e => ?_⟩)
      have : b' = b := by
        rw [Bool.eq_iff_iff, e, iff]
      rw [this]
      exact q H' s
theorem ArrAns.nat {K : PySem.W.Frag} {H : Hp} {many : Nat} {v : V} (h : ArrAns K H many v true) : ∃ (a : Addr) (ns : List Nat), v = .ref a ∧ SqT K H a (ns.map vN) ∧ ns.Perm (List.range many) := by
  rcases h with ⟨_, e⟩ | ⟨a, xs, ev, sq, ty, hl, items, bad, e⟩ | ⟨a, ns, ev, sq, ty, hl, items, iff⟩
  · cases e
  · cases e
  · have p := iff.mp rfl
    have pos : ∀ n ∈ ns, 0 ≤ n := fun n hn => by
      obtain ⟨k, _, rfl⟩ := List.mem_map.mp (p.mem_iff.mp hn)
      omega
    have back : (ns.map Int.toNat).map (fun k : Nat => (k : Int)) = ns := by
      rw [List.map_map]
      exact (List.map_congr_left fun n hn => Int.toNat_of_nonneg (pos n hn)).trans (List.map_id _)
    refine ⟨a, ns.map Int.toNat, ev, by rw [mapN, back]; exact sq, ?_⟩
    have := p.map Int.toNat
    unfold places at this
    rw [List.map_map] at this
    refine this.trans (List.Perm.of_eq ?_)
    rw [Int.toNat_natCast]
    exact (List.map_congr_left fun n _ => Int.toNat_natCast n).trans (List.map_id _)
/-- a dict told by its keys and values in order -/
def dicK (ns : List Nat) (vs : List V) : List (Key × V) := (List.range vs.length).map fun i => ((Sum.inl (ns.getD i 0 : Int) : Key), vs.getD i .non)
theorem dicK_val (ns : List Nat) (vs : List V) (l : vs.length = ns.length) (x : Nat) : valV (dicK ns vs) (Sum.inl (x : Int) : Key) = (idx ns x).map fun i => vs.getD i .non := by
  unfold valV dicK idx
  rw [List.find?_map, Option.map_map, l]
  have e : ((fun kv : Key × V => decide (kv.1 = (Sum.inl (x : Int) : Key))) ∘ fun i : Nat => ((Sum.inl (ns.getD i 0 : Int) : Key), vs.getD i .non)) = fun i => decide (ns.getD i 0 = x) := by
    funext i
    show decide ((Sum.inl (ns.getD i 0 : Int) : Key) = Sum.inl (x : Int)) = _
    rw [decide_eq_decide]
    constructor
    · intro h
      have := Sum.inl.inj h
      omega
    · intro h
      rw [h]
  rw [e]
  rfl
theorem dicK_snoc {ns : List Nat} {vs : List V} {v : V} (nd : ns.Nodup) (l : vs.length < ns.length) : putK (dicK ns vs) (Sum.inl (ns.getD vs.length 0 : Int)) v = dicK ns (vs ++ [v]) := by
  have new : ((dicK ns vs).any fun kv => decide (kv.1 = (Sum.inl (ns.getD vs.length 0 : Int) : Key))) = false := by
    rw [List.any_eq_false]
    intro kv hkv e
    obtain ⟨i, hi, rfl⟩ := List.mem_map.mp hkv
    have hi := List.mem_range.mp hi
    have e1 := Sum.inl.inj (of_decide_eq_true e)
    rw [List.getD_eq_getElem?_getD, List.getD_eq_getElem?_getD, List.getElem?_eq_getElem (by omega), List.getElem?_eq_getElem l] at e1
    have e2 : ns[i] = ns[vs.length] := by
      have : ((ns[i] : Nat) : Int) = (ns[vs.length] : Int) := e1
      omega
    exact List.pairwise_iff_getElem.mp nd i vs.length (by omega) l hi e2
  unfold putK
  rw [if_neg (by rw [new]; decide)]
  unfold dicK
  rw [List.length_append, List.length_singleton, List.range_succ, List.map_append]
  congr 1
  · refine List.map_congr_left fun i hi => ?_
    have hi := List.mem_range.mp hi
    refine Prod.ext rfl ?_
    show vs.getD i .non = (vs ++ [v]).getD i .non
    rw [List.getD_eq_getElem?_getD, List.getD_eq_getElem?_getD, List.getElem?_append_left hi]
  · show [(_, _)] = [(_, _)]
    rw [List.getD_eq_getElem?_getD (l := vs ++ [v]), List.getElem?_append_right (Nat.le_refl _), Nat.sub_self]
    rfl
/-- the rows of a renamed web -/
def RenRow (ns row row' : List Nat) : Prop := row'.Pairwise (· < ·) ∧ ∀ y, y ∈ row' ↔ ∃ z ∈ row, y = ns.getD z 0
def RenOf (rows : List (List Nat)) (ns : List Nat) (rows' : List (List Nat)) : Prop := rows'.length = rows.length ∧ ∀ (x : Nat) (row : List Nat), rows[x]? = some row → ∃ row', rows'[ns.getD x 0]? = some row' ∧ RenRow ns row row'
theorem names_nodup {ns row : List Nat} (nd : ns.Nodup) (asc : row.Pairwise (· < ·)) (inn : ∀ x ∈ row, x < ns.length) : (row.map fun z => ns.getD z 0).Nodup := by
  unfold List.Nodup
  rw [List.pairwise_map]
  refine List.Pairwise.imp_of_mem (fun {a b} ha hb hab e => ?_) asc
  have la := inn a ha
  have lb := inn b hb
  rw [List.getD_eq_getElem?_getD, List.getD_eq_getElem?_getD, List.getElem?_eq_getElem la, List.getElem?_eq_getElem lb] at e
  exact List.pairwise_iff_getElem.mp nd a b la lb hab e
theorem idx_nodup {ns : List Nat} (nd : ns.Nodup) {x : Nat} (h : x < ns.length) : idx ns (ns.getD x 0) = some x := by
  rcases e : idx ns (ns.getD x 0) with _ | i
  · have := idx_none e
    rw [List.getD_eq_getElem?_getD, List.getElem?_eq_getElem h] at this
    exact absurd (List.getElem_mem h) this
  · have e1 := idx_some e
    have il := (List.getElem?_eq_some_iff.mp e1).1
    have e2 := (List.getElem?_eq_some_iff.mp e1).2
    have e4 : ns.getD x 0 = ns[x] := by
      rw [List.getD_eq_getElem?_getD, List.getElem?_eq_getElem h]
      rfl
    have e3 : ns[i] = ns[x] := e2.trans e4
    rcases Nat.lt_trichotomy i x with z | z | z
    · exact absurd e3 (List.pairwise_iff_getElem.mp nd i x il h z)
    · exact congrArg some z
    · exact absurd e3.symm (List.pairwise_iff_getElem.mp nd x i h il z)
/-- the rows in the order of the new names -/
theorem ren_ok {rows rs : List (List Nat)} {ns : List Nat} (ok : WebOk rows) (perm : ns.Perm (List.range rows.length)) (lr : rs.length = rows.length)
    (ren : ∀ (i : Nat) (row row' : List Nat), rows[i]? = some row → rs[i]? = some row' → RenRow ns row row') :
    RenOf rows ns ((List.range rows.length).map fun p => rs.getD ((idx ns p).getD 0) []) ∧ WebOk ((List.range rows.length).map fun p => rs.getD ((idx ns p).getD 0) []) := by
  have nd : ns.Nodup := perm.nodup_iff.mpr List.nodup_range
  have ln : ns.length = rows.length := by rw [perm.length_eq, List.length_range]
  have l : ((List.range rows.length).map fun p => rs.getD ((idx ns p).getD 0) []).length = rows.length := by rw [List.length_map, List.length_range]
  have lt : ∀ x, x < ns.length → ns.getD x 0 < rows.length := fun x hx => by
    rw [List.getD_eq_getElem?_getD, List.getElem?_eq_getElem hx]
    exact List.mem_range.mp (perm.mem_iff.mp (List.getElem_mem hx))
  have at_ : ∀ p, p < rows.length → ∃ x, x < rows.length ∧ idx ns p = some x ∧ ns.getD x 0 = p := fun p hp => by
    rcases e : idx ns p with _ | x
    · exact absurd (perm.mem_iff.mpr (List.mem_range.mpr hp)) (idx_none e)
    · have e1 := idx_some e
      have xl := (List.getElem?_eq_some_iff.mp e1).1
      refine ⟨x, by omega, rfl, ?_⟩
      rw [List.getD_eq_getElem?_getD, e1]
      rfl
  have rowAt : ∀ x, (hx : x < rows.length) → RenRow ns (rows[x]'hx) (rs.getD x []) := fun x hx => by
    rw [List.getD_eq_getElem?_getD, List.getElem?_eq_getElem (by omega)]
    exact ren x _ _ (List.getElem?_eq_getElem hx) (List.getElem?_eq_getElem (by omega))
  refine ⟨⟨l, fun x row hx => ?_⟩, ⟨by rw [l]; exact ok.some_, by rw [l]; exact ok.few, fun row hr y hy => ?_, fun row hr => ?_⟩⟩
  · have xl := (List.getElem?_eq_some_iff.mp hx).1
    have e : rows[x] = row := (List.getElem?_eq_some_iff.mp hx).2
    refine ⟨rs.getD x [], ?_, by rw [← e]; exact rowAt x xl⟩
    rw [List.getElem?_map, List.getElem?_range (lt x (by omega))]
    show some (rs.getD ((idx ns (ns.getD x 0)).getD 0) []) = _
    rw [idx_nodup nd (by omega)]
    rfl
  · rw [l]
    obtain ⟨p, hp, rfl⟩ := List.mem_map.mp hr
    obtain ⟨x, xl, e, _⟩ := at_ p (List.mem_range.mp hp)
    rw [e] at hy
    obtain ⟨z, hz, rfl⟩ := ((rowAt x xl).2 y).mp hy
    exact lt z (by rw [ln]; exact ok.inn _ (List.getElem_mem xl) z hz)
  · obtain ⟨p, hp, rfl⟩ := List.mem_map.mp hr
    obtain ⟨x, xl, e, _⟩ := at_ p (List.mem_range.mp hp)
    rw [e]
    exact (rowAt x xl).1
/-- renamed -/
def spXRen (K : PySem.W.Frag) (C CO : Addr) : Sp := fun vs H Q E => ∃ (w : Addr) (v : V) (rows : List (List Nat)) (b : Bool), vs = [.ref w, v] ∧ WebAt K H C w rows ∧ WebOk rows ∧ ArrAns K H rows.length v b ∧ (b = false → RaisedP E CO H) ∧
  (b = true → ∃ (a : Addr) (ns : List Nat), v = .ref a ∧ SqT K H a (ns.map vN) ∧ ns.Perm (List.range rows.length) ∧
    ∀ (w' : Addr) (rows' : List (List Nat)) (H' : Hp), RenOf rows ns rows' → Same H H' → H w' = none → WebAt K H' C w' rows' → WebOk rows' → Q (.ref w') H')
section
variable {P : Program} {w : World} {K : PySem.W.Frag} {mg : Str → Option Value} {base : Heap}
theorem okX_ren {f fA fI C CO : Addr} {fd fdA fdI : FuncData} (F : Fun K "renamed" "Web.renamed" sWRen f fd) (bA : Binds K fdA ["value", "many"] []) (bI : Binds K fdI ["self", "rows"] []) (W : WebC K C)
    (GA : FnOk P w K mg base CX0 3 fA fdA ["value", "many"] (spArrB K)) (gA : mg "is_arrangement" = some (.ref fA)) (kA : PySem.W.keepIn K (.ref fA) = true)
    (M : Mk K C fI) (GI : FnOk P w K mg base CX0 5 fI fdI ["self", "rows"] (spWInit K C)) (gW : mg "Web" = some (.ref C)) (XO : XP K mg "InvalidOperation" CO) (ml : mg "len" = none) (mt : mg "tuple" = none) (me : mg "enumerate" = none)
    (mso : mg "sorted" = none) (mr : mg "range" = none) :
    FnOk P w K mg base (L2.CX P w) 7 f fd ["self", "names"] (spXRen K C CO) := by
  refine F.okX scWRen (fun vs H Q E h => ?_) (fun cdv A outer s H vs Q E hr h => ?_)
  · obtain ⟨w, v, rows, b, rfl, _⟩ := h
    rfl
  · obtain ⟨w, v, rows, b, rfl, wa, ok, ans, qF, good⟩ := h
    obtain ⟨dx, r, as, ld, hw, hrw⟩ := id wa
    have hr3 := hr.mono (show 3 ≤ 6 by decide)
    have fw := ok.few
    have hl := hrw.len
    have N := scWRen.nd
    have hu := hu_of hr
    refine ⟨_, pss_cons (ps_if (pt_not (pt_val (pe_call GA hr3 (by rfl) gA kA bA .nil pass0 (pa_cons (pv 1) (pa_cons (pe_callB call_len_seq (by rfl) ml PySem.boot_len (pa_cons (pe_fld (pv 0) rfl) pa_nil)) pa_nil)))))
        (pss_one (ps_raise rfl (takes_of rfl rfl rfl rfl) (pmk_own PySem.F.excBase_ValueError XO.x XO.g XO.k (raises_own XO.b XO.t) rfl))) pss_nil)
      (PSs.nox (pss_cons (ps_set (i := 2) N rfl (.inr rfl) pe_dnewK)
      (pss_cons (ps_for PassesOwn.never rfl (pi_enumT (by rfl) me (pa_cons (pe_fld (pv 0) rfl) pa_nil)) (pg_tup rfl (pgs_cons (pg_name (i := 3) N rfl (.inl rfl)) (pgs_cons (pg_name (i := 4) N rfl (.inl rfl)) pgs_nil)))
        (pss_one (ps_dput hu (pv 2) (pe_ix ix_seq (pv 1) (pv 3) (fun _ _ => rfl)) (pe_callTy call_tuple_of (by rfl) mt (by decide +kernel) (pa_cons (pe_callB cr_sortedI (by rfl) mso (by decide +kernel) (pa_cons
          (pe_lc (own := [("other", 5)]) (g := gName 5) (tt := tYes) rfl N (pi_tup (pv 4)) (blkOk_by (own := [("other", 5)]) (N := ["self", "names", "rows", "place", "row", "other"]) (sc := defScope sWRen) (by decide +kernel))
            (fun _ _ _ _ _ => pg_name (i := 5) N rfl (Or.inl rfl)) (fun _ _ _ _ _ => pts_nil) (fun _ _ _ _ _ => pe_ix (ixTupK (K := K) rfl) (pv 1) (pv 5) (fun _ _ => rfl))) pa_nil)) pa_nil)) rfl)))
      (pss_one (ps_ret (pe_make M GI hr (by rfl) gW bI .nil pass0 (pa_cons (pe_callTy call_tuple_of (by rfl) mt (by decide +kernel) (pa_cons
        (pe_lc (own := [("place", 3)]) (g := gName 3) (tt := tYes) rfl N (pi_range1 (by rfl) mr (pa_cons (pe_callB call_lenD (by rfl) ml PySem.boot_len (pa_cons (pv 2) pa_nil)) pa_nil))
          (blkOk_by (own := [("place", 3)]) (N := ["self", "names", "rows", "place", "row", "other"]) (sc := defScope sWRen) (by decide +kernel))
          (fun _ _ _ _ _ => pg_name (i := 3) N rfl (Or.inl rfl)) (fun _ _ _ _ _ => pts_nil) (fun _ _ _ _ _ => pe_dget hu (pv 2) (pv 3) (fun _ _ => rfl))) pa_nil)) pa_nil))))))), ?_⟩
    refine ⟨_, rfl, _, rfl, w, C, dx, _, _, rfl, hw, W.c, W.no, rfl, r, _, rfl, .inr hrw.seq, ?_⟩
    rw [List.length_map, hl]
    refine ⟨v, (rows.length : Int), b, rfl, by omega, by omega, ans, fun H1 s1 => ⟨b, rfl, ?_⟩⟩
    cases b with
    | false => exact iteT (qF rfl H1 s1)
    | true =>
      obtain ⟨a, ns, rfl, sq0, perm, good⟩ := good rfl
      have sq := sqT_same s1 sq0
      have nd : ns.Nodup := perm.nodup_iff.mpr List.nodup_range
      have ln : ns.length = rows.length := by rw [perm.length_eq, List.length_range]
      refine iteF fun d nd0 => ?_
      have s2 := s1.trans (sameUpd (o := .dK []) nd0)
      refine ⟨_, rfl, w, C, dx, _, _, rfl, s2 _ _ hw, W.c, W.no, rfl, r, _, rfl, (hrw.same s2).seq, ?_⟩
      refine for_it (walk_enumT (K := K) (a := r) (xs := as.map V.ref)) (fun k σ H3 => ∃ y3 y4 y5, σ = [some (.ref w), some (.ref a), some (.ref d), y3, y4, y5] ∧ Same H1 H3 ∧ ∃ (bs : List Addr) (rs : List (List Nat)), rs.length = k ∧ H3 d = some (.dK (dicK ns (bs.map V.ref))) ∧ Tups K H3 bs rs ∧
          ∀ (i : Nat) (row row' : List Nat), rows[i]? = some row → rs[i]? = some row' → RenRow ns row row')
        ⟨_, _, _, rfl, sameUpd nd0, [], [], rfl, upd_same, .nil, fun _ _ _ _ h => by cases h⟩ (fun k σ H3 _ hP => by obtain ⟨_, _, _, _, s3, _⟩ := hP; exact sqT_same (s1.trans s3) hrw.seq) (fun k x σ H3 H4 kn hP y => ?_) (fun σ H3 hP => ?_)
      · obtain ⟨y3, y4, y5, rfl, s3, bs, rs, lr, hd, tp, ren⟩ := hP
        obtain ⟨T, x1, x2, rfl, nT, rfl, e1, e2⟩ := y
        cases e1
        rw [List.length_map] at kn
        have ea : as[k]? = some as[k] := List.getElem?_eq_getElem kn
        have er : rows[k]? = some (rows[k]'(by omega)) := List.getElem?_eq_getElem (by omega)
        have ex : x2 = .ref as[k] := by
          have e3 : (as.map V.ref)[k]? = some x2 := e2
          rw [List.getElem?_map, ea] at e3
          exact (Option.some.inj e3).symm
        subst ex
        have kr : k < rows.length := by omega
        have hd' : H3 d = some (.dK (dicK ns (bs.map V.ref))) := hd
        have dT : d ≠ T := fun z => by
          rw [z, nT] at hd
          cases hd
        have s4 : Same H1 (upd H3 T (.tup [.int (k : Int), .ref as[k]])) := s3.trans (sameUpd nT)
        have sqr := hrw.row k _ _ ea er
        have rl := ok.rowLen (List.getElem_mem kr)
        have inn := ok.inn _ (List.getElem_mem kr)
        have asc := ok.asc _ (List.getElem_mem kr)
        refine ⟨T, _, rfl, .inl (.inl upd_same), rfl, _, _, rfl, _, _, rfl, rfl, ?_⟩
        refine ⟨_, rfl, as[k], rfl, ⟨_, sqT_same (s1.trans s4) sqr⟩, fun D nD => ?_⟩
        refine lc_tup (K := K) (a := as[k]) (xs := (rows[k]'kr).map vN) (fun j H5 => Same (upd H3 T (.tup [.int (k : Int), .ref as[k]])) H5 ∧ H5 D = some (.lst (((rows[k]'kr).take j).map fun z => vN (ns.getD z 0)))) ⟨sameUpd nD, upd_same⟩
          (fun j H5 _ hP => sqT_same ((s1.trans s4).trans hP.1) sqr) (fun j v H5 hv hP => ?_) (fun H5 hP => ?_)
        · obtain ⟨sm, hD⟩ := hP
          rw [List.getElem?_map] at hv
          obtain ⟨z, hz, rfl⟩ := Option.map_eq_some_iff.mp hv
          have zl : z < ns.length := by
            rw [ln]
            exact inn z (List.mem_of_getElem? hz)
          have ez : (ns.map vN)[z]? = some (vN (ns.getD z 0)) := by
            rw [List.getElem?_map, List.getElem?_eq_getElem zl, List.getD_eq_getElem?_getD, List.getElem?_eq_getElem zl]
            rfl
          refine ⟨rfl, _, rfl, _, rfl, a, _, (z : Int), _, rfl, rfl, sqT_same (s4.trans sm) sq, atI_nat ez, _, hD, ?_, fun b o eb => ?_, ?_⟩
          · rw [List.length_map, List.length_take]
            exact small1000 (by omega)
          · rw [upd_ne (ne_of_none eb nD)]
            exact sm b o eb
          · rw [upd_same, List.take_add_one, hz, List.map_append]
            rfl
        · obtain ⟨sm, hD⟩ := hP
          rw [List.length_map, List.take_length] at hD
          have ei : (rows[k]'kr).map (fun z => vN (ns.getD z 0)) = (((rows[k]'kr).map fun z => ns.getD z 0).map fun k : Nat => (k : Int)).map V.int := by
            rw [List.map_map, List.map_map]
            rfl
          rw [ei] at hD
          refine ⟨D, _, rfl, .of hD, fun ns' p perm2 rising np => ?_⟩
          obtain ⟨row', rfl, asc', mem'⟩ := sorted_set perm2 rising (names_nodup nd asc fun x hx => by rw [ln]; exact inn x hx)
          refine ⟨p, _, rfl, .inl ⟨.of upd_same, fun q nq => ?_⟩⟩
          have s6 := (sm.trans (sameUpd (o := .lst ((row'.map fun k : Nat => (k : Int)).map V.int)) np)).trans (sameUpd (o := .tup ((row'.map fun k : Nat => (k : Int)).map V.int)) nq)
          have s7 := s4.trans s6
          have hd7 := s6 d _ (by rw [upd_ne dT]; exact hd)
          have kl : k < ns.length := by omega
          have ek : (ns.map vN)[k]? = some (vN (ns.getD k 0)) := by
            rw [List.getElem?_map, List.getElem?_eq_getElem kl, List.getD_eq_getElem?_getD, List.getElem?_eq_getElem kl]
            rfl
          have lb := tp.1
          have lk : (bs.map V.ref).length = k := by rw [List.length_map]; omega
          refine ⟨_, rfl, _, rfl, _, rfl, .inr (.inl ⟨a, _, (k : Int), _, rfl, rfl, sqT_same s7 sq, atI_nat ek, ?_⟩)⟩
          refine ⟨d, _, rfl, DPut.k (k := Sum.inl (ns.getD k 0 : Int)) hd7 (by unfold dicK; rw [List.length_map, List.length_range, lk]; exact small1000 (by omega)), ?_⟩
          have ep : putK (dicK ns (bs.map V.ref)) (Sum.inl (ns.getD k 0 : Int)) (.ref q) = dicK ns ((bs ++ [q]).map V.ref) := by
            have := dicK_snoc (v := .ref q) (vs := bs.map V.ref) nd (by omega)
            rw [lk] at this
            rw [this, List.map_append]
            rfl
          rw [ep]
          refine ⟨_, _, _, rfl, fun b o eb => ?_, bs ++ [q], rs ++ [row'], by rw [List.length_append, lr]; rfl, upd_same, ?_, fun i row rw' h1 h2 => ?_⟩
          · rw [upd_ne (ne_of_none eb nd0)]
            exact s7 b o eb
          · have t1 := Tups.snoc ((tp.same (sameUpd nT)).same s6) (q := q) (row := row') (.inl (.inl (by rw [mapN]; exact upd_same)))
            refine ⟨t1.1, fun i b row h1 h2 => ?_⟩
            rcases t1.2 i b row h1 h2 with (h | ⟨u, h⟩) | h
            · refine .inl (.inl ?_)
              rw [upd_ne (fun e => by rw [e, hd7] at h; cases h)]
              exact h
            · refine .inl (.inr ⟨u, ?_⟩)
              rw [upd_ne (fun e => by rw [e, hd7] at h; cases h)]
              exact h
            · exact .inr h
          · by_cases il : i < rs.length
            · rw [List.getElem?_append_left il] at h2
              exact ren i row rw' h1 h2
            · have b2 := (List.getElem?_eq_some_iff.mp h2).1
              rw [List.length_append, List.length_singleton] at b2
              have ik : i = rs.length := by omega
              subst ik
              rw [List.getElem?_append_right (Nat.le_refl _), Nat.sub_self] at h2
              cases h2
              subst lr
              rw [er] at h1
              cases h1
              refine ⟨asc', fun y => ?_⟩
              rw [mem', List.mem_map]
              constructor
              · rintro ⟨z, hz, rfl⟩
                exact ⟨z, hz, rfl⟩
              · rintro ⟨z, hz, rfl⟩
                exact ⟨z, hz, rfl⟩
      · obtain ⟨y3, y4, y5, rfl, s3, bs, rs, lr, hd, tp, ren⟩ := hP
        rw [List.length_map, hl] at lr
        have lb : bs.length = rows.length := by rw [tp.1, lr]
        have ldk : (dicK ns (bs.map V.ref)).length = rows.length := by
          unfold dicK
          rw [List.length_map, List.length_range, List.length_map, lb]
        have s6 := s1.trans s3
        obtain ⟨rof, ok2⟩ := ren_ok ok perm lr ren
        have lv : (bs.map V.ref).length = ns.length := by rw [List.length_map]; omega
        refine ⟨_, rfl, d, _, rfl, hd, _, rfl, by rw [ldk]; omega, by rw [ldk]; omega, fun D nD => ?_⟩
        rw [ldk]
        refine lc_range (lo := 0) (n := ((rows.length : Nat) : Int).toNat) (fun j H4 => Same H3 H4 ∧ H4 D = some (.lst ((List.range j).map fun p => V.ref (bs.getD ((idx ns p).getD 0) 0)))) ⟨sameUpd nD, upd_same⟩ (fun j H4 hj hP => ?_) (fun H4 hP => ?_)
        · obtain ⟨sm, hD⟩ := hP
          rw [Int.toNat_natCast] at hj
          obtain ⟨x, e⟩ : ∃ x, idx ns j = some x := by
            rcases e : idx ns j with _ | x
            · exact absurd (perm.mem_iff.mpr (List.mem_range.mpr hj)) (idx_none e)
            · exact ⟨x, rfl⟩
          have xl := (List.getElem?_eq_some_iff.mp (idx_some e)).1
          have g := DGet.k (k := Sum.inl (j : Int)) (sm _ _ hd)
          rw [dicK_val ns _ lv j, e] at g
          have ez : (0 : Int) + (j : Int) = (j : Int) := Int.zero_add _
          have ev : (bs.map V.ref).getD x .non = .ref (bs.getD x 0) := by
            rw [List.getD_eq_getElem?_getD, List.getElem?_map, List.getElem?_eq_getElem (by omega), List.getD_eq_getElem?_getD, List.getElem?_eq_getElem (by omega)]
            rfl
          refine ⟨rfl, _, rfl, _, rfl, d, .ref (bs.getD x 0), rfl, ?_, _, hD, ?_, fun b o eb => ?_, ?_⟩
          · show DGet H4 d (.int (0 + (j : Int))) _
            rw [ez, ← ev]
            exact g
          · rw [List.length_map, List.length_range]
            exact small1000 (by omega)
          · rw [upd_ne (ne_of_none eb nD)]
            exact sm b o eb
          · rw [upd_same, List.range_succ, List.map_append]
            show _ = some (HO.lst (_ ++ [V.ref (bs.getD ((idx ns j).getD 0) 0)]))
            rw [e]
            rfl
        · obtain ⟨sm, hD⟩ := hP
          rw [Int.toNat_natCast] at hD
          refine ⟨D, _, rfl, .inl ⟨.of hD, fun q nq => ?_⟩⟩
          have e9 : (List.range rows.length).map (fun p => V.ref (bs.getD ((idx ns p).getD 0) 0)) = ((List.range rows.length).map fun p => bs.getD ((idx ns p).getD 0) 0).map V.ref := by
            rw [List.map_map]
            rfl
          rw [e9]
          have s7 := sm.trans (sameUpd (o := .tup (((List.range rows.length).map fun p => bs.getD ((idx ns p).getD 0) 0).map V.ref)) nq)
          have rt : RowsT K (upd H4 q (.tup (((List.range rows.length).map fun p => bs.getD ((idx ns p).getD 0) 0).map V.ref))) q ((List.range rows.length).map fun p => bs.getD ((idx ns p).getD 0) 0) ((List.range rows.length).map fun p => rs.getD ((idx ns p).getD 0) []) := by
            refine ⟨.inl (.inl upd_same), by rw [List.length_map, List.length_map], fun i b row h1 h2 => ?_⟩
            have il : i < rows.length := by
              have := (List.getElem?_eq_some_iff.mp h1).1
              rwa [List.length_map, List.length_range] at this
            rw [List.getElem?_map, List.getElem?_range il] at h1 h2
            cases h1
            cases h2
            obtain ⟨x, e⟩ : ∃ x, idx ns i = some x := by
              rcases e : idx ns i with _ | x
              · exact absurd (perm.mem_iff.mpr (List.mem_range.mpr il)) (idx_none e)
              · exact ⟨x, rfl⟩
            have xl := (List.getElem?_eq_some_iff.mp (idx_some e)).1
            show SqT K _ (bs.getD ((idx ns i).getD 0) 0) ((rs.getD ((idx ns i).getD 0) []).map vN)
            rw [e]
            refine sqT_same s7 (tp.2 x _ _ ?_ ?_)
            · show bs[x]? = some (bs.getD x 0)
              rw [List.getD_eq_getElem?_getD, List.getElem?_eq_getElem (by omega)]
              rfl
            · show rs[x]? = some (rs.getD x [])
              rw [List.getD_eq_getElem?_getD, List.getElem?_eq_getElem (by omega)]
              rfl
          refine fun x dx2 nx ndx ne => ?_
          have s9 : Same (upd H4 q (.tup (((List.range rows.length).map fun p => bs.getD ((idx ns p).getD 0) 0).map V.ref))) (upd (upd (upd H4 q (.tup (((List.range rows.length).map fun p => bs.getD ((idx ns p).getD 0) 0).map V.ref))) dx2 (.own x)) x (.ins C dx2 [])) := fun b o e => by
            rw [upd_ne (ne_of_none e nx), upd_ne (ne_of_none e ndx)]
            exact e
          refine ⟨x, dx2, q, _, _, rfl, upd_same, rt.same s9, ok2, fun H6 b6 hx6 => ⟨rfl, ?_⟩⟩
          have s10 : Same (upd H4 q (.tup (((List.range rows.length).map fun p => bs.getD ((idx ns p).getD 0) 0).map V.ref))) H6 := fun b o e => b6 b o (ne_of_none e nx) (s9 b o e)
          refine good x _ H6 rof ((s6.trans s7).trans s10) ?_ ⟨dx2, q, _, _, hx6, rt.same s10⟩ ok2
          rcases e : H x with _ | o
          · rfl
          · rw [(s6.trans s7) x o e] at nx
            cases nx
end
end K08

set_option maxHeartbeats 16000000
namespace K08
open PySem PySem.Spec PyProof.Rows L2 GG LamX
abbrev sMet : Stmt := topS 20
theorem scMet : FnScope ["call", "e"] ["call"] (defScope sMet) := ⟨rfl, rfl, rfl, by decide +kernel, rfl, by decide +kernel, by decide +kernel⟩
/-- which errors are which -/
structure Exm (K : PySem.W.Frag) (CW CO CN : Addr) : Prop where
  ww : PySem.W.exmOne K (.ref CW) (.ref CW) = some true
  ow : PySem.W.exmOne K (.ref CO) (.ref CW) = some false
  oo : PySem.W.exmOne K (.ref CO) (.ref CO) = some true
  nw : PySem.W.exmOne K (.ref CN) (.ref CW) = some false
  no : PySem.W.exmOne K (.ref CN) (.ref CO) = some false
  nn : PySem.W.exmOne K (.ref CN) (.ref CN) = some true
/-- what is met -/
def EMet (K : PySem.W.Frag) (CW CO CN : Addr) (Q : VK) : XK := fun cls d H' => ∃ b, PySem.W.exmOne K cls (.ref CW) = some b ∧ (b = true → Q (.str "web") H') ∧
  (b = false → ∃ b2, PySem.W.exmOne K cls (.ref CO) = some b2 ∧ (b2 = true → Q (.str "operation") H') ∧
    (b2 = false → ∃ b3, PySem.W.exmOne K cls (.ref CN) = some b3 ∧
      (b3 = true → cls = .ref CN ∧ ∃ dd v dat, d = some dd ∧ H' dd = some (xdv v) ∧ Rp K H' v dat ∧ 7 + dat.shown.length ≤ sizeLine ∧ Q (.str ("number " ++ dat.shown)) H') ∧ (b3 = false → False)))
def TTmet (K : PySem.W.Frag) (CW CO CN : Addr) : (XK → Hp → VK → Prop) → Hp → VK → Prop := fun tl H Q => tl (EMet K CW CO CN Q) H (fun _ H' => Q (.str "") H')
theorem EMet.web {K : PySem.W.Frag} {CW CO CN : Addr} {Q : VK} (X : Exm K CW CO CN) {H : Hp} (q : ∀ H', Same H H' → Q (.str "web") H') : RaisedP (EMet K CW CO CN Q) CW H := fun H' s => ⟨true, X.ww, fun _ => q H' s, fun z => by cases z⟩
theorem EMet.op {K : PySem.W.Frag} {CW CO CN : Addr} {Q : VK} (X : Exm K CW CO CN) {H : Hp} (q : ∀ H', Same H H' → Q (.str "operation") H') : RaisedP (EMet K CW CO CN Q) CO H := fun H' s => ⟨false, X.ow, fun z => (by cases z), fun _ => ⟨true, X.oo, fun _ => q H' s, fun z => by cases z⟩⟩
theorem EMet.num {K : PySem.W.Frag} {CW CO CN : Addr} {Q : VK} (X : Exm K CW CO CN) {H : Hp} {F : Addr → Prop} {v : V} {d : PyData} (dv : Dv F H v d) (g : showsD d = true) (q : ∀ H', Same H H' → Q (.str ("number " ++ d.shown)) H') : Raised (EMet K CW CO CN Q) CN v H := by
  intro H' dd s n
  have s2 : Same H (upd H' dd (xdv v)) := s.trans (sameUpd n)
  obtain ⟨rp, l⟩ := K08.Dv.rp (K := K) (dv.same s2) g
  exact ⟨false, X.nw, fun z => (by cases z), fun _ => ⟨false, X.no, fun z => (by cases z), fun _ => ⟨true, X.nn, fun _ => ⟨rfl, dd, v, d, rfl, upd_same, rp, by rw [sizeLine_eq]; omega, q _ s2⟩, fun z => by cases z⟩⟩⟩
/-! ### the tables of lambdas stay -/
theorem Tabs.but {T : List (Addr × Str)} {l : Addr} {H H' : Hp} {xs : List V} (t : Tabs T H) (h : H l = some (.lst xs)) (b : But l H H') : Tabs T H' := by
  intro z hz
  obtain ⟨ps, h1, h2, h3⟩ := t _ hz
  have n1 : z.1 ≠ l := fun e => by
    rw [e] at h1
    rw [h] at h1
    cases h1
  refine ⟨ps, b _ _ n1 h1, h2, fun pos cv hc => ?_⟩
  obtain ⟨c, e1, e2⟩ := h3 pos cv hc
  have n2 : c ≠ l := fun e => by
    rw [e] at e2
    rw [h] at e2
    cases e2
  exact ⟨c, e1, b _ _ n2 e2⟩
theorem Tabs.put {T : List (Addr × Str)} {p : Addr} {H : Hp} {xs : List V} (t : Tabs T H) (h : H p = some (.lst xs)) (ys : List V) : Tabs T (upd H p (.lst ys)) := by
  intro z hz
  obtain ⟨ps, h1, h2, h3⟩ := t _ hz
  have n1 : z.1 ≠ p := fun e => by
    rw [e] at h1
    rw [h] at h1
    cases h1
  refine ⟨ps, by rw [upd_ne n1]; exact h1, h2, fun pos cv hc => ?_⟩
  obtain ⟨c, e1, e2⟩ := h3 pos cv hc
  have n2 : c ≠ p := fun e => by
    rw [e] at e2
    rw [h] at e2
    cases e2
  exact ⟨c, e1, by rw [upd_ne n2]; exact e2⟩
theorem Dice.lst {H : Hp} {l : Addr} (d : Dice H l) : ∃ xs, H l = some (.lst xs) := by
  obtain ⟨a, b, c, h, _⟩ := d
  exact ⟨_, h⟩
theorem Dice.ext {H H' : Hp} {l : Addr} (d : Dice H l) (e : ExtN H H') : Dice H' l := by
  obtain ⟨a, b, c, h, n⟩ := d
  exact ⟨a, b, c, e _ _ h (fun ps z => by cases z), n⟩
theorem Dv.ext {F : Addr → Prop} {H H' : Hp} {v : V} {d : PyData} (h : Dv F H v d) (e : ExtN H H') : Dv F H' v d := GG.Dv.move (fun _ _ f _ => f) (fun a o _ n h => e a o h n) d v h
theorem DvAll.ext {F : Addr → Prop} {H H' : Hp} {vs : List V} {ds : List PyData} (h : DvAll F H vs ds) (e : ExtN H H') : DvAll F H' vs ds := GG.DvAll.move (fun _ _ f _ => f) (fun a o _ n h => e a o h n) ds vs h
theorem Dv.ofNew {H H' : Hp} {l : Addr} {o : HO} {v : V} {d : PyData} (h : Dv (fun a => H a = none) H' v d) (hl : H l = some o) : Dv (· ≠ l) H' v d :=
  GG.Dv.move (fun a _ f _ z => by subst z; rw [hl] at f; cases f) (fun _ _ _ _ e => e) d v h
theorem DvAll.ofNew {H H' : Hp} {l : Addr} {o : HO} {vs : List V} {ds : List PyData} (h : DvAll (fun a => H a = none) H' vs ds) (hl : H l = some o) : DvAll (· ≠ l) H' vs ds :=
  GG.DvAll.move (fun a _ f _ z => by subst z; rw [hl] at f; cases f) (fun _ _ _ _ e => e) ds vs h
/-- all but the object at p and the tables stay -/
def ExtP (p : Addr) (H H' : Hp) : Prop := ∀ b o, b ≠ p → (∀ ps, o ≠ .tbl ps) → H b = some o → H' b = some o
theorem ExtP.trans {p : Addr} {H H1 H2 : Hp} (a : ExtP p H H1) (b : ExtP p H1 H2) : ExtP p H H2 := fun c o n t e => b c o n t (a c o n t e)
theorem ExtP.ofN {p : Addr} {H H1 : Hp} (a : ExtN H H1) : ExtP p H H1 := fun c o n t e => a c o e t
theorem ExtP.of {p : Addr} {H H1 : Hp} (a : Same H H1) : ExtP p H H1 := fun c o n t e => a c o e
theorem ExtP.ofBut {p : Addr} {H H' : Hp} (b : But p H H') : ExtP p H H' := fun c o n t e => b c o n e
theorem DvAll.extP {l : Addr} {H H' : Hp} {vs : List V} {ds : List PyData} (h : DvAll (· ≠ l) H vs ds) (e : ExtP l H H') : DvAll (· ≠ l) H' vs ds := GG.DvAll.move (fun _ _ f _ => f) (fun a o f n h => e a o f n h) ds vs h
theorem Dv.extP {l : Addr} {H H' : Hp} {v : V} {d : PyData} (h : Dv (· ≠ l) H v d) (e : ExtP l H H') : Dv (· ≠ l) H' v d := GG.Dv.move (fun _ _ f _ => f) (fun a o f n h => e a o f n h) d v h
section
variable {X : Cx}
theorem takes_len {X : Cx} {W : WX} {n : Nat} (tk : Takes X W) (hn : X.N.length = n) : Takes X (fun cls d σ H => σ.length = n → W cls d σ H) := by
  intro u s' x
  obtain ⟨a, B, sI, pins, σ, H, cls, d, e, I, nb, up, sky, na, os, ag, wish⟩ := x
  exact tk u s' ⟨a, B, sI, pins, σ, H, cls, d, e, I, nb, up, sky, na, os, ag, wish (I.len.trans hn)⟩
theorem met_gives {g CW CO CN fE : Addr} {cdg : Value} {q : Str} {k : Nat} (gd : X.A.guards = some []) (hr : Room (k + 1) X.A) (mp : X.mg "repr" = none)
    (T : XN X.K X.mg CN fE) (gW : X.mg "InvalidWeb" = some (.ref CW)) (gO : X.mg "InvalidOperation" = some (.ref CO)) :
    GivesTo X ["call", "e"] "_law_met" (defScope sMet) g cdg (defBody sMet) "call" q (TTmet X.K CW CO CN) := by
  intro f c' s H Q tl act hc h
  have un : X.A.units + 16 * (k + 1) + 200 < cLine := hr.un
  let Y : Cx := (cxOf C8.CX0 X.prog X.w X.K X.mg X.base ["call", "e"] "_law_met" (defScope sMet) g cdg X.A X.stack s H C8.E0).nox
  refine ⟨_, pss_cons (ps_tryC (X := Y)
      (tb := fun W D σ H => ∃ Ech : XK, (∀ cls d σ' H', Ech cls d H' → σ'.length = 2 → W cls d σ' H') ∧ σ[0]? = some (some (.ref f)) ∧ H c' = some (CodeO c' q) ∧ tl Ech H (fun _ H1 => D.nx σ H1))
      rfl rfl L2.takes0 (fun W pn xe tk _ => ?_)
      (.plain (x := "InvalidWeb") (c := .ref CW) ⟨rfl, by decide, .inl gW⟩ (fun a oe cls d pn _ _ => pss_one (ps_ret pe_str))
      (.plain (x := "InvalidOperation") (c := .ref CO) ⟨rfl, by decide, .inl gO⟩ (fun a oe cls d pn _ _ => pss_one (ps_ret pe_str))
      (.named (x := "InvalidNumber") (i := 1) (c := .ref CN) scMet.nd rfl rfl ⟨rfl, by decide, .inl T.gC⟩ (fun a oe cls d pn hz hf => pss_one (ps_ret (pe_op op_add_str pe_str
          (pe_callB (X := Y.suite a ((a, oe) :: pn)) (show CallR (Y.suite a ((a, oe) :: pn)) (.builtin "repr") (rReprD X.K) from call_reprR (X := Y.suite a ((a, oe) :: pn)) gd (show X.A.units + 3 + 64 < cLine by omega)) rfl mp (by decide +kernel) (pa_cons (pe_byX T hz hf (pv 1)) pa_nil)))))
        .nil))))
    (pss_one (ps_ret pe_str)), ?_⟩
  · constructor
    intro pins s' σ H' D I h'
    obtain ⟨Ech, hW, h1, h2, h3⟩ := h'
    refine (pss_one (ps_expr (act (fun cls d σ H => σ.length = 2 → W cls d σ H) pn xe Ech _ _ (takes_len tk rfl) hW))).run pins s' σ H' D I ⟨h1, h2, h3⟩
  · refine ⟨_, ?_, rfl, hc, h⟩
    rintro cls d σ' H' ⟨b, e1, yes, no⟩ len
    refine ⟨b, e1, fun hb a _ => yes hb, fun hb => ?_⟩
    obtain ⟨b2, e2, y2, n2⟩ := no hb
    refine ⟨b2, e2, fun hb2 a _ => y2 hb2, fun hb2 => ?_⟩
    obtain ⟨b3, e3, y3, n3⟩ := n2 hb2
    refine ⟨b3, e3, fun hb3 a _ => ?_, fun hb3 => n3 hb3⟩
    obtain ⟨ec, dd, v, dat, ed, ea, rp, sz, q⟩ := y3 hb3
    obtain ⟨x, y, rfl⟩ : ∃ x y, σ' = [x, y] := by
      match σ', len with
      | [x, y], _ => exact ⟨x, y, rfl⟩
    refine ⟨_, rfl, rfl, ec, dd, v, ed, ea, v, dat, rfl, rp, _, _, rfl, rfl, ?_, q⟩
    have : ((("number " : String) : Str)).length = 7 := by decide
    omega
/-- _law_met(lambda: ..) -/
theorem pe_met {T : List (Addr × Str)} {q0 : Str} {g CW CO CN fE c P : Addr} {fd : FuncData} {k : Nat} {params : Arguments} {body : Expr} {scope : Scope} {t : XK → TE} {p lpos pos : Pos}
    (F : Fun X.K "_law_met" "_law_met" sMet g fd) (bM : L2.Binds X.K fd ["call"] []) (gd : X.A.guards = some []) (hr : Room (k + 2) X.A) (mp : X.mg "repr" = none)
    (N : XN X.K X.mg CN fE) (gW : X.mg "InvalidWeb" = some (.ref CW)) (gO : X.mg "InvalidOperation" = some (.ref CO)) (hg : Gl X "_law_met") (hm : X.mg "_law_met" = some (.ref g))
    (TB : TabB X.base X.mg c P) (hcode : X.env.code = .ref c) (hq : X.env.qual = q0) (hmT : (P, q0 ++ "<lambda>") ∈ T) (hT : ∀ p ∈ T, p.1 = P → p.2 = q0 ++ "<lambda>") (L : LamS X.env.scope scope) (hdef : defaultsOf params X.env = ([], []))
    (hbind : ∀ (q : Str) (cl : List (Str × Addr)) (pm cv ctv : Value), bindArgs (PySem.W.kla_fn "<lambda>" q params body scope cl pm cv ctv) ⟨[], []⟩ = pure [])
    (hbody : ∀ (A : Around) (outer : List Env) (s : Shared) (H : Hp) (E : XK) (f c' : Addr), Room k (A.deeper (lamEnv X scope s.heap.objs.size f c')) → PE (lamCx X A outer s H E scope f c') body (t E)) :
    PE X (.Call (.Name "_law_met" p) [.Lambda params body scope lpos] [] pos) (tLam T (TTmet X.K CW CO CN) t) := by
  subst hq
  obtain ⟨oc, od, kV, doc, pm, an, cdv, ct, osl, rfl, lk, hcd⟩ := F.ex
  exact pe_lamcall hg hm F.kp lk hcd bM scMet rfl (.inl rfl) (met_gives (k := k + 1) gd hr mp N gW gO) TB hcode hmT hT hr L hdef hbind hbody
/-- the same, within a comprehension -/
theorem pe_metK {K : PySem.W.Frag} {T : List (Addr × Str)} {q0 : Str} {g CW CO CN fE c P : Addr} {fd : FuncData} {k : Nat} {params : Arguments} {body : Expr} {scope : Scope} {t : XK → TE} {p lpos pos : Pos}
    (hK : X.K = K) (F : Fun K "_law_met" "_law_met" sMet g fd) (bM : L2.Binds K fd ["call"] []) (gd : X.A.guards = some []) (hr : Room (k + 2) X.A) (mp : X.mg "repr" = none)
    (N : XN K X.mg CN fE) (gW : X.mg "InvalidWeb" = some (.ref CW)) (gO : X.mg "InvalidOperation" = some (.ref CO)) (hg : Gl X "_law_met") (hm : X.mg "_law_met" = some (.ref g))
    (TB : TabB X.base X.mg c P) (hcode : X.env.code = .ref c) (hq : X.env.qual = q0) (hmT : (P, q0 ++ "<lambda>") ∈ T) (hT : ∀ p ∈ T, p.1 = P → p.2 = q0 ++ "<lambda>") (L : LamS X.env.scope scope) (hdef : defaultsOf params X.env = ([], []))
    (hbind : ∀ (q : Str) (cl : List (Str × Addr)) (pm cv ctv : Value), bindArgs (PySem.W.kla_fn "<lambda>" q params body scope cl pm cv ctv) ⟨[], []⟩ = pure [])
    (hbody : ∀ (A : Around) (outer : List Env) (s : Shared) (H : Hp) (E : XK) (f c' : Addr), Room k (A.deeper (lamEnv X scope s.heap.objs.size f c')) → PE (lamCx X A outer s H E scope f c') body (t E)) :
    PE X (.Call (.Name "_law_met" p) [.Lambda params body scope lpos] [] pos) (tLam T (TTmet K CW CO CN) t) := by
  subst hK
  exact pe_met F bM gd hr mp N gW gO hg hm TB hcode hq hmT hT L hdef hbind hbody
end
end K08

set_option maxHeartbeats 16000000
namespace K08
open PySem PySem.Spec PyProof.Rows L2 GG LamX
abbrev sFirst : Stmt := topS 21
abbrev sPlaceW : Stmt := topS 22
theorem scFirst : FnScope ["words", "found", "word"] ["words"] (defScope sFirst) := ⟨rfl, rfl, rfl, by decide +kernel, rfl, by decide +kernel, by decide +kernel⟩
theorem scPlaceW : FnScope ["value"] ["value"] (defScope sPlaceW) := ⟨rfl, rfl, rfl, by decide +kernel, rfl, by decide +kernel, by decide +kernel⟩
def firstW (ws : List Str) : Str := match ws.filter fun w => decide (w ≠ ("" : Str)) with
  | [] => ""
  | w :: _ => w
def placeW (d : PyData) : Str := if inV (.str d.shown) [.str "0", .str "1", .str "2", .str "3"] = true then "" else "number " ++ d.shown
def spFirst (K : PySem.W.Frag) : Sp := fun vs H Q _ => ∃ (a : Addr) (ws : List Str), vs = [.ref a] ∧ SqL K H a (ws.map V.str) ∧ ws.length ≤ 100 ∧ (∀ w ∈ ws, PyData.strOk w = true) ∧ ∀ H', Same H H' → Q (.str (firstW ws)) H'
def spPlaceW : Sp := fun vs H Q _ => ∃ (F : Addr → Prop) (v : V) (d : PyData), vs = [v] ∧ Dv F H v d ∧ showsD d = true ∧ ∀ H', Same H H' → Q (.str (placeW d)) H'
theorem strs_dp {K : PySem.W.Frag} {H : Hp} : ∀ ws : List Str, DpAll K H (ws.map V.str) (ws.map PyData.str)
  | [] => .nil
  | _ :: r => .cons (.str _) (strs_dp r)
theorem strs_flat : ∀ ws : List Str, (∀ w ∈ ws, PyData.strOk w = true) → PyData.depthAll (ws.map PyData.str) = 0 ∧ PyData.canLayAll0 (ws.map PyData.str) = true
  | [], _ => ⟨rfl, rfl⟩
  | f :: r, h => by
    obtain ⟨a, b⟩ := strs_flat r fun w hw => h w (List.mem_cons_of_mem _ hw)
    refine ⟨?_, ?_⟩
    · rw [List.map_cons, PyData.depthAll, a]
      rfl
    · rw [List.map_cons, PyData.canLayAll0, b, PyData.canLay0, h f List.mem_cons_self]
      rfl
theorem strs_shaped (ws : List Str) (h : ∀ w ∈ ws, PyData.strOk w = true) : SeqAt.shaped (.list (ws.map PyData.str)) = true := by
  obtain ⟨a, b⟩ := strs_flat ws h
  unfold SeqAt.shaped
  rw [PyData.canLay0, b, PyData.depth, a]
  rfl
theorem strs_eqv : ∀ ws zs : List Str, PyData.eqv (.list (ws.map PyData.str)) (.list (zs.map PyData.str)) = decide (ws = zs) := by
  have all : ∀ ws zs : List Str, PyData.eqvAll (ws.map PyData.str) (zs.map PyData.str) = decide (ws = zs) := by
    intro ws
    induction ws with
    | nil =>
      intro zs
      cases zs with
      | nil => rfl
      | cons z r => rfl
    | cons a r ih =>
      intro zs
      cases zs with
      | nil => rfl
      | cons z t =>
        rw [List.map_cons, List.map_cons, PyData.eqvAll, ih, PyData.eqv]
        by_cases h : a = z
        · by_cases e : r = t <;> simp [h, e]
        · simp [h]
  intro ws zs
  rw [PyData.eqv, all]
section
variable {P : Program} {w : World} {K : PySem.W.Frag} {mg : Str → Option Value} {base : Heap}
theorem ok_first {f : Addr} {fd : FuncData} {k : Nat} (F : Fun K "_law_first" "_law_first" sFirst f fd) : FnOk P w K mg base CX0 (k + 1) f fd ["words"] (spFirst K) := by
  refine F.ok scFirst (fun vs H Q E h => ?_) (fun cdv A outer s H vs Q E hr h => ?_)
  · obtain ⟨a, ws, rfl, _⟩ := h
    rfl
  · obtain ⟨a, ws, rfl, sq, few, oks, q⟩ := h
    have N := scFirst.nd
    have un := hr.units
    refine ⟨_, pss_cons (ps_setLc (i := 1) (own := [("word", 2)]) (g := gName 2) rfl N rfl rfl (sw_true rfl rfl rfl (by decide +kernel))
          (pi_list (pv 0)) (blkOk_by (own := [("word", 2)]) (N := ["words", "found", "word"]) (sc := defScope sFirst) (by decide +kernel))
          (fun _ _ _ _ _ => pg_name (i := 2) N rfl (Or.inl rfl)) (fun _ _ _ _ _ => pts_one (pt_cmpR op_ne (pv 2) pe_str (nomark _))) (fun _ _ _ _ _ => pv 2))
      (pss_one (ps_ret (pe_ifExp (pt_cmpR (op_neD un) (pv 1) (pe_lst pa_nil) (nomark _)) (pe_ix ix_list (pv 1) pe_int (fun _ _ => rfl)) pe_str))), ?_⟩
    refine ⟨.ref a, rfl, a, rfl, ⟨_, sq⟩, fun D nD => ?_⟩
    refine lc_list (a := a) (xs := ws.map V.str) (fun k H2 => Same H H2 ∧ H2 D = some (.lst (((ws.take k).filter fun w => decide (w ≠ ("" : Str))).map V.str))) ⟨sameUpd nD, upd_same⟩ (fun k H2 _ hP => seqL_same hP.1 sq) (fun k v H2 hv hP => ?_) (fun H2 hP => ?_)
    · obtain ⟨sm, hD⟩ := hP
      rw [List.getElem?_map] at hv
      obtain ⟨x, hx, rfl⟩ := Option.map_eq_some_iff.mp hv
      have fl : ((ws.take k).filter fun w => decide (w ≠ ("" : Str))).length ≤ 100 := Nat.le_trans (List.length_filter_le _ _) (by rw [List.length_take]; omega)
      have key : ((ws.take (k + 1)).filter fun w => decide (w ≠ ("" : Str))) = ((ws.take k).filter fun w => decide (w ≠ ("" : Str))) ++ ([x].filter fun w => decide (w ≠ ("" : Str))) := by
        rw [List.take_add_one, hx, List.filter_append]
        rfl
      refine ⟨rfl, _, rfl, rfl, _, rfl, ite2 (fun e => ?_) (fun e => ?_)⟩
      · have ne : x ≠ ("" : Str) := fun z => by
          subst z
          exact absurd e (by decide)
        refine ⟨_, rfl, _, hD, by rw [List.length_map]; exact small1000 (by omega), fun b o eb => ?_, ?_⟩
        · rw [upd_ne (ne_of_none eb nD)]
          exact sm b o eb
        · rw [upd_same, key, List.filter_cons_of_pos (by exact decide_eq_true ne), List.map_append]
          rfl
      · have ne : x = ("" : Str) := by
          refine Decidable.byContradiction fun z => e ?_
          have : V.str x ≠ V.str "" := fun q => z (by cases q; rfl)
          simpa using this
        refine ⟨sm, ?_⟩
        rw [hD, key, List.filter_cons_of_neg (by simpa using ne), List.filter_nil, List.append_nil]
    · obtain ⟨sm, hD⟩ := hP
      rw [List.length_map, List.take_length] at hD
      refine ⟨_, rfl, (by show 0 ≤ sizeLine; decide), fun p np => ?_⟩
      have hD2 := sameUpd (o := .lst []) np _ _ hD
      have s2 := sm.trans (sameUpd (o := .lst []) np)
      refine ⟨_, _, .lst (.of hD2) (strs_dp _), .lst (.of upd_same) (strs_dp []), strs_shaped _ (fun w hw => oks w (List.mem_filter.mp hw).1), strs_shaped [] (fun w hw => absurd hw List.not_mem_nil), _, rfl, ?_⟩
      rw [strs_eqv]
      have q2 := q _ s2
      unfold firstW at q2
      rcases e : ws.filter (fun w => decide (w ≠ ("" : Str))) with _ | ⟨x, r⟩
      · rw [e] at q2
        exact iteF q2
      · rw [e] at q2 hD2
        exact iteT ⟨.ref D, rfl, D, _, 0, _, rfl, rfl, .of hD2, (show atI (V.str x :: r.map V.str) ((0 : Nat) : Int) = some (V.str x) from atI_nat rfl), q2⟩
theorem ok_placew {f : Addr} {fd : FuncData} {k : Nat} (F : Fun K "_law_place_word" "_law_place_word" sPlaceW f fd) (mp : mg "repr" = none) : FnG P w K mg base CX0 (k + 1) f fd ["value"] spPlaceW := by
  refine fnG0 (k := k) F scPlaceW (fun vs H Q E h => ?_) (fun cdv A outer s H vs Q E gd hr h => ?_)
  · obtain ⟨F, v, d, rfl, _⟩ := h
    rfl
  · obtain ⟨F, v, d, rfl, dv, g, q⟩ := h
    have un := hr.units
    refine ⟨_, pss_one (ps_ret (pe_ifExp (pt_cmpR op_in_seq (pe_callB (call_reprR gd un) (by rfl) mp (by decide +kernel) (pa_cons (pv 0) pa_nil)) (pe_tup (pa_cons pe_str (pa_cons pe_str (pa_cons pe_str (pa_cons pe_str pa_nil))))) (by rfl)) pe_str
      (pe_op op_add_str pe_str (pe_callB (call_reprR gd un) (by rfl) mp (by decide +kernel) (pa_cons (pv 0) pa_nil))))), ?_⟩
    obtain ⟨rp, l⟩ := K08.Dv.rp (K := K) dv g
    refine ⟨v, rfl, v, d, rfl, rp, (by show 4 ≤ sizeLine; decide), fun p np => ?_⟩
    have s1 := sameUpd (o := .tup [.str "0", .str "1", .str "2", .str "3"]) np
    refine ⟨p, _, rfl, .inr (.inl (.inl upd_same)), rfl, rfl, _, rfl, ?_⟩
    have q2 := q _ s1
    unfold placeW at q2
    show if inV (.str d.shown) [.str "0", .str "1", .str "2", .str "3"] = true then _ else _
    rcases e : inV (.str d.shown) [.str "0", .str "1", .str "2", .str "3"] with _ | _
    · rw [if_neg (by rw [e]; decide)] at q2
      obtain ⟨rp2, _⟩ := K08.Dv.rp (K := K) (dv.same s1) g
      refine iteF ⟨v, rfl, v, d, rfl, rp2, _, _, rfl, rfl, ?_, q2⟩
      have : ((("number " : String) : Str)).length = 7 := by decide
      rw [sizeLine_eq]
      omega
    · rw [if_pos e] at q2
      exact iteT q2
end
end K08

set_option maxHeartbeats 2000000
namespace K08
open PySem PySem.Spec PyProof.Rows L2 GG LamX
abbrev sRR : Stmt := topS 23
theorem scRR : FnScope ["dice", "odd", "rows"] ["dice"] (defScope sRR) := ⟨rfl, rfl, rfl, by decide +kernel, rfl, by decide +kernel, by decide +kernel⟩
abbrev qRR : Str := ("_law_rows_right" : Str) ++ ".<locals>." ++ "<lambda>"
def fnVal : Expr → Expr
  | e => e
/-- the written lists -/
def asgVal : Stmt → Expr
  | .Assign _ v _ => v
  | _ => .Name "" ⟨0, 0, 0, 0⟩
def oddR1 : List PyData := [.none, .int 0, .tuple [], .list [.tuple [.int 0]], .str "0", .tuple [.tuple [.int 1]], .tuple [.tuple [.int 0, .int 0]], .tuple [.tuple [.int 0], .tuple [.int 2]], .tuple [.tuple [.int 1, .int 0], .tuple []]]
def oddR2 : List PyData := [.tuple [.tuple [.int (-1)]], .tuple [.tuple [.bool true]], .tuple [.none], .tuple [.dict []], .tuple [.tuple [.int 0], .list [.int 1]], .tuple [.tuple [.int 0], .int 1], .tuple [.tuple [.str "0"]], .dict []]
def oddR3 : List PyData := [.tuple [.tuple [.int 0], .tuple [.int (10 ^ 60)]], .tuple [.tuple [.tuple [.int 0]]], .tuple [.tuple [.int 0, .none]], .tuple [.tuple [.int 1, .int 1], .tuple [.int 0]]]
def fineR : List PyData := [.tuple [.tuple []], .tuple [.tuple [.int 0]], .tuple [.tuple [.int 0, .int 1], .tuple [.int 0, .int 1]]]
theorem oddR_bad : ∀ d ∈ oddR1 ++ oddR2 ++ oddR3, thin2 d = true ∧ rowsB d = false := by decide +kernel
theorem fineR_good : ∀ d ∈ fineR, thin2 d = true ∧ rowsB d = true := by decide +kernel
def spRR (T : List (Addr × Str)) : Sp := fun vs H Q _ => ∃ l, vs = [.ref l] ∧ Dice H l ∧ Tabs T H ∧ ∀ H', ExtP l H H' → Dice H' l → Tabs T H' → Q (.bl true) H'
section
variable {P : Program} {w : World} {K : PySem.W.Frag} {mg : Str → Option Value} {base : Heap}
theorem ok_rr {f fM fK fI C CW CO CN fE c HK : Addr} {T : List (Addr × Str)} {fdM fdK fdI : FuncData} {oc : Value} {od an : Option Addr} {osl : Array (Option Value)} {kV doc pm ct : Value}
    (lk : K.lookup f = some ⟨oc, od, .func (PySem.W.fnOf "_law_rows_right" "_law_rows_right" (defArgs sRR) (defBody sRR) (defScope sRR) .none kV doc pm an (.ref c) ct), osl⟩)
    (hcd : PySem.W.codeIn K (.ref c) "_law_rows_right" = true) (TB : TabB base mg c HK) (hmT : (HK, qRR) ∈ T) (hT : ∀ p ∈ T, p.1 = HK → p.2 = qRR)
    (FM : Fun K "_law_met" "_law_met" sMet fM fdM) (bM : Binds K fdM ["call"] []) (bK : Binds K fdK ["dice", "items"] []) (bI : Binds K fdI ["self", "rows"] []) (W : WebC K C)
    (GK : FnOk P w K mg base CX0 2 fK fdK ["dice", "items"] (spPick K)) (M : Mk K C fI) (GI : FnOk P w K mg base (L2.CX P w) 5 fI fdI ["self", "rows"] (spXInit K C CW))
    (gM : mg "_law_met" = some (.ref fM)) (gK : mg "_law_pick" = some (.ref fK)) (kK : PySem.W.keepIn K (.ref fK) = true) (gW : mg "Web" = some (.ref C))
    (N' : XN K mg CN fE) (gCW : mg "InvalidWeb" = some (.ref CW)) (gCO : mg "InvalidOperation" = some (.ref CO)) (Ex : Exm K CW CO CN) (mp : mg "repr" = none) :
    FnG P w K mg base CX0 9 f (PySem.W.fnOf "_law_rows_right" "_law_rows_right" (defArgs sRR) (defBody sRR) (defScope sRR) .none kV doc pm an (.ref c) ct) ["dice"] (spRR T) := by
  refine fnG_lk (k := 8) lk hcd scRR (fun vs H Q E h => ?_) (fun A outer s H vs Q E gd hr h => ?_)
  · obtain ⟨l, rfl, _⟩ := h
    rfl
  · obtain ⟨l, rfl, dl, tb, q⟩ := h
    have un := hr.units
    have N := scRR.nd
    refine ⟨_, PSs.nox (pss_cons (ps_set (i := 1) N rfl (.inr rfl) (pe_lit _ (.list oddR1) (by kernel_rfl)))
      (pss_cons (ps_set (i := 1) N rfl (.inr rfl) (pe_op op_cat (pv 1) (pe_lit _ (.list oddR2) (by kernel_rfl))))
      (pss_cons (ps_set (i := 1) N rfl (.inr rfl) (pe_op op_cat (pv 1) (pe_lit _ (.list oddR3) (by kernel_rfl))))
      (pss_cons (ps_if (pt_cmpR op_ne (pe_met (T := T) FM bM gd (k := 6) hr mp N' gCW gCO (by rfl) gM TB rfl (q0 := ("_law_rows_right" : Str) ++ ".<locals>.") rfl hmT hT (lamS_by (by kernel_rfl)) rfl (fun _ _ _ _ _ => rfl)
            (fun A outer s H E f c' hr' => pe_make M GI hr' (by rfl) gW bI .nil (passes_call (takes_of rfl rfl rfl rfl) fun _ _ _ _ h => h) (pa_cons (pe_call GK (hr'.mono (by decide)) (by rfl) gK kK bK .nil pass0 (pa_cons (pv 0) (pa_cons (pv 1) pa_nil))) pa_nil))) pe_str (nomark _))
          (pss_one (ps_ret pe_bl)) pss_nil)
      (pss_one (ps_ret (pe_cmpR (op_eqD un)
        (pe_lc (own := [("rows", 2)]) (g := gName 2) (tt := tYes) rfl N (pi_tup (pe_lit _ (.tuple fineR) (by kernel_rfl)))
          (blkOk_by (own := [("rows", 2)]) (N := ["dice", "odd", "rows"]) (sc := defScope sRR) (by decide +kernel))
          (fun _ _ _ _ _ => pg_name (i := 2) N rfl (Or.inr rfl)) (fun _ _ _ _ _ => pts_nil)
          (fun _ _ _ _ _ => pe_metK (K := K) (T := T) rfl FM bM gd (k := 6) hr mp N' gCW gCO (by rfl) gM TB rfl (q0 := ("_law_rows_right" : Str) ++ ".<locals>.") rfl hmT hT (lamS_by (by kernel_rfl)) rfl (fun _ _ _ _ _ => rfl)
            (fun A outer s H E f c' hr' => pe_make M GI hr' (by rfl) gW bI .nil (passes_call (takes_of rfl rfl rfl rfl) fun _ _ _ _ h => h) (pa_cons (pv 2) pa_nil))))
        (pe_op op_rep (pe_lst (pa_cons pe_str pa_nil)) pe_int) (nomark _)))))))), ?_⟩
    obtain ⟨xl, hl⟩ := K08.Dice.lst dl
    refine fun v1 H1 s1 dv1 => ?_
    cases dv1 with
    | @lst a1 xs1 _ f1 e1 r1 =>
    refine ⟨_, rfl, fun v2 H2 s2 dv2 => ?_⟩
    cases dv2 with
    | @lst a2 xs2 _ f2 e2 r2 =>
    have n1 := K08.DvAll.ofNew r1 hl
    have n2 := K08.DvAll.ofNew r2 (s1 _ _ hl)
    have l1 : xs1.length = 9 := r1.len
    have l2 : xs2.length = 8 := r2.len
    refine ⟨a1, a2, _, _, rfl, rfl, s2 _ _ e1, e2, by rw [l1, l2]; show 17 ≤ sizeLine; decide, fun p np => ?_⟩
    have s3 := sameUpd (o := .lst (xs1 ++ xs2)) np
    have m3 : DvAll (· ≠ l) (upd H2 p (.lst (xs1 ++ xs2))) (xs1 ++ xs2) (oddR1 ++ oddR2) := ((n1.same s2).append n2).same s3
    have t3 := (s1.trans s2).trans s3
    refine ⟨_, rfl, fun v3 H4 s4 dv3 => ?_⟩
    cases dv3 with
    | @lst a3 xs3 _ f3 e3 r3 =>
    have n3 := K08.DvAll.ofNew r3 (t3 _ _ hl)
    have l3 : xs3.length = 4 := r3.len
    refine ⟨p, a3, _, _, rfl, rfl, s4 _ _ upd_same, e3, by rw [List.length_append, l1, l2, l3]; show 21 ≤ sizeLine; decide, fun p2 np2 => ?_⟩
    have s5 := sameUpd (o := .lst (xs1 ++ xs2 ++ xs3)) np2
    have m5 : DvAll (· ≠ l) (upd H4 p2 (.lst (xs1 ++ xs2 ++ xs3))) (xs1 ++ xs2 ++ xs3) (oddR1 ++ oddR2 ++ oddR3) := ((m3.same s4).append n3).same s5
    have t5 := (t3.trans s4).trans s5
    have tb5 := tb.ext t5
    have ne : p2 ≠ l := fun z => by
      subst z
      rw [(t3.trans s4) _ _ hl] at np2
      cases np2
    refine ⟨tb5, fun H6 e6 t6 => ?_⟩
    have d6 : Dice H6 l := by
      obtain ⟨a, b, c, h, n⟩ := dl
      exact ⟨a, b, c, e6 _ _ (t5 _ _ h) (fun ps z => by cases z), n⟩
    have m6 := K08.DvAll.ext m5 e6
    have h6 : H6 p2 = some (.lst (xs1 ++ xs2 ++ xs3)) := e6 _ _ upd_same (fun ps z => by cases z)
    have lx : (xs1 ++ xs2 ++ xs3).length = 21 := by rw [List.length_append, List.length_append, l1, l2, l3]
    refine ⟨_, rfl, _, rfl, l, p2, _, rfl, d6, ne, .inl (.of h6), by rw [lx]; decide, by rw [lx]; decide, fun H7 j v b7 d7 hv => ?_⟩
    obtain ⟨d, hd, dv⟩ := (m6.but b7).get hv
    obtain ⟨th, bad⟩ := oddR_bad d (List.mem_of_getElem? hd)
    obtain ⟨xl6, hl6⟩ := K08.Dice.lst d6
    have t7 := K08.Tabs.but t6 hl6 b7
    have p7 : ExtP l H H7 := ((ExtP.of t5).trans (ExtP.ofN e6)).trans (ExtP.ofBut b7)
    refine fun x dx nx ndx ndx2 => ?_
    have s8 : Same H7 (upd (upd H7 dx (.own x)) x (.ins C dx [])) := fun b o e => by
      rw [upd_ne (ne_of_none e nx), upd_ne (ne_of_none e ndx)]
      exact e
    refine ⟨x, dx, v, false, rfl, upd_same, by rw [← bad]; exact rows_ans (dv.same s8) th, fun z => (by cases z), fun _ => EMet.web Ex fun H9 s9 => ?_⟩
    have s10 := s8.trans s9
    have t9 := t7.ext s10
    have d9 : Dice H9 l := by
      obtain ⟨a, b, c, h, n⟩ := d7
      exact ⟨a, b, c, s10 _ _ h, n⟩
    have p9 := p7.trans (ExtP.of s10)
    refine ⟨rfl, _, rfl, iteFo (neS rfl) ?_⟩
    obtain ⟨xl9, hl9⟩ := K08.Dice.lst d9
    refine fun v4 H10 s11 dv4 => ?_
    cases dv4 with
    | @tup a4 xs4 _ f4 e4 r4 =>
    have n4 := K08.DvAll.ofNew r4 hl9
    have l4 : xs4.length = 3 := r4.len
    refine ⟨a4, rfl, ⟨_, .inl (.inl e4)⟩, fun D nD => ?_⟩
    have na4 : a4 ≠ l := fun z => by
      subst z
      rw [hl9] at f4
      cases f4
    have nDl : D ≠ l := fun z => by
      subst z
      rw [s11 _ _ hl9] at nD
      cases nD
    refine lc_tup (K := K) (a := a4) (xs := xs4) (fun k H11 => ExtP l H H11 ∧ Dice H11 l ∧ Tabs T H11 ∧ DvAll (fun a => a ≠ l ∧ a ≠ D) H11 xs4 fineR ∧ H11 a4 = some (.tup xs4) ∧ H11 D = some (.lst (List.replicate k (.str "")))) ?_ (fun k H11 _ hP => .inl (.inl hP.2.2.2.2.1)) (fun k v H11 hv hP => ?_) (fun H11 hP => ?_)
    · have s12 := s11.trans (sameUpd (o := .lst []) nD)
      refine ⟨p9.trans (ExtP.of s12), ?_, t9.ext s12, GG.DvAll.move (fun a o f e => ⟨f, ne_of_none e nD⟩) (fun a o _ _ e => sameUpd nD _ _ e) _ _ n4, by rw [upd_ne (ne_of_none e4 nD)]; exact e4, upd_same⟩
      obtain ⟨a, b, c, h, n⟩ := d9
      exact ⟨a, b, c, s12 _ _ h, n⟩
    · obtain ⟨pp, dd, tt, mm, aa, hD⟩ := hP
      refine ⟨rfl, tt, fun H12 e12 t12 => ?_⟩
      have mm2 := K08.DvAll.ext mm e12
      obtain ⟨d, hd, dv⟩ := mm2.get hv
      obtain ⟨th, fine⟩ := fineR_good d (List.mem_of_getElem? hd)
      refine ⟨_, rfl, fun x dx nx ndx ndx2 => ?_⟩
      have s13 : Same H12 (upd (upd H12 dx (.own x)) x (.ins C dx [])) := fun b o e => by
        rw [upd_ne (ne_of_none e nx), upd_ne (ne_of_none e ndx)]
        exact e
      refine ⟨x, dx, v, true, rfl, upd_same, by rw [← fine]; exact rows_ans (dv.same s13) th, fun _ H14 b14 hx => ⟨rfl, ?_⟩, fun z => (by cases z)⟩
      have s14 : Same H12 H14 := fun b o e => b14 b o (ne_of_none e nx) (s13 b o e)
      have e14 : ExtN H11 H14 := e12.trans (ExtN.of s14)
      have hD14 := e14 _ _ hD (fun ps z => by cases z)
      have kl : k < 3 := by
        have := (List.getElem?_eq_some_iff.mp hv).1
        omega
      refine ⟨_, hD14, by rw [List.length_replicate]; exact small1000 (by omega), fun b o nb nt e => ?_, ?_, ?_, ?_, ?_, ?_⟩
      · have nDb : b ≠ D := fun z => by
          subst z
          have := s11 _ _ (p9 _ _ nb nt e)
          rw [nD] at this
          cases this
        rw [upd_ne nDb]
        exact e14 _ _ (pp b o nb nt e) nt
      · obtain ⟨a, b, c, h, n⟩ := dd
        exact ⟨a, b, c, by rw [upd_ne nDl.symm]; exact e14 _ _ h (fun ps z => by cases z), n⟩
      · exact K08.Tabs.put (t12.ext s14) hD14 _
      · exact GG.DvAll.move (fun a o f e => f) (fun a o f _ e => by rw [upd_ne f.2]; exact e) _ _ (mm2.same s14)
      · rw [upd_ne (fun z => by rw [z, hD] at aa; cases aa)]
        exact e14 _ _ aa (fun ps z => by cases z)
      · rw [upd_same, List.replicate_succ']
    · obtain ⟨pp, dd, tt, mm, aa, hD⟩ := hP
      rw [l4] at hD
      refine ⟨(by show 1 ≤ sizeLine; decide), fun p3 np3 => ⟨p3, 3, _, rfl, rfl, upd_same, by decide, by decide, (by show 3 ≤ sizeLine; decide), fun p4 np4 => ?_⟩⟩
      have s13 := (sameUpd (o := .lst [.str ""]) np3).trans (sameUpd (o := .lst (List.replicate (3 : Int).toNat [V.str ""]).flatten) np4)
      have okE : ∀ w ∈ [("" : Str), "", ""], PyData.strOk w = true := by decide +kernel
      refine ⟨_, _, .lst (.of (s13 _ _ hD)) (strs_dp ["", "", ""]), .lst (.of upd_same) (strs_dp ["", "", ""]), strs_shaped _ okE, strs_shaped _ okE, ?_⟩
      rw [strs_eqv, decide_eq_true rfl]
      refine q _ (pp.trans (ExtP.of s13)) ?_ (tt.ext s13)
      obtain ⟨a, b, c, h, n⟩ := dd
      exact ⟨a, b, c, s13 _ _ h, n⟩
end
end K08

set_option maxHeartbeats 16000000
namespace K08
open PySem PySem.Spec PyProof.Rows L2 GG LamX
def four : List (List Nat) := [[0, 1], [2, 3], [0, 1], [2, 3]]
theorem four_ok : WebOk four := ⟨by decide, by decide, by decide, by decide⟩
def oddP : List PyData := [.int 4, .int (-1), .none, .bool true, .str "0", .tuple [.int 0], .list [], .dict [], .int (10 ^ 60)]
def base3 : List PyData := [.int 0, .int 1, .int 3]
def fineW : List PyData := [.tuple [], .tuple [.int 0], .tuple [.int 1, .int 3], .tuple [.int 0, .int 1, .int 2, .int 3]]
def oddW : List PyData := [.none, .int 0, .list [.int 0], .tuple [.int 1, .int 0], .tuple [.int 0, .int 0], .tuple [.int 4], .tuple [.int (-1)], .str "01", .tuple [.none], .tuple [.bool true], .dict [], .tuple [.tuple [.int 0]]]
def wrongN : List PyData := [.none, .tuple [], .tuple [.int 0, .int 1, .int 2], .list [.int 0, .int 1, .int 2, .int 3], .tuple [.int 0, .int 1, .int 2, .int 2], .tuple [.int 0, .int 1, .int 2, .int 4], .tuple [.int 0, .int 1, .int 2, .int 3, .int 4]]
def fineN : List PyData := [.tuple [.int 0, .int 1, .int 2, .int 3], .tuple [.int 3, .int 1, .int 0, .int 2]]
def oddN : List PyData := [.tuple [.int 0, .bool true, .int 2, .int 3], .str "0123", .dict [], .int 4, .tuple [.none, .none, .none, .none], .tuple [.tuple [.int 0, .int 1, .int 2, .int 3]]]
/-! ### what is told of each pick -/
abbrev fourN : Int := ((four.length : Nat) : Int)
def tieD (d1 d2 : PyData) : Bool := decide ((toI d2).toNat ∈ four.getD (toI d1).toNat [])
def outT (neg : Bool) (d1 d2 : PyData) : Str := if inD fourN d1 = true then (if inD fourN d2 = true then (if (tieD d1 d2 != neg) = true then "operation" else "") else "number " ++ d2.shown) else "number " ++ d1.shown
def outR (d1 d : PyData) : Str := if inD fourN d1 = true then (if rowB fourN d = true then "" else "operation") else "number " ++ d1.shown
def isNil : PyData → Bool
  | .tuple [] => true
  | _ => false
def outA (d : PyData) : Str := if rowB fourN d = true then (if isNil d = true then "operation" else "") else "operation"
def outG (d : PyData) : Str := if inD fourN d = true then "" else "number " ++ d.shown
def arrD (many : Int) : PyData → Bool
  | .tuple ds => ds.all intD && decide ((ds.map toI).Perm (places many))
  | _ => false
def outN (d : PyData) : Str := if arrD fourN d = true then "" else "operation"
def LP : List PyData := (List.replicate 3 base3).flatten ++ oddP
def LW : List PyData := (List.replicate 2 fineW).flatten ++ oddW
def LN : List PyData := fineN ++ wrongN
def twoB (d1 d2 : PyData) : Bool := decide ([placeW d1, placeW d2] = [("" : Str), ""])
def tieB (d1 d2 : PyData) : Bool := twoB d1 d2 && (inD fourN d1 && (inD fourN d2 && tieD d1 d2))
def late1 (d1 d2 : PyData) : Str := if tieB d1 d2 = true then "operation" else ""
def late2 (d1 d2 : PyData) : Str := if (twoB d1 d2 && !tieB d1 d2) = true then "operation" else ""
def lateR (d : PyData) : Str := if inV (.str d.shown) (fineW.map fun s => .str s.shown) = true then "" else "operation"
def lateA (d : PyData) : Str := if inV (.str d.shown) ((fineW.drop 1).map fun s => .str s.shown) = true then "" else "operation"
def dueN (d : PyData) : Str := if inV (.str d.shown) [.str "(0, 1, 2, 3)", .str "(3, 1, 0, 2)"] = true then "" else "operation"
theorem fact1 : ∀ d ∈ LP, showsD d = true ∧ PyData.strOk (placeW d) = true ∧ outG d = placeW d := by decide +kernel
theorem fact2 : ∀ d1 ∈ LP, ∀ d2 ∈ LP, outT false d1 d2 = firstW [placeW d1, placeW d2, late1 d1 d2] ∧ outT true d1 d2 = firstW [placeW d1, placeW d2, late2 d1 d2] := by decide +kernel
theorem fact3 : ∀ d ∈ LW, thin1 d = true ∧ showsD d = true ∧ outA d = lateA d := by decide +kernel
theorem fact4 : ∀ d1 ∈ LP, ∀ d ∈ LW, outR d1 d = firstW [placeW d1, lateR d] := by decide +kernel
theorem fact5 : ∀ d ∈ LN, thin1 d = true ∧ showsD d = true ∧ outN d = dueN d := by decide +kernel
theorem fact6 : ∀ d ∈ oddN, thin1 d = true ∧ outN d = "operation" := by decide +kernel
theorem okLate : PyData.strOk "" = true ∧ PyData.strOk "operation" = true := by decide +kernel
end K08

set_option maxHeartbeats 16000000
namespace K08
open PySem PySem.Spec PyProof.Rows L2 GG LamX
/-! ### the promises, not to be looked into -/
@[irreducible] def iTie (K : PySem.W.Frag) (C CN CO : Addr) (neg : Bool) : Sp := spXTie K C CN CO neg
@[irreducible] def iRow (K : PySem.W.Frag) (C CN CO : Addr) : Sp := spXRow K C CN CO
@[irreducible] def iPart (K : PySem.W.Frag) (C CO : Addr) : Sp := spXPart K C CO
@[irreducible] def iGet (K : PySem.W.Frag) (C CN : Addr) : Sp := spXGet K C CN
@[irreducible] def iRen (K : PySem.W.Frag) (C CO : Addr) : Sp := spXRen K C CO
section
variable {P : Program} {w : World} {K : PySem.W.Frag} {mg : Str → Option Value} {base : Heap} {CX : CXT} {k : Nat} {f C CN CO : Addr} {fd : FuncData} {ps : List Str}
theorem toTie {neg : Bool} (F : FnOk P w K mg base CX k f fd ps (spXTie K C CN CO neg)) : FnOk P w K mg base CX k f fd ps (iTie K C CN CO neg) := FnOk.weak F fun _ _ _ _ q => by
  unfold iTie at q
  exact q
theorem toRow (F : FnOk P w K mg base CX k f fd ps (spXRow K C CN CO)) : FnOk P w K mg base CX k f fd ps (iRow K C CN CO) := FnOk.weak F fun _ _ _ _ q => by
  unfold iRow at q
  exact q
theorem toPart (F : FnOk P w K mg base CX k f fd ps (spXPart K C CO)) : FnOk P w K mg base CX k f fd ps (iPart K C CO) := FnOk.weak F fun _ _ _ _ q => by
  unfold iPart at q
  exact q
theorem toGet (F : FnOk P w K mg base CX k f fd ps (spXGet K C CN)) : FnOk P w K mg base CX k f fd ps (iGet K C CN) := FnOk.weak F fun _ _ _ _ q => by
  unfold iGet at q
  exact q
theorem toRen (F : FnOk P w K mg base CX k f fd ps (spXRen K C CO)) : FnOk P w K mg base CX k f fd ps (iRen K C CO) := FnOk.weak F fun _ _ _ _ q => by
  unfold iRen at q
  exact q
end
theorem dv_int {F : Addr → Prop} {H : Hp} {n : Int} {d : PyData} (h : Dv F H (.int n) d) : d = .int n := by
  cases h
  rfl
theorem asc_nat {many : Nat} {ns : List Int} (items : ∀ n ∈ ns, 0 ≤ n ∧ n < (many : Int)) (e : ascI ns = true) : (ns.map Int.toNat).map (fun k : Nat => (k : Int)) = ns ∧ (ns.map Int.toNat).Pairwise (· < ·) ∧ ∀ n ∈ ns.map Int.toNat, n < many := by
  refine ⟨?_, ?_, fun n hn => ?_⟩
  · rw [List.map_map]
    exact (List.map_congr_left fun n hn => Int.toNat_of_nonneg (items n hn).1).trans (List.map_id _)
  · rw [List.pairwise_iff_getElem]
    have asc : ∀ (d i : Nat) (h1 : i + 1 + d < ns.length), ns[i]'(by omega) < ns[i + 1 + d] := by
      intro d
      induction d with
      | zero =>
        intro i h1
        unfold ascI at e
        have := of_decide_eq_true (List.all_eq_true.mp e i (List.mem_range.mpr (by omega)))
        rw [List.getD_eq_getElem?_getD, List.getD_eq_getElem?_getD, List.getElem?_eq_getElem (by omega), List.getElem?_eq_getElem (by omega)] at this
        exact this
      | succ d ih =>
        intro i h1
        have a1 := ih i (by omega)
        unfold ascI at e
        have := of_decide_eq_true (List.all_eq_true.mp e (i + 1 + d) (List.mem_range.mpr (by omega)))
        rw [List.getD_eq_getElem?_getD, List.getD_eq_getElem?_getD, List.getElem?_eq_getElem (by omega), List.getElem?_eq_getElem (by omega)] at this
        exact Int.lt_trans a1 this
    intro i j hi hj ij
    rw [List.length_map] at hi hj
    have := asc (j - i - 1) i (by omega)
    have e2 : i + 1 + (j - i - 1) = j := by omega
    rw [List.getElem_map, List.getElem_map]
    have n1 := (items _ (List.getElem_mem hi)).1
    simp only [e2] at this
    omega
  · obtain ⟨m, hm, rfl⟩ := List.mem_map.mp hn
    have := items m hm
    omega
theorem row_dv {K : PySem.W.Frag} {F : Addr → Prop} {H : Hp} {v : V} {d : PyData} {many : Nat} (h : Dv F H v d) (b : rowB (many : Int) d = true) :
    ∃ (a : Addr) (ns : List Nat), v = .ref a ∧ SqT K H a (ns.map vN) ∧ ns.Pairwise (· < ·) ∧ (∀ k ∈ ns, k < many) ∧ (ns = [] ↔ isNil d = true) := by
  cases d with
  | tuple ds =>
    cases h with
    | @tup a xs _ f e r =>
      have b' : (ds.all (inD many) && ascI (ds.map toI)) = true := b
      rw [Bool.and_eq_true] at b'
      obtain ⟨e1, e2⟩ := r.ints b'.1
      obtain ⟨c1, c2, c3⟩ := asc_nat e2 b'.2
      refine ⟨a, (ds.map toI).map Int.toNat, rfl, ?_, c2, c3, ?_⟩
      · rw [mapN, c1, ← e1]
        exact .inl (.inl e)
      · cases ds with
        | nil => exact ⟨fun _ => rfl, fun _ => rfl⟩
        | cons x r => exact ⟨fun z => (by cases z), fun z => (by cases z)⟩
  | _ => cases b
theorem arr_dv {K : PySem.W.Frag} {F : Addr → Prop} {H : Hp} {v : V} {d : PyData} {many : Int} (h : Dv F H v d) (t : thin1 d = true) : ArrAns K H many v (arrD many d) := by
  by_cases z : ∃ ds, d = .tuple ds
  · obtain ⟨ds, rfl⟩ := z
    have ty := h.ty (K := K)
    cases h with
    | @tup a xs _ f e r =>
      have sq : SqT K H a xs := .inl (.inl e)
      have l : xs.length ≤ 1000 := by rw [r.len]; exact of_decide_eq_true t
      rcases g : ds.all intD with _ | _
      · exact .inr (.inl ⟨a, xs, rfl, sq, ty, l, r.items, r.badI g, by show (ds.all intD && _) = false; rw [g, Bool.false_and]⟩)
      · obtain ⟨e1, e2⟩ := r.intsOk g
        refine .inr (.inr ⟨a, ds.map toI, rfl, by rw [← e1]; exact sq, ty, by rw [List.length_map, ← r.len]; exact l, e2, ?_⟩)
        show (ds.all intD && decide _) = true ↔ _
        rw [g, Bool.true_and, decide_eq_true_eq]
  · have e : arrD many d = false := by
      cases d with
      | tuple ds => exact absurd ⟨ds, rfl⟩ z
      | _ => rfl
    rw [e]
    exact .inl ⟨not_tuple h (fun ds q => z ⟨ds, q⟩), rfl⟩
section
variable {K : PySem.W.Frag} {C CW CO CN w : Addr} {H : Hp} {F : Addr → Prop} {v v1 v2 : V} {d d1 d2 : PyData} {Q : VK}
theorem met_tie (neg : Bool) {R : VK} (hR : ∀ v H', Q (.str "") H' → R v H') (Ex : Exm K CW CO CN) (wa : WebAt K H C w four) (dv1 : Dv F H v1 d1) (dv2 : Dv F H v2 d2) (g1 : showsD d1 = true) (g2 : showsD d2 = true) (q : ∀ H', Same H H' → Q (.str (outT neg d1 d2)) H') :
    iTie K C CN CO neg [.ref w, v1, v2] H R (EMet K CW CO CN Q) := by
  unfold iTie
  refine ⟨w, v1, v2, four, inD fourN d1, inD fourN d2, rfl, wa, four_ok, place_ans dv1, place_ans dv2, fun e => EMet.num Ex dv1 g1 fun H' s => ?_, fun e1 e2 => EMet.num Ex dv2 g2 fun H' s => ?_, fun e1 e2 n1 n2 row en1 en2 l1 l2 hr => ?_⟩
  · have := q H' s
    unfold outT at this
    rw [e] at this
    exact this
  · have := q H' s
    unfold outT at this
    rw [e1, e2] at this
    exact this
  · subst en1
    subst en2
    have h1 := dv_int dv1
    have h2 := dv_int dv2
    subst h1
    subst h2
    have et : tieD (.int (n1 : Int)) (.int (n2 : Int)) = decide (n2 ∈ row) := by
      unfold tieD toI
      rw [Int.toNat_natCast, Int.toNat_natCast, List.getD_eq_getElem?_getD, hr]
      rfl
    refine ⟨fun z => EMet.op Ex fun H' s => ?_, fun z row' w' H' _ _ s _ _ _ => ?_⟩
    · have := q H' s
      unfold outT at this
      rw [e1, e2, et, z] at this
      exact this
    · have := q H' s
      unfold outT at this
      rw [e1, e2, et, z] at this
      exact hR _ _ this
theorem met_row {R : VK} (hR : ∀ v H', Q (.str "") H' → R v H') (Ex : Exm K CW CO CN) (wa : WebAt K H C w four) (dv1 : Dv F H v1 d1) (dv : Dv F H v d) (g1 : showsD d1 = true) (t : thin1 d = true) (q : ∀ H', Same H H' → Q (.str (outR d1 d)) H') :
    iRow K C CN CO [.ref w, v1, v] H R (EMet K CW CO CN Q) := by
  unfold iRow
  refine ⟨w, v1, v, four, inD fourN d1, rowB fourN d, rfl, wa, four_ok, place_ans dv1, row_ans dv t, fun e1 e2 => ?_, fun e => EMet.num Ex dv1 g1 fun H' s => ?_, fun e1 e2 => EMet.op Ex fun H' s => ?_⟩
  · obtain ⟨a, ns, rfl, sq, asc, inn, _⟩ := row_dv (K := K) (many := four.length) dv e2
    refine ⟨a, ns, rfl, sq, asc, inn, fun n w' H' _ _ s _ _ _ => ?_⟩
    have := q H' s
    unfold outR at this
    rw [e1, e2] at this
    exact hR _ _ this
  · have := q H' s
    unfold outR at this
    rw [e] at this
    exact this
  · have := q H' s
    unfold outR at this
    rw [e1, e2] at this
    exact this
theorem met_part {R : VK} (hR : ∀ v H', Q (.str "") H' → R v H') (Ex : Exm K CW CO CN) (wa : WebAt K H C w four) (dv : Dv F H v d) (t : thin1 d = true) (q : ∀ H', Same H H' → Q (.str (outA d)) H') :
    iPart K C CO [.ref w, v] H R (EMet K CW CO CN Q) := by
  unfold iPart
  refine ⟨w, v, four, rowB fourN d, rfl, wa, four_ok, row_ans dv t, fun e => EMet.op Ex fun H' s => ?_, fun e => ?_⟩
  · have := q H' s
    unfold outA at this
    rw [e] at this
    exact this
  · obtain ⟨a, ns, rfl, sq, asc, inn, nil⟩ := row_dv (K := K) (many := four.length) dv e
    refine ⟨a, ns, rfl, sq, asc, inn, fun z => EMet.op Ex fun H' s => ?_, fun z w' H' s _ _ _ => ?_⟩
    · have := q H' s
      unfold outA at this
      rw [e, nil.mp z] at this
      exact this
    · have nn : isNil d = false := by
        rcases g : isNil d with _ | _
        · rfl
        · exact absurd (nil.mpr g) z
      have := q H' s
      unfold outA at this
      rw [e, nn] at this
      exact hR _ _ this
theorem met_get {R : VK} (hR : ∀ v H', Q (.str "") H' → R v H') (Ex : Exm K CW CO CN) {dx r : Addr} {as : List Addr} {ld : V} (hw : H w = some (.ins C dx [("_rows", .ref r), ("_lone_depth", ld)])) (hrw : RowsT K H r as four) (dv : Dv F H v d) (g : showsD d = true) (q : ∀ H', Same H H' → Q (.str (outG d)) H') :
    iGet K C CN [.ref w, v] H R (EMet K CW CO CN Q) := by
  unfold iGet
  refine ⟨w, dx, r, as, ld, v, four, inD fourN d, rfl, hw, hrw, place_ans dv, fun e n a _ _ => ?_, fun e => EMet.num Ex dv g fun H' s => ?_⟩
  · have := q H (.refl H)
    unfold outG at this
    rw [e] at this
    exact hR _ _ this
  · have := q H' s
    unfold outG at this
    rw [e] at this
    exact this
theorem met_ren {R : VK} (hR : ∀ v H', Q (.str "") H' → R v H') (Ex : Exm K CW CO CN) (wa : WebAt K H C w four) (dv : Dv F H v d) (t : thin1 d = true) (q : ∀ H', Same H H' → Q (.str (outN d)) H') :
    iRen K C CO [.ref w, v] H R (EMet K CW CO CN Q) := by
  unfold iRen
  have ans : ArrAns K H fourN v (arrD fourN d) := arr_dv dv t
  refine ⟨w, v, four, arrD fourN d, rfl, wa, four_ok, ans, fun e => EMet.op Ex fun H' s => ?_, fun e => ?_⟩
  · have := q H' s
    unfold outN at this
    rw [e] at this
    exact this
  · rw [e] at ans
    obtain ⟨a, ns, rfl, sq, perm⟩ := K08.ArrAns.nat ans
    refine ⟨a, ns, rfl, sq, perm, fun w' rows' H' _ s _ _ _ => ?_⟩
    have := q H' s
    unfold outN at this
    rw [e] at this
    exact hR _ _ this
end
/-! ### what stays -/
theorem webAt_extP {K : PySem.W.Frag} {C w l : Addr} {H H' : Hp} {rows : List (List Nat)} (wa : WebAt K H C w rows) (d : Dice H l) (e : ExtP l H H') : WebAt K H' C w rows := by
  obtain ⟨x, y, z, hl, _⟩ := d
  have sqt : ∀ {a : Addr} {xs : List V}, SqT K H a xs → SqT K H' a xs := fun {a xs} h => by
    rcases h with (h | ⟨o, h⟩) | h
    · exact .inl (.inl (e _ _ (fun z => by rw [z, hl] at h; cases h) (fun ps z => by cases z) h))
    · exact .inl (.inr ⟨o, e _ _ (fun z => by rw [z, hl] at h; cases h) (fun ps z => by cases z) h⟩)
    · exact .inr h
  obtain ⟨dx, r, as, ld, hw, hr⟩ := wa
  exact ⟨dx, r, as, ld, e _ _ (fun z => by rw [z, hl] at hw; cases hw) (fun ps z => by cases z) hw, ⟨sqt hr.seq, hr.len, fun i a row h1 h2 => sqt (hr.row i a row h1 h2)⟩⟩
structure Sr (K : PySem.W.Frag) (C l w : Addr) (T : List (Addr × Str)) (H0 H : Hp) : Prop where
  e : ExtP l H0 H
  d : Dice H l
  t : Tabs T H
  a : WebAt K H C w four
section
variable {K : PySem.W.Frag} {C l w : Addr} {T : List (Addr × Str)} {H0 H H' : Hp}
theorem Sr.same (S : Sr K C l w T H0 H) (s : Same H H') : Sr K C l w T H0 H' := by
  refine ⟨S.e.trans (ExtP.of s), ?_, S.t.ext s, S.a.same s⟩
  obtain ⟨a, b, c, h, n⟩ := S.d
  exact ⟨a, b, c, s _ _ h, n⟩
theorem Sr.but (S : Sr K C l w T H0 H) (b : But l H H') (d : Dice H' l) : Sr K C l w T H0 H' := by
  obtain ⟨xs, hl⟩ := Dice.lst S.d
  exact ⟨S.e.trans (ExtP.ofBut b), d, Tabs.but S.t hl b, webAt_extP S.a S.d (ExtP.ofBut b)⟩
theorem Sr.ext (S : Sr K C l w T H0 H) (e : ExtN H H') (t : Tabs T H') : Sr K C l w T H0 H' :=
  ⟨S.e.trans (ExtP.ofN e), Dice.ext S.d e, t, webAt_extP S.a S.d (ExtP.ofN e)⟩
theorem Sr.get (S : Sr K C l w T H0 H) : ∃ xs, H l = some (.lst xs) := Dice.lst S.d
end
theorem andH {tb : TE} {σ : L2.St} {H : Hp} {Q : VK} {c d : Bool} (hb : c = true → ∀ Q' : VK, (∀ H', Same H H' → Q' (.bl d) H') → tb σ H Q') (q : ∀ H', Same H H' → Q (.bl (c && d)) H') :
    if c = true then tb σ H Q else Q (.bl false) H := by
  cases c with
  | true => exact iteT (hb rfl Q q)
  | false => exact iteF (q H (.refl H))
theorem andT {u : TT} {σ : L2.St} {H : Hp} {Q : Bool → Hp → Prop} {c d : Bool} (hb : c = true → ∀ Q' : Bool → Hp → Prop, Q' d H → u σ H Q') (q : Q (c && d) H) : if c = true then u σ H Q else Q false H := by
  cases c with
  | true => exact iteT (hb rfl Q q)
  | false => exact iteF q
theorem in_ans {K : PySem.W.Frag} {H : Hp} {F : Addr → Prop} {t : Addr} {v1 v2 : V} {d1 d2 : PyData} (sq : SqT K H t [v1, v2]) (dv1 : Dv F H v1 d1) (dv2 : Dv F H v2 d2) : InAns K H four (.ref t) (inD fourN d1 && (inD fourN d2 && tieD d1 d2)) := by
  refine .inr (.inr ⟨t, v1, v2, inD fourN d1, inD fourN d2, rfl, sq, place_ans dv1, place_ans dv2, fun e => by rw [e]; rfl, fun e => by rw [e, Bool.false_and, Bool.and_false], fun n1 n2 row en1 en2 l1 l2 hr b1 b2 => ?_⟩)
  subst en1
  subst en2
  have h1 := dv_int dv1
  have h2 := dv_int dv2
  subst h1
  subst h2
  rw [b1, b2, Bool.true_and, Bool.true_and]
  unfold tieD toI
  rw [Int.toNat_natCast, Int.toNat_natCast, List.getD_eq_getElem?_getD, hr]
  rfl
end K08

set_option maxHeartbeats 40000000
namespace K08
open PySem PySem.Spec PyProof.Rows L2 GG LamX
abbrev sRi : Stmt := topS 24
theorem scRi : FnScope ["dice", "web", "words", "is_tie", "late", "fine", "wrong", "due", "told", "names", "odd", "one", "other", "row", "some"] ["dice", "web"] (defScope sRi) := ⟨rfl, rfl, rfl, by decide +kernel, rfl, by decide +kernel, by decide +kernel⟩
abbrev qRi : Str := ("_law_right" : Str) ++ ".<locals>." ++ "<lambda>"
def spRi (C : Addr) (K : PySem.W.Frag) (T : List (Addr × Str)) : Sp := fun vs H Q _ => ∃ l w, vs = [.ref l, .ref w] ∧ Dice H l ∧ Tabs T H ∧ WebAt K H C w four ∧ ∀ H', ExtP l H H' → Dice H' l → Tabs T H' → Q (.bl true) H'
section
variable {P : Program} {w : World} {K : PySem.W.Frag} {mg : Str → Option Value} {base : Heap}
theorem ok_ri {f fM fK fF fP fT fU fR fA fG fN fC C CW CO CN fE c HK : Addr} {T : List (Addr × Str)} {fdM fdK fdF fdP fdT fdU fdR fdA fdG fdN fdC : FuncData} {oc : Value} {od an : Option Addr} {osl : Array (Option Value)} {kV doc pm ct : Value}
    (lk : K.lookup f = some ⟨oc, od, .func (PySem.W.fnOf "_law_right" "_law_right" (defArgs sRi) (defBody sRi) (defScope sRi) .none kV doc pm an (.ref c) ct), osl⟩)
    (hcd : PySem.W.codeIn K (.ref c) "_law_right" = true) (TB : TabB base mg c HK) (hmT : (HK, qRi) ∈ T) (hT : ∀ p ∈ T, p.1 = HK → p.2 = qRi)
    (FM : Fun K "_law_met" "_law_met" sMet fM fdM) (bM : Binds K fdM ["call"] []) (bK : Binds K fdK ["dice", "items"] []) (bF : Binds K fdF ["words"] []) (bP : Binds K fdP ["value"] [])
    (bT : Binds K fdT ["self", "one", "other"] []) (bU : Binds K fdU ["self", "one", "other"] []) (bR : Binds K fdR ["self", "place", "row"] []) (bA : Binds K fdA ["self", "places"] []) (bG : Binds K fdG ["self", "place"] []) (bN : Binds K fdN ["self", "names"] []) (bC : Binds K fdC ["self", "value"] [])
    (W : WebC K C) (GK : FnOk P w K mg base CX0 2 fK fdK ["dice", "items"] (spPick K)) (GF : FnOk P w K mg base CX0 1 fF fdF ["words"] (spFirst K)) (GP : FnG P w K mg base CX0 1 fP fdP ["value"] spPlaceW)
    (mT : Meth K C "with_tie" fT) (GT : FnOk P w K mg base (L2.CX P w) 8 fT fdT ["self", "one", "other"] (iTie K C CN CO false))
    (mU : Meth K C "without_tie" fU) (GU : FnOk P w K mg base (L2.CX P w) 8 fU fdU ["self", "one", "other"] (iTie K C CN CO true))
    (mR : Meth K C "with_row" fR) (GR : FnOk P w K mg base (L2.CX P w) 7 fR fdR ["self", "place", "row"] (iRow K C CN CO))
    (mA : Meth K C "part" fA) (GA : FnOk P w K mg base (L2.CX P w) 7 fA fdA ["self", "places"] (iPart K C CO))
    (mG : Meth K C "__getitem__" fG) (nG : PySem.W.fnIn K fG = true) (GG' : FnOk P w K mg base (L2.CX P w) 5 fG fdG ["self", "place"] (iGet K C CN))
    (mN : Meth K C "renamed" fN) (GN : FnOk P w K mg base (L2.CX P w) 7 fN fdN ["self", "names"] (iRen K C CO))
    (mC : Meth K C "__contains__" fC) (GC : FnOk P w K mg base CX0 4 fC fdC ["self", "value"] (spXIn K C))
    (gM : mg "_law_met" = some (.ref fM)) (gK : mg "_law_pick" = some (.ref fK)) (gF : mg "_law_first" = some (.ref fF)) (gP : mg "_law_place_word" = some (.ref fP))
    (kK : PySem.W.keepIn K (.ref fK) = true) (kF : PySem.W.keepIn K (.ref fF) = true) (kP : PySem.W.keepIn K (.ref fP) = true)
    (N' : XN K mg CN fE) (gCW : mg "InvalidWeb" = some (.ref CW)) (gCO : mg "InvalidOperation" = some (.ref CO)) (Ex : Exm K CW CO CN) (mp : mg "repr" = none) :
    FnG P w K mg base CX0 11 f (PySem.W.fnOf "_law_right" "_law_right" (defArgs sRi) (defBody sRi) (defScope sRi) .none kV doc pm an (.ref c) ct) ["dice", "web"] (spRi C K T) := by
  refine fnG_lk (k := 10) lk hcd scRi (fun vs H Q E h => ?_) (fun A outer s H vs Q E gd hr h => ?_)
  · obtain ⟨l, w, rfl, _⟩ := h
    rfl
  · obtain ⟨l, w, rfl, dl, tb, wa, q⟩ := h
    have un := hr.units
    have N := scRi.nd
    have hr2 := hr.mono (show 2 ≤ 10 by decide)
    have hr1 := hr.mono (show 1 ≤ 10 by decide)
    have hr5 := hr.mono (show 5 ≤ 10 by decide)
    refine ⟨_, PSs.nox (pss_cons (ps_set (i := 10) N rfl (.inr rfl) (pe_lit _ (.list oddP) (by kernel_rfl)))
      (pss_cons (ps_asg (pe_tup (pa_cons
            (pe_call GK hr2 (by rfl) gK kK bK .nil pass0 (pa_cons (pv 0) (pa_cons (pe_op op_cat (pe_op op_rep (pe_lit _ (.list base3) (by kernel_rfl)) pe_int) (pv 10)) pa_nil)))
            (pa_cons (pe_call GK hr2 (by rfl) gK kK bK .nil pass0 (pa_cons (pv 0) (pa_cons (pe_op op_cat (pe_op op_rep (pe_lit _ (.list base3) (by kernel_rfl)) pe_int) (pv 10)) pa_nil))) pa_nil)))
          (pg_tup rfl (pgs_cons (pg_name (i := 11) N rfl (.inr rfl)) (pgs_cons (pg_name (i := 12) N rfl (.inr rfl)) pgs_nil))))
      (pss_cons (ps_set (i := 2) N rfl (.inl rfl) (pe_lst (pa_cons (pe_callG GP gd hr1 (by rfl) gP kP bP .nil pass0 (pa_cons (pv 11) pa_nil)) (pa_cons (pe_callG GP gd hr1 (by rfl) gP kP bP .nil pass0 (pa_cons (pv 12) pa_nil)) pa_nil))))
      (pss_cons (ps_set (i := 3) N rfl (.inl rfl) (pe_and (pe_cmpR (op_eqD un) (pv 2) (pe_lst (pa_cons pe_str (pa_cons pe_str pa_nil))) (nomark _)) (pe_one (pe_cmpR (op_inO mC GC hr5 bC pass0) (pe_tup (pa_cons (pv 11) (pa_cons (pv 12) pa_nil))) (pv 1) (by rfl)))))
      (pss_cons (ps_set (i := 4) N rfl (.inl rfl) (pe_ifExp (pt_val (pv 3)) pe_str pe_str))
      (pss_cons (ps_if (pt_cmpR op_ne (pe_met (T := T) FM bM gd (k := 8) hr mp N' gCW gCO (by rfl) gM TB rfl (q0 := ("_law_right" : Str) ++ ".<locals>.") rfl hmT hT (lamS_by (by kernel_rfl)) rfl (fun _ _ _ _ _ => rfl)
            (fun A outer s H E f c' hr' => pe_meth (pv 1) W.c mT GT hr' bT .nil (passes_call (takes_of rfl rfl rfl rfl) fun _ _ _ _ h => h) (pa_cons (pv 11) (pa_cons (pv 12) pa_nil))))
          (pe_call GF hr1 (by rfl) gF kF bF .nil pass0 (pa_cons (pe_op op_cat (pv 2) (pe_lst (pa_cons (pv 4) pa_nil))) pa_nil)) (nomark _)) (pss_one (ps_ret pe_bl)) pss_nil)
      (pss_cons (ps_set (i := 4) N rfl (.inl rfl) (pe_ifExp (PW.pt (pw_and (pt_cmpR (op_eqD un) (pv 2) (pe_lst (pa_cons pe_str (pa_cons pe_str pa_nil))) (nomark _)) (pw_and1 (pt_not (pt_val (pv 3)))))) pe_str pe_str))
      (pss_cons (ps_if (pt_cmpR op_ne (pe_met (T := T) FM bM gd (k := 8) hr mp N' gCW gCO (by rfl) gM TB rfl (q0 := ("_law_right" : Str) ++ ".<locals>.") rfl hmT hT (lamS_by (by kernel_rfl)) rfl (fun _ _ _ _ _ => rfl)
            (fun A outer s H E f c' hr' => pe_meth (pv 1) W.c mU GU hr' bU .nil (passes_call (takes_of rfl rfl rfl rfl) fun _ _ _ _ h => h) (pa_cons (pv 11) (pa_cons (pv 12) pa_nil))))
          (pe_call GF hr1 (by rfl) gF kF bF .nil pass0 (pa_cons (pe_op op_cat (pv 2) (pe_lst (pa_cons (pv 4) pa_nil))) pa_nil)) (nomark _)) (pss_one (ps_ret pe_bl)) pss_nil)
      (pss_cons (ps_set (i := 5) N rfl (.inl rfl) (pe_lit _ (.list fineW) (by kernel_rfl)))
      (pss_cons (ps_set (i := 13) N rfl (.inr rfl) (pe_call GK hr2 (by rfl) gK kK bK .nil pass0 (pa_cons (pv 0) (pa_cons (pe_op op_cat (pe_op op_rep (pv 5) pe_int) (pe_lit _ (.list oddW) (by kernel_rfl))) pa_nil))))
      (pss_cons (ps_set (i := 4) N rfl (.inl rfl) (pe_ifExp (pt_cmpR op_in_seq (pe_callB (call_reprR gd un) (by rfl) mp (by decide +kernel) (pa_cons (pv 13) pa_nil))
          (pe_lc (own := [("some", 14)]) (g := gName 14) (tt := tYes) rfl N (pi_list (pv 5)) (blkOk_by (own := [("some", 14)]) (N := ["dice", "web", "words", "is_tie", "late", "fine", "wrong", "due", "told", "names", "odd", "one", "other", "row", "some"]) (sc := defScope sRi) (by decide +kernel))
            (fun _ _ _ _ _ => pg_name (i := 14) N rfl (Or.inl rfl)) (fun _ _ _ _ _ => pts_nil) (fun _ _ _ _ _ => pe_callB (show CallR _ (.builtin "repr") (rReprD K) from call_reprR gd un) (by rfl) mp (by decide +kernel) (pa_cons (pv 14) pa_nil))) (by rfl)) pe_str pe_str))
      (pss_cons (ps_if (pt_cmpR op_ne (pe_met (T := T) FM bM gd (k := 8) hr mp N' gCW gCO (by rfl) gM TB rfl (q0 := ("_law_right" : Str) ++ ".<locals>.") rfl hmT hT (lamS_by (by kernel_rfl)) rfl (fun _ _ _ _ _ => rfl)
            (fun A outer s H E f c' hr' => pe_meth (pv 1) W.c mR GR (hr'.mono (by decide)) bR .nil (passes_call (takes_of rfl rfl rfl rfl) fun _ _ _ _ h => h) (pa_cons (pv 11) (pa_cons (pv 13) pa_nil))))
          (pe_call GF hr1 (by rfl) gF kF bF .nil pass0 (pa_cons (pe_lst (pa_cons (pe_ix ix_list (pv 2) pe_int (fun _ _ => rfl)) (pa_cons (pv 4) pa_nil))) pa_nil)) (nomark _)) (pss_one (ps_ret pe_bl)) pss_nil)
      (pss_cons (ps_set (i := 4) N rfl (.inl rfl) (pe_ifExp (pt_cmpR op_in_seq (pe_callB (call_reprR gd un) (by rfl) mp (by decide +kernel) (pa_cons (pv 13) pa_nil))
          (pe_lc (own := [("some", 14)]) (g := gName 14) (tt := tYes) rfl N (pi_list (pe_slice sl_list (pv 5) (po_some pe_int) po_none)) (blkOk_by (own := [("some", 14)]) (N := ["dice", "web", "words", "is_tie", "late", "fine", "wrong", "due", "told", "names", "odd", "one", "other", "row", "some"]) (sc := defScope sRi) (by decide +kernel))
            (fun _ _ _ _ _ => pg_name (i := 14) N rfl (Or.inl rfl)) (fun _ _ _ _ _ => pts_nil) (fun _ _ _ _ _ => pe_callB (show CallR _ (.builtin "repr") (rReprD K) from call_reprR gd un) (by rfl) mp (by decide +kernel) (pa_cons (pv 14) pa_nil))) (by rfl)) pe_str pe_str))
      (pss_cons (ps_if (pt_cmpR op_ne (pe_met (T := T) FM bM gd (k := 8) hr mp N' gCW gCO (by rfl) gM TB rfl (q0 := ("_law_right" : Str) ++ ".<locals>.") rfl hmT hT (lamS_by (by kernel_rfl)) rfl (fun _ _ _ _ _ => rfl)
            (fun A outer s H E f c' hr' => pe_meth (pv 1) W.c mA GA (hr'.mono (by decide)) bA .nil (passes_call (takes_of rfl rfl rfl rfl) fun _ _ _ _ h => h) (pa_cons (pv 13) pa_nil)))
          (pv 4) (nomark _)) (pss_one (ps_ret pe_bl)) pss_nil)
      (pss_cons (ps_if (pt_cmpR op_ne (pe_met (T := T) FM bM gd (k := 8) hr mp N' gCW gCO (by rfl) gM TB rfl (q0 := ("_law_right" : Str) ++ ".<locals>.") rfl hmT hT (lamS_by (by kernel_rfl)) rfl (fun _ _ _ _ _ => rfl)
            (fun A outer s H E f c' hr' => pe_ixO mG nG GG' (hr'.mono (by decide)) bG (passes_call (takes_of rfl rfl rfl rfl) fun _ _ _ _ h => h) (pv 1) (pv 12)))
          (pe_ix ix_list (pv 2) pe_int (fun _ _ => rfl)) (nomark _)) (pss_one (ps_ret pe_bl)) pss_nil)
      (pss_cons (ps_set (i := 6) N rfl (.inl rfl) (pe_lit _ (.list wrongN) (by kernel_rfl)))
      (pss_cons (ps_set (i := 9) N rfl (.inr rfl) (pe_call GK hr2 (by rfl) gK kK bK .nil pass0 (pa_cons (pv 0) (pa_cons (pe_op op_cat (pe_lit _ (.list fineN) (by kernel_rfl)) (pv 6)) pa_nil))))
      (pss_cons (ps_set (i := 7) N rfl (.inl rfl) (pe_ifExp (pt_cmpR op_in_seq (pe_callB (call_reprR gd un) (by rfl) mp (by decide +kernel) (pa_cons (pv 9) pa_nil)) (pe_tup (pa_cons pe_str (pa_cons pe_str pa_nil))) (by rfl)) pe_str pe_str))
      (pss_cons (ps_set (i := 10) N rfl (.inr rfl) (pe_call GK hr2 (by rfl) gK kK bK .nil pass0 (pa_cons (pv 0) (pa_cons (pe_lit _ (.list oddN) (by kernel_rfl)) pa_nil))))
      (pss_cons (ps_set (i := 8) N rfl (.inl rfl) (pe_lst (pa_cons (pe_met (T := T) FM bM gd (k := 8) hr mp N' gCW gCO (by rfl) gM TB rfl (q0 := ("_law_right" : Str) ++ ".<locals>.") rfl hmT hT (lamS_by (by kernel_rfl)) rfl (fun _ _ _ _ _ => rfl)
            (fun A outer s H E f c' hr' => pe_meth (pv 1) W.c mN GN (hr'.mono (by decide)) bN .nil (passes_call (takes_of rfl rfl rfl rfl) fun _ _ _ _ h => h) (pa_cons (pv 9) pa_nil))) (pa_cons (pv 7) pa_nil))))
      (pss_one (ps_ret (pe_and (pe_cmpR op_eq (pe_ix ix_list (pv 8) pe_int (fun _ _ => rfl)) (pe_ix ix_list (pv 8) pe_int (fun _ _ => rfl)) (nomark _))
        (pe_one (pe_cmpR op_eq (pe_met (T := T) FM bM gd (k := 8) hr mp N' gCW gCO (by rfl) gM TB rfl (q0 := ("_law_right" : Str) ++ ".<locals>.") rfl hmT hT (lamS_by (by kernel_rfl)) rfl (fun _ _ _ _ _ => rfl)
            (fun A outer s H E f c' hr' => pe_meth (pv 1) W.c mN GN (hr'.mono (by decide)) bN .nil (passes_call (takes_of rfl rfl rfl rfl) fun _ _ _ _ h => h) (pa_cons (pv 10) pa_nil))) pe_str (nomark _)))))))))))))))))))))))))), ?_⟩
    have S0 : Sr K C l w T H H := ⟨fun b o _ _ e => e, dl, tb, wa⟩
    obtain ⟨xl, hl⟩ := K08.Dice.lst dl
    -- odd
    refine fun v1 H1 s1 dv1 => ?_
    cases dv1 with
    | @lst a1 xs1 _ f1 e1 r1 =>
    have S1 := S0.same s1
    have n1 := K08.DvAll.ofNew r1 hl
    have na1 : a1 ≠ l := fun z => by
      subst z
      rw [hl] at f1
      cases f1
    have l1 : xs1.length = 9 := r1.len
    -- one
    refine ⟨_, rfl, fun v2 H2 s2 dv2 => ?_⟩
    cases dv2 with
    | @lst a2 xs2 _ f2 e2 r2 =>
    have l2 : xs2.length = 3 := r2.len
    have n2 := K08.DvAll.ofNew r2 (s1 _ _ hl)
    refine ⟨a2, 3, xs2, rfl, rfl, e2, by decide, by decide, by rw [l2]; show 9 ≤ sizeLine; decide, fun p np => ⟨_, rfl, ?_⟩⟩
    have s3 := sameUpd (o := .lst (List.replicate (3 : Int).toNat xs2).flatten) np
    have lr : (List.replicate (3 : Int).toNat xs2).flatten.length = 9 := ((n2.rep 3).len).trans (by decide)
    refine ⟨p, a1, _, _, rfl, rfl, upd_same, s3 _ _ (s2 _ _ e1), by rw [lr, l1]; show 18 ≤ sizeLine; decide, fun p2 np2 => ?_⟩
    have s4 := sameUpd (o := .lst ((List.replicate (3 : Int).toNat xs2).flatten ++ xs1)) np2
    have S4 := ((S1.same s2).same s3).same s4
    have m4 : DvAll (· ≠ l) _ _ LP := ((((n2.rep 3).same s3).append ((n1.same s2).same s3)).same s4)
    have np2l : p2 ≠ l := fun z => by
      subst z
      rw [((s1.trans s2).trans s3) _ _ hl] at np2
      cases np2
    refine ⟨l, p2, _, rfl, S4.d, np2l, .inl (.of upd_same), by rw [List.length_append, lr, l1]; decide, by rw [List.length_append, lr, l1]; decide, fun H5 j1 v3 b5 d5 hv1 => ?_⟩
    have S5 := S4.but b5 d5
    obtain ⟨d1, hd1, dv1⟩ := (m4.but b5).get hv1
    have in1 : d1 ∈ LP := List.mem_of_getElem? hd1
    have n5 : DvAll (· ≠ l) H5 xs1 oddP := (((n1.same s2).same s3).same s4).but b5
    have e5 : H5 a1 = some (.lst xs1) := b5 _ _ na1 (s4 _ _ (s3 _ _ (s2 _ _ e1)))
    obtain ⟨xl5, hl5⟩ := S5.get
    clear b5 m4 s4 s3 s2 n2 r2
    -- other
    refine ⟨_, rfl, fun v4 H6 s6 dv4 => ?_⟩
    cases dv4 with
    | @lst a4 xs4 _ f4 e4 r4 =>
    have l4 : xs4.length = 3 := r4.len
    have n4 := K08.DvAll.ofNew r4 hl5
    refine ⟨a4, 3, xs4, rfl, rfl, e4, by decide, by decide, by rw [l4]; show 9 ≤ sizeLine; decide, fun p3 np3 => ⟨_, rfl, ?_⟩⟩
    have s7 := sameUpd (o := .lst (List.replicate (3 : Int).toNat xs4).flatten) np3
    have lr4 : (List.replicate (3 : Int).toNat xs4).flatten.length = 9 := ((n4.rep 3).len).trans (by decide)
    refine ⟨p3, a1, _, _, rfl, rfl, upd_same, s7 _ _ (s6 _ _ e5), by rw [lr4, l1]; show 18 ≤ sizeLine; decide, fun p4 np4 => ?_⟩
    have s8 := sameUpd (o := .lst ((List.replicate (3 : Int).toNat xs4).flatten ++ xs1)) np4
    have S8 := ((S5.same s6).same s7).same s8
    have m8 : DvAll (· ≠ l) _ _ LP := ((((n4.rep 3).same s7).append ((n5.same s6).same s7)).same s8)
    have np4l : p4 ≠ l := fun z => by
      subst z
      rw [(s6.trans s7) _ _ hl5] at np4
      cases np4
    refine ⟨l, p4, _, rfl, S8.d, np4l, .inl (.of upd_same), by rw [List.length_append, lr4, l1]; decide, by rw [List.length_append, lr4, l1]; decide, fun H9 j2 v5 b9 d9 hv2 => ?_⟩
    have S9 := S8.but b9 d9
    obtain ⟨d2, hd2, dv2⟩ := (m8.but b9).get hv2
    have in2 : d2 ∈ LP := List.mem_of_getElem? hd2
    have dv1' : Dv (· ≠ l) H9 v3 d1 := (((dv1.same s6).same s7).same s8).but b9
    clear b9 m8 s8 s7 s6 n4 r4 dv1 n5 hd1 hd2 hv1 hv2
    have dv1 := dv1'
    clear dv1'
    refine ⟨(by show 2 ≤ sizeLine; decide), fun t nt => ⟨t, _, rfl, .inl (.inl upd_same), rfl, _, _, rfl, _, _, rfl, rfl, ?_⟩⟩
    have s10 := sameUpd (o := .tup [v3, v5]) nt
    have S10 := S9.same s10
    have dv1 := dv1.same s10
    have dv2 := dv2.same s10
    obtain ⟨g1, ok1, og1⟩ := fact1 d1 in1
    obtain ⟨g2, ok2, og2⟩ := fact1 d2 in2
    -- words
    refine ⟨_, rfl, (· ≠ l), v3, d1, rfl, dv1, g1, fun H11 s11 => ⟨_, rfl, (· ≠ l), v5, d2, rfl, dv2.same s11, g2, fun H12 s12 => ⟨(by show 2 ≤ sizeLine; decide), fun pw npw => ?_⟩⟩⟩
    have s13 := (s11.trans s12).trans (sameUpd (o := .lst [.str (placeW d1), .str (placeW d2)]) npw)
    have S13 := S10.same s13
    have dv1 := dv1.same s13
    have dv2 := dv2.same s13
    have hpw : (upd H12 pw (.lst [.str (placeW d1), .str (placeW d2)])) pw = some (.lst [.str (placeW d1), .str (placeW d2)]) := upd_same
    have nwl : pw ≠ l := fun z => by
      subst z
      obtain ⟨_, h⟩ := S10.get
      rw [(s11.trans s12) _ _ h] at npw
      cases npw
    generalize upd H12 pw (.lst [.str (placeW d1), .str (placeW d2)]) = H13 at S13 dv1 dv2 hpw ⊢
    clear s13 npw S10 s10 nt S9 d9 S8 S5 d5 S4
    have B : Sr K C l w T H13 H13 := ⟨fun b o _ _ e => e, S13.d, S13.t, S13.a⟩
    have okW : ∀ x ∈ [placeW d1, placeW d2], PyData.strOk x = true := fun x hx => by
      simp only [List.mem_cons, List.mem_nil_iff, or_false] at hx
      rcases hx with rfl | rfl
      · exact ok1
      · exact ok2
    have okE : ∀ x ∈ [("" : Str), ""], PyData.strOk x = true := by decide +kernel
    obtain ⟨ft, fu⟩ := fact2 d1 in1 d2 in2
    -- is_tie
    refine ⟨_, rfl, (by show 2 ≤ sizeLine; decide), fun p5 np5 => ?_⟩
    have s14 := sameUpd (o := .lst [.str "", .str ""]) np5
    refine ⟨_, _, .lst (.of (s14 _ _ hpw)) (strs_dp [placeW d1, placeW d2]), .lst (.of upd_same) (strs_dp ["", ""]), strs_shaped _ okW, strs_shaped _ okE, ?_⟩
    rw [strs_eqv]
    refine ⟨_, rfl, andH (d := inD fourN d1 && (inD fourN d2 && tieD d1 d2)) (fun _ Q' z => ?_) (fun H15 s15 => ?_)⟩
    · refine ⟨_, rfl, _, rfl, (by show 2 ≤ sizeLine; decide), fun p6 np6 => ⟨_, rfl, ?_⟩⟩
      have s16 := sameUpd (o := .tup [v3, v5]) np6
      have S16 := (B.same s14).same s16
      obtain ⟨dx, r, as, ld, hw, hr⟩ := id S16.a
      exact ⟨w, dx, _, rfl, hw, w, .ref p6, four, _, rfl, S16.a, by decide, in_ans (.inl (.inl upd_same)) ((dv1.same s14).same s16) ((dv2.same s14).same s16), _, rfl, by
        show Q' (.bl (xor false _)) _
        rw [Bool.false_xor]
        exact z _ s16⟩
    have S15 := (B.same s14).same s15
    show _
    have et : (decide ([placeW d1, placeW d2] = [("" : Str), ""]) && (inD fourN d1 && (inD fourN d2 && tieD d1 d2))) = tieB d1 d2 := rfl
    rw [et]
    clear s15 s14 np5
    -- late
    refine ⟨_, rfl, _, rfl, iteV (z := .str (late1 d1 d2)) (by unfold late1; cases tieB d1 d2 <;> rfl) ?_⟩
    have okL1 : PyData.strOk (late1 d1 d2) = true := by
      unfold late1
      split
      · exact okLate.2
      · exact okLate.1
    -- with_tie
    refine ⟨S15.t, fun H16 e16 t16 => ?_⟩
    have S16 := S15.ext e16 t16
    obtain ⟨dx, r, as, ld, hw, hr⟩ := id S16.a
    refine ⟨_, rfl, w, dx, _, rfl, hw, rfl, _, rfl, _, rfl, met_tie false (fun _ _ z => z) Ex S16.a (K08.Dv.extP dv1 S16.e) (K08.Dv.extP dv2 S16.e) g1 g2 fun H17 s17 => ?_⟩
    have S17 := S16.same s17
    clear hw hr
    refine ⟨_, rfl, _, rfl, (by show 1 ≤ sizeLine; decide), fun p7 np7 => ?_⟩
    have s18 := sameUpd (o := .lst [.str (late1 d1 d2)]) np7
    have S18 := S17.same s18
    refine ⟨pw, p7, _, _, rfl, rfl, S18.e _ _ nwl (fun ps z => by cases z) hpw, upd_same, (by show 3 ≤ sizeLine; decide), fun p8 np8 => ?_⟩
    have s19 := sameUpd (o := .lst ([.str (placeW d1), .str (placeW d2)] ++ [.str (late1 d1 d2)])) np8
    refine ⟨p8, [placeW d1, placeW d2, late1 d1 d2], rfl, .of upd_same, (by show 3 ≤ 100; decide), fun x hx => ?_, fun H20 s20 => ⟨rfl, _, rfl, iteFo (neS ft) ?_⟩⟩
    · simp only [List.mem_cons, List.mem_nil_iff, or_false] at hx
      rcases hx with rfl | rfl | rfl
      · exact ok1
      · exact ok2
      · exact okL1
    have S20 := (S18.same s19).same s20
    clear s20 s19 S18 s18 S17 s17 S16 e16 t16 S15
    -- late
    refine ⟨_, rfl, (by show 2 ≤ sizeLine; decide), fun p9 np9 => ?_⟩
    have s21 := sameUpd (o := .lst [.str "", .str ""]) np9
    have S21 := S20.same s21
    refine ⟨_, _, .lst (.of (S21.e _ _ nwl (fun ps z => by cases z) hpw)) (strs_dp [placeW d1, placeW d2]), .lst (.of upd_same) (strs_dp ["", ""]), strs_shaped _ okW, strs_shaped _ okE, ?_⟩
    rw [strs_eqv]
    refine ⟨twoB d1 d2, rfl, ?_⟩
    refine andT (d := !tieB d1 d2) (fun _ Q' z => ⟨_, rfl, _, rfl, z⟩) (iteV (z := .str (late2 d1 d2)) (by unfold late2; cases (twoB d1 d2 && !tieB d1 d2) <;> rfl) ?_)
    have okL2 : PyData.strOk (late2 d1 d2) = true := by
      unfold late2
      split
      · exact okLate.2
      · exact okLate.1
    -- without_tie
    refine ⟨S21.t, fun H16 e16 t16 => ?_⟩
    have S16 := S21.ext e16 t16
    obtain ⟨dx, r, as, ld, hw, hr⟩ := id S16.a
    refine ⟨_, rfl, w, dx, _, rfl, hw, rfl, _, rfl, _, rfl, met_tie true (fun _ _ z => z) Ex S16.a (K08.Dv.extP dv1 S16.e) (K08.Dv.extP dv2 S16.e) g1 g2 fun H17 s17 => ?_⟩
    have S17 := S16.same s17
    clear hw hr
    refine ⟨_, rfl, _, rfl, (by show 1 ≤ sizeLine; decide), fun p7 np7 => ?_⟩
    have s18 := sameUpd (o := .lst [.str (late2 d1 d2)]) np7
    have S18 := S17.same s18
    refine ⟨pw, p7, _, _, rfl, rfl, S18.e _ _ nwl (fun ps z => by cases z) hpw, upd_same, (by show 3 ≤ sizeLine; decide), fun p8 np8 => ?_⟩
    have s19 := sameUpd (o := .lst ([.str (placeW d1), .str (placeW d2)] ++ [.str (late2 d1 d2)])) np8
    refine ⟨p8, [placeW d1, placeW d2, late2 d1 d2], rfl, .of upd_same, (by show 3 ≤ 100; decide), fun x hx => ?_, fun H22 s22 => ⟨rfl, _, rfl, iteFo (neS fu) ?_⟩⟩
    · simp only [List.mem_cons, List.mem_nil_iff, or_false] at hx
      rcases hx with rfl | rfl | rfl
      · exact ok1
      · exact ok2
      · exact okL2
    have S22 := (S18.same s19).same s22
    clear s22 s19 S18 s18 S17 s17 S16 e16 t16 S21 s21 np9 S20 np8 np7
    -- fine, row
    obtain ⟨xl22, hl22⟩ := S22.get
    refine fun v6 H23 s23 dv6 => ?_
    cases dv6 with
    | @lst a6 xs6 _ f6 e6 r6 =>
    have l6 : xs6.length = 4 := r6.len
    have n6 := K08.DvAll.ofNew r6 hl22
    have na6 : a6 ≠ l := fun z => by
      subst z
      rw [hl22] at f6
      cases f6
    have S23 := S22.same s23
    refine ⟨_, rfl, _, rfl, a6, 2, xs6, rfl, rfl, e6, by decide, by decide, by rw [l6]; show 8 ≤ sizeLine; decide, fun p np => ?_⟩
    have s24 := sameUpd (o := .lst (List.replicate (2 : Int).toNat xs6).flatten) np
    have lr6 : (List.replicate (2 : Int).toNat xs6).flatten.length = 8 := ((n6.rep 2).len).trans (by decide)
    have S24 := S23.same s24
    obtain ⟨xl24, hl24⟩ := S24.get
    refine fun v7 H25 s25 dv7 => ?_
    cases dv7 with
    | @lst a7 xs7 _ f7 e7 r7 =>
    have l7 : xs7.length = 12 := r7.len
    have n7 := K08.DvAll.ofNew r7 hl24
    refine ⟨p, a7, _, _, rfl, rfl, s25 _ _ upd_same, e7, by rw [lr6, l7]; show 20 ≤ sizeLine; decide, fun p2 np2 => ?_⟩
    have s26 := sameUpd (o := .lst ((List.replicate (2 : Int).toNat xs6).flatten ++ xs7)) np2
    have S26 := (S24.same s25).same s26
    have m26 : DvAll (· ≠ l) _ _ LW := (((((n6.rep 2).same s24).same s25).append n7).same s26)
    have np2l : p2 ≠ l := fun z => by
      subst z
      rw [s25 _ _ hl24] at np2
      cases np2
    refine ⟨l, p2, _, rfl, S26.d, np2l, .inl (.of upd_same), by rw [List.length_append, lr6, l7]; decide, by rw [List.length_append, lr6, l7]; decide, fun H27 j3 vr b27 d27 hvr => ?_⟩
    have S27 := S26.but b27 d27
    obtain ⟨dr, hdr, dvr⟩ := (m26.but b27).get hvr
    have inr : dr ∈ LW := List.mem_of_getElem? hdr
    have h6 : H27 a6 = some (.lst xs6) := b27 _ _ na6 (s26 _ _ (s25 _ _ (s24 _ _ e6)))
    have m6 : DvAll (· ≠ l) H27 xs6 fineW := ((((n6.same s24).same s25).same s26).but b27)
    have hpw27 := S27.e _ _ nwl (fun ps z => by cases z) hpw
    have dv1 := K08.Dv.extP dv1 S27.e
    have dv2 := K08.Dv.extP dv2 S27.e
    have E27 := S13.e.trans S27.e
    have B : Sr K C l w T H27 H27 := ⟨fun b o _ _ e => e, S27.d, S27.t, S27.a⟩
    clear b27 m26 s26 s25 n7 r7 s24 n6 r6 S26 S24 S23 s23 hvr hdr hpw S27
    have hpw := hpw27
    clear hpw27
    obtain ⟨tr, gr, oa⟩ := fact3 dr inr
    have fr := fact4 d1 in1 dr inr
    have okF : ∀ d ∈ fineW, showsD d = true := by decide +kernel
    obtain ⟨rpr, _⟩ := K08.Dv.rp (K := K) dvr gr
    have okLR : PyData.strOk (lateR dr) = true := by
      unfold lateR
      split
      · exact okLate.1
      · exact okLate.2
    have hσ1 : ((((((((L2.start ["dice", "web", "words", "is_tie", "late", "fine", "wrong", "due", "told", "names", "odd", "one", "other", "row", "some"] [V.ref l, V.ref w]).set 10 (some (V.ref a1))).set 11 (some v3)).set 12 (some v5)).set 2 (some (V.ref pw))).set 3 (some (V.bl (tieB d1 d2)))).set 4 (some (V.str (late1 d1 d2)))).set 4 (some (V.str (late2 d1 d2)))).set 5 (some (V.ref a6)) =
      [some (V.ref l), some (V.ref w), some (V.ref pw), some (V.bl (tieB d1 d2)), some (V.str (late2 d1 d2)), some (V.ref a6), none, none, none, none, some (V.ref a1), some v3, some v5, none, none] := rfl
    rw [hσ1]
    -- late
    refine ⟨_, rfl, vr, dr, rfl, rpr, _, rfl, a6, rfl, ⟨_, .of h6⟩, fun D nD => ?_⟩
    refine lc_list (a := a6) (xs := xs6) (fun k H1 => Same H27 H1 ∧ H1 D = some (.lst ((fineW.take k).map fun s => V.str s.shown))) ⟨sameUpd nD, upd_same⟩ (fun k H1 _ hP => .of (hP.1 _ _ h6)) (fun k v H1 hv hP => ?_) (fun H28 hP => ?_)
    · obtain ⟨sm, hD⟩ := hP
      obtain ⟨d, hd, dv⟩ := (m6.same sm).get hv
      obtain ⟨rp, _⟩ := K08.Dv.rp (K := K) dv (okF d (List.mem_of_getElem? hd))
      refine ⟨rfl, _, rfl, v, d, rfl, rp, _, hD, ?_, fun b o eb => ?_, ?_⟩
      · rw [List.length_map, List.length_take]
        exact small1000 (Nat.le_trans (Nat.min_le_right _ _) (by decide))
      · rw [upd_ne (ne_of_none eb nD)]
        exact sm b o eb
      · rw [upd_same, List.take_add_one, hd, List.map_append]
        rfl
    obtain ⟨s28, hD⟩ := hP
    rw [l6] at hD
    refine ⟨D, _, rfl, .inl (.of hD), rfl, (by decide +kernel), _, rfl, iteV (z := .str (lateR dr)) (by
      unfold lateR
      show (if inV (.str dr.shown) (fineW.map fun s => V.str s.shown) = true then V.str "" else V.str "operation") = _
      split <;> rfl) ?_⟩
    have S28 := B.same s28
    clear hD nD
    -- with_row
    refine ⟨S28.t, fun H16 e16 t16 => ?_⟩
    have S16 := S28.ext e16 t16
    obtain ⟨dx, r, as, ld, hw, hr⟩ := id S16.a
    refine ⟨_, rfl, w, dx, _, rfl, hw, rfl, _, rfl, _, rfl, met_row (fun _ _ z => z) Ex S16.a (K08.Dv.extP dv1 S16.e) (K08.Dv.extP dvr S16.e) g1 tr fun H17 s17 => ?_⟩
    have S17 := S16.same s17
    clear hw hr
    refine ⟨_, rfl, pw, _, 0, _, rfl, rfl, .of (S17.e _ _ nwl (fun ps z => by cases z) hpw), rfl, _, rfl, (by show 2 ≤ sizeLine; decide), fun p8 np8 => ?_⟩
    have s19 := sameUpd (o := .lst [.str (placeW d1), .str (lateR dr)]) np8
    refine ⟨p8, [placeW d1, lateR dr], rfl, .of upd_same, (by show 2 ≤ 100; decide), fun x hx => ?_, fun H29 s20 => ⟨rfl, _, rfl, iteFo (neS fr) ?_⟩⟩
    · simp only [List.mem_cons, List.mem_nil_iff, or_false] at hx
      rcases hx with rfl | rfl
      · exact ok1
      · exact okLR
    have S29 := (S17.same s19).same s20
    clear s20 s19 S17 s17 S16 e16 t16 S28 s28
    have h6' := S29.e _ _ na6 (fun ps z => by cases z) h6
    have m6' := K08.DvAll.extP m6 S29.e
    have dvr' := K08.Dv.extP dvr S29.e
    obtain ⟨rpr, _⟩ := K08.Dv.rp (K := K) dvr' gr
    have hσ : ([some (V.ref l), some (V.ref w), some (V.ref pw), some (V.bl (tieB d1 d2)), some (V.str (late2 d1 d2)), some (V.ref a6), none, none, none, none, some (V.ref a1), some v3, some v5, none, none].set 13 (some vr)).set 4 (some (V.str (lateR dr))) =
      [some (V.ref l), some (V.ref w), some (V.ref pw), some (V.bl (tieB d1 d2)), some (V.str (lateR dr)), some (V.ref a6), none, none, none, none, some (V.ref a1), some v3, some v5, some vr, none] := rfl
    rw [hσ]
    -- late
    refine ⟨_, rfl, vr, dr, rfl, rpr, _, rfl, _, rfl, a6, xs6, rfl, .of h6', fun p10 np10 => ?_⟩
    have s30 := sameUpd (o := .lst (cutV xs6 (some 1) none)) np10
    have S30 := S29.same s30
    have h10 : (upd H29 p10 (.lst (cutV xs6 (some 1) none))) p10 = some (.lst (xs6.drop 1)) := by rw [upd_same, cutV_from1]
    have m10 := m6'.same s30
    refine ⟨p10, rfl, ⟨_, .of upd_same⟩, fun D nD => ?_⟩
    rw [cutV_from1]
    rw [cutV_from1] at S30 h10 m10 nD
    refine lc_list (a := p10) (xs := xs6.drop 1) (fun k H1 => Same (upd H29 p10 (.lst (xs6.drop 1))) H1 ∧ H1 D = some (.lst (((fineW.drop 1).take k).map fun s => V.str s.shown))) ⟨sameUpd nD, upd_same⟩ (fun k H1 _ hP => .of (hP.1 _ _ h10)) (fun k v H1 hv hP => ?_) (fun H28 hP => ?_)
    · obtain ⟨sm, hD⟩ := hP
      rw [List.getElem?_drop] at hv
      obtain ⟨d, hd, dv⟩ := (m10.same sm).get hv
      obtain ⟨rp, _⟩ := K08.Dv.rp (K := K) dv (okF d (List.mem_of_getElem? hd))
      rw [← List.getElem?_drop] at hd
      refine ⟨rfl, _, rfl, v, d, rfl, rp, _, hD, ?_, fun b o eb => ?_, ?_⟩
      · rw [List.length_map, List.length_take]
        exact small1000 (Nat.le_trans (Nat.min_le_right _ _) (by decide))
      · rw [upd_ne (ne_of_none eb nD)]
        exact sm b o eb
      · rw [upd_same, List.take_add_one, hd, List.map_append]
        rfl
    obtain ⟨s28, hD⟩ := hP
    have l6d : (xs6.drop 1).length = 3 := by rw [List.length_drop, l6]
    rw [l6d] at hD
    refine ⟨D, _, rfl, .inl (.of hD), rfl, (by decide +kernel), _, rfl, iteV (z := .str (lateA dr)) (by
      unfold lateA
      show (if inV (.str dr.shown) ((fineW.drop 1).map fun s => V.str s.shown) = true then V.str "" else V.str "operation") = _
      split <;> rfl) ?_⟩
    have S31 := S30.same s28
    clear hD nD s28 m10 h10 S30 s30 np10 S29 h6' m6' dvr' rpr
    -- part
    refine ⟨S31.t, fun H16 e16 t16 => ?_⟩
    have S16 := S31.ext e16 t16
    obtain ⟨dx, r, as, ld, hw, hr⟩ := id S16.a
    refine ⟨_, rfl, w, dx, _, rfl, hw, rfl, _, rfl, met_part (fun _ _ z => z) Ex S16.a (K08.Dv.extP dvr S16.e) tr fun H17 s17 => ?_⟩
    have S17 := S16.same s17
    clear hw hr S31
    refine ⟨_, rfl, rfl, _, rfl, iteFo (neS oa) ?_⟩
    have hσ2 : [some (V.ref l), some (V.ref w), some (V.ref pw), some (V.bl (tieB d1 d2)), some (V.str (lateR dr)), some (V.ref a6), none, none, none, none, some (V.ref a1), some v3, some v5, some vr, none].set 4 (some (V.str (lateA dr))) = [some (V.ref l), some (V.ref w), some (V.ref pw), some (V.bl (tieB d1 d2)), some (V.str (lateA dr)), some (V.ref a6), none, none, none, none, some (V.ref a1), some v3, some v5, some vr, none] := rfl
    rw [hσ2]
    -- web[other]
    refine ⟨S17.t, fun H18 e18 t18 => ?_⟩
    have S18 := S17.ext e18 t18
    obtain ⟨dx2, r2, as2, ld2, hw2, hr2'⟩ := id S18.a
    refine ⟨_, rfl, _, rfl, w, dx2, _, rfl, hw2, met_get (fun _ _ z => z) Ex hw2 hr2' (K08.Dv.extP dv2 S18.e) g2 fun H19 s19 => ?_⟩
    have S19 := S18.same s19
    clear hw2 hr2' S18 e18 t18 S17 s17 S16 e16 t16
    refine ⟨_, rfl, pw, _, 1, _, rfl, rfl, .of (S19.e _ _ nwl (fun ps z => by cases z) hpw), rfl, rfl, _, rfl, iteFo (neS og2) ?_⟩
    have S20 : Sr K C l w T H H19 := ⟨E27.trans S19.e, S19.d, S19.t, S19.a⟩
    clear S19 s19 dv1 dv2 hpw dvr h6 m6 B oa fr ft fu og1 og2 ok1 ok2
    -- wrong, names
    obtain ⟨xl20, hl20⟩ := S20.get
    refine fun v8 H21 s21 dv8 => ?_
    cases dv8 with
    | @lst a8 xs8 _ f8 e8 r8 =>
    have l8 : xs8.length = 7 := r8.len
    have n8 := K08.DvAll.ofNew r8 hl20
    have S21 := S20.same s21
    obtain ⟨xl21, hl21⟩ := S21.get
    refine ⟨_, rfl, fun v9 H22 s22 dv9 => ?_⟩
    cases dv9 with
    | @lst a9 xs9 _ f9 e9 r9 =>
    have l9 : xs9.length = 2 := r9.len
    have n9 := K08.DvAll.ofNew r9 hl21
    refine ⟨_, rfl, a9, a8, _, _, rfl, rfl, e9, s22 _ _ e8, by rw [l9, l8]; show 9 ≤ sizeLine; decide, fun p2 np2 => ?_⟩
    have s23 := sameUpd (o := .lst (xs9 ++ xs8)) np2
    have S23 := (S21.same s22).same s23
    have m23 : DvAll (· ≠ l) _ _ LN := ((n9.append (n8.same s22)).same s23)
    have np2l : p2 ≠ l := fun z => by
      subst z
      rw [s22 _ _ hl21] at np2
      cases np2
    refine ⟨l, p2, _, rfl, S23.d, np2l, .inl (.of upd_same), by rw [List.length_append, l9, l8]; decide, by rw [List.length_append, l9, l8]; decide, fun H24 j4 vn b24 d24 hvn => ?_⟩
    have S24 := S23.but b24 d24
    obtain ⟨dn, hdn, dvn⟩ := (m23.but b24).get hvn
    obtain ⟨tn, gn, on⟩ := fact5 dn (List.mem_of_getElem? hdn)
    obtain ⟨rpn, _⟩ := K08.Dv.rp (K := K) dvn gn
    have hσ3 : [some (V.ref l), some (V.ref w), some (V.ref pw), some (V.bl (tieB d1 d2)), some (V.str (lateA dr)), some (V.ref a6), none, none, none, none, some (V.ref a1), some v3, some v5, some vr, none].set 6 (some (V.ref a8)) = [some (V.ref l), some (V.ref w), some (V.ref pw), some (V.bl (tieB d1 d2)), some (V.str (lateA dr)), some (V.ref a6), some (V.ref a8), none, none, none, some (V.ref a1), some v3, some v5, some vr, none] := rfl
    rw [hσ3]
    -- due
    refine ⟨_, rfl, vn, dn, rfl, rpn, (by show 2 ≤ sizeLine; decide), fun p3 np3 => ⟨p3, _, rfl, .inr (.inl (.inl upd_same)), rfl, (by decide +kernel), _, rfl, iteV (z := .str (dueN dn)) (by
      unfold dueN
      show (if inV (.str dn.shown) [.str "(0, 1, 2, 3)", .str "(3, 1, 0, 2)"] = true then V.str "" else V.str "operation") = _
      split <;> rfl) ?_⟩⟩
    have s25 := sameUpd (o := .tup [.str "(0, 1, 2, 3)", .str "(3, 1, 0, 2)"]) np3
    have S25 := S24.same s25
    have dvn := dvn.same s25
    obtain ⟨xl25, hl25⟩ := S25.get
    -- odd
    refine ⟨_, rfl, fun v11 H26 s26 dv11 => ?_⟩
    cases dv11 with
    | @lst a11 xs11 _ f11 e11 r11 =>
    have l11 : xs11.length = 6 := r11.len
    have n11 := K08.DvAll.ofNew r11 hl25
    have S26 := S25.same s26
    have na11 : a11 ≠ l := fun z => by
      subst z
      rw [hl25] at f11
      cases f11
    refine ⟨l, a11, _, rfl, S26.d, na11, .inl (.of e11), by rw [l11]; decide, by rw [l11]; decide, fun H28 j5 vo b28 d28 hvo => ?_⟩
    have S28 := S26.but b28 d28
    obtain ⟨do_, hdo, dvo⟩ := (n11.but b28).get hvo
    obtain ⟨to_, oo⟩ := fact6 do_ (List.mem_of_getElem? hdo)
    have dvn := (dvn.same s26).but b28
    have B : Sr K C l w T H28 H28 := ⟨fun b o _ _ e => e, S28.d, S28.t, S28.a⟩
    have E28 := S28.e
    clear b28 n11 s26 S26 S25 s25 S24 b24 m23 S23 s23 s22 S21 s21 S20 E27
    have hσ4 : ([some (V.ref l), some (V.ref w), some (V.ref pw), some (V.bl (tieB d1 d2)), some (V.str (lateA dr)), some (V.ref a6), some (V.ref a8), none, none, none, some (V.ref a1), some v3, some v5, some vr, none].set 9 (some vn)).set 7 (some (V.str (dueN dn))) = [some (V.ref l), some (V.ref w), some (V.ref pw), some (V.bl (tieB d1 d2)), some (V.str (lateA dr)), some (V.ref a6), some (V.ref a8), some (V.str (dueN dn)), none, some vn, some (V.ref a1), some v3, some v5, some vr, none] := rfl
    rw [hσ4]
    -- told
    refine ⟨B.t, fun H16 e16 t16 => ?_⟩
    have S16 := B.ext e16 t16
    obtain ⟨dx, r, as, ld, hw, hr⟩ := id S16.a
    refine ⟨_, rfl, w, dx, _, rfl, hw, rfl, _, rfl, met_ren (fun _ _ z => z) Ex S16.a (K08.Dv.extP dvn S16.e) tn fun H17 s17 => ?_⟩
    have S17 := S16.same s17
    clear hw hr
    rw [on]
    refine ⟨_, rfl, (by show 2 ≤ sizeLine; decide), fun p4 np4 => ?_⟩
    have s18 := sameUpd (o := .lst [.str (dueN dn), .str (dueN dn)]) np4
    have S18 := S17.same s18
    refine ⟨_, rfl, p4, _, 0, _, rfl, rfl, .of upd_same, rfl, _, rfl, p4, _, 1, _, rfl, rfl, .of upd_same, rfl, rfl, ?_⟩
    refine ⟨true, by rw [decide_eq_true rfl], iteT ⟨S18.t, fun H19 e19 t19 => ?_⟩⟩
    have S19 := S18.ext e19 t19
    obtain ⟨dx3, r3, as3, ld3, hw3, hr3⟩ := id S19.a
    refine ⟨_, rfl, w, dx3, _, rfl, hw3, rfl, _, rfl, met_ren (fun _ _ z => z) Ex S19.a (K08.Dv.extP dvo S19.e) to_ fun H20 s20 => ?_⟩
    have S20 := S19.same s20
    rw [oo]
    refine ⟨rfl, ?_⟩
    rw [decide_eq_true rfl]
    exact q _ (E28.trans S20.e) S20.d S20.t
end
end K08

set_option maxHeartbeats 16000000
namespace K08
open PySem PySem.Spec PyProof.Rows L2 GG LamX
abbrev sLaw : Stmt := topS 25
theorem scLaw : FnScope ["script", "web", "spot", "dice", "turn", "told"] ["script"] (defScope sLaw) := ⟨rfl, rfl, rfl, by decide +kernel, rfl, by decide +kernel, by decide +kernel⟩
abbrev qLaw : Str := ("law" : Str) ++ ".<locals>." ++ "<lambda>"
def spLaw (K : PySem.W.Frag) (T : List (Addr × Str)) : Sp := fun vs H Q _ => ∃ (a : Addr) (ns : List Int), vs = [.ref a] ∧ SqL K H a (ns.map V.int) ∧ ns.length ≤ 63 ∧ Tabs T H ∧ ∀ H', Q (.bl true) H'
/-- the rows that data tell -/
def rowOf : PyData → List Nat
  | .tuple ds => (ds.map toI).map Int.toNat
  | _ => []
def rowsOf : PyData → List (List Nat)
  | .tuple ds => ds.map rowOf
  | _ => []
theorem row_dv2 {K : PySem.W.Frag} {F : Addr → Prop} {H : Hp} {v : V} {d : PyData} {many : Nat} (h : Dv F H v d) (b : rowB (many : Int) d = true) : ∃ a : Addr, v = .ref a ∧ SqT K H a ((rowOf d).map vN) := by
  cases d with
  | tuple ds =>
    cases h with
    | @tup a xs _ f e r =>
      have b' : (ds.all (inD many) && ascI (ds.map toI)) = true := b
      rw [Bool.and_eq_true] at b'
      obtain ⟨e1, e2⟩ := r.ints b'.1
      obtain ⟨c1, _, _⟩ := asc_nat e2 b'.2
      refine ⟨a, rfl, ?_⟩
      rw [mapN, show rowOf (.tuple ds) = (ds.map toI).map Int.toNat from rfl, c1, ← e1]
      exact .inl (.inl e)
  | _ => cases b
def adr : V → Addr
  | .ref a => a
  | _ => 0
theorem rowsT_dv {K : PySem.W.Frag} {F : Addr → Prop} {H : Hp} {v : V} {d : PyData} (h : Dv F H v d) (b : rowsB d = true) : ∃ (r : Addr) (as : List Addr), v = .ref r ∧ RowsT K H r as (rowsOf d) := by
  cases d with
  | tuple ds =>
    cases h with
    | @tup r xs _ f e rr =>
      have b' : (decide (1 ≤ ds.length) && (decide (ds.length ≤ 256) && ds.all (rowB ds.length))) = true := b
      rw [Bool.and_eq_true, Bool.and_eq_true] at b'
      have all := List.all_eq_true.mp b'.2.2
      have l := rr.len
      have ref : ∀ (i : Nat) (x : V), xs[i]? = some x → x = .ref (adr x) ∧ SqT K H (adr x) ((rowOf (ds.getD i .none)).map vN) := fun i x hx => by
        obtain ⟨d, hd, dv⟩ := rr.get hx
        obtain ⟨a, rfl, sq⟩ := row_dv2 (K := K) dv (all d (List.mem_of_getElem? hd))
        refine ⟨rfl, ?_⟩
        rw [List.getD_eq_getElem?_getD, hd]
        exact sq
      have back : (xs.map adr).map V.ref = xs := by
        rw [List.map_map]
        refine (List.map_congr_left fun x hx => ?_).trans (List.map_id _)
        obtain ⟨i, hi, e⟩ := List.mem_iff_getElem.mp hx
        exact (ref i x (by rw [List.getElem?_eq_getElem hi, e])).1.symm
      refine ⟨r, xs.map adr, rfl, ⟨by rw [back]; exact .inl (.inl e), by show (xs.map adr).length = (ds.map rowOf).length; rw [List.length_map, List.length_map, l], fun i a row h1 h2 => ?_⟩⟩
      rw [List.getElem?_map] at h1
      obtain ⟨x, hx, rfl⟩ := Option.map_eq_some_iff.mp h1
      have h2' : (ds.map rowOf)[i]? = some row := h2
      rw [List.getElem?_map] at h2'
      obtain ⟨d, hd, rfl⟩ := Option.map_eq_some_iff.mp h2'
      have := (ref i x hx).2
      rw [List.getD_eq_getElem?_getD, hd] at this
      exact this
  | _ => cases b
def fourD : PyData := .tuple [.tuple [.int 0, .int 1], .tuple [.int 2, .int 3], .tuple [.int 0, .int 1], .tuple [.int 2, .int 3]]
def bigD : PyData := .tuple (List.replicate (256 : Int).toNat [.tuple [.int 255]]).flatten
def tooD : PyData := .tuple (List.replicate (257 : Int).toNat [.tuple []]).flatten
def voidD : PyData := .tuple (List.replicate (256 : Int).toNat [.tuple []]).flatten
theorem fourD_ok : thin2 fourD = true ∧ rowsB fourD = true ∧ rowsOf fourD = four := by decide +kernel
theorem bigD_ok : thin2 bigD = true ∧ rowsB bigD = true := by decide +kernel
theorem tooD_ok : thin2 tooD = true ∧ rowsB tooD = false := by decide +kernel
theorem voidD_ok : thin2 voidD = true ∧ rowsB voidD = true ∧ (rowsOf voidD).length = 256 := by decide +kernel
theorem rng_8 (L : Int) : -(2 ^ 62) ≤ (if (if L < 8 then L else 8) > 1 then (if L < 8 then L else 8) else 1) ∧ (if (if L < 8 then L else 8) > 1 then (if L < 8 then L else 8) else 1) < 2 ^ 62 ∧
    (if (if L < 8 then L else 8) > 1 then (if L < 8 then L else 8) else 1).toNat ≤ 8 := by
  refine ⟨?_, ?_, ?_⟩ <;> (repeat' split) <;> omega
section
variable {P : Program} {w : World} {K : PySem.W.Frag} {mg : Str → Option Value} {base : Heap}
theorem ok_law {f fM fD fV fI fX fL C CW CO CN fE c HK : Addr} {T : List (Addr × Str)} {fdM fdD fdV fdI fdX fdL : FuncData} {oc : Value} {od an : Option Addr} {osl : Array (Option Value)} {kV doc pm ct : Value}
    (lk : K.lookup f = some ⟨oc, od, .func (PySem.W.fnOf "law" "law" (defArgs sLaw) (defBody sLaw) (defScope sLaw) .none kV doc pm an (.ref c) ct), osl⟩)
    (hcd : PySem.W.codeIn K (.ref c) "law" = true) (TB : TabB base mg c HK) (hmT : (HK, qLaw) ∈ T) (hT : ∀ p ∈ T, p.1 = HK → p.2 = qLaw)
    (FM : Fun K "_law_met" "_law_met" sMet fM fdM) (bM : Binds K fdM ["call"] []) (bD : Binds K fdD ["script", "spot"] []) (bV : Binds K fdV ["dice"] []) (bX : Binds K fdX ["dice", "web"] []) (bI : Binds K fdI ["self", "rows"] []) (bL : Binds K fdL ["self"] [])
    (W : WebC K C) (GD : FnOk P w K mg base CX0 1 fD fdD ["script", "spot"] (spDice K)) (GV : FnG P w K mg base CX0 9 fV fdV ["dice"] (spRR T)) (GX : FnG P w K mg base CX0 11 fX fdX ["dice", "web"] (spRi C K T))
    (M : Mk K C fI) (GI : FnOk P w K mg base (L2.CX P w) 5 fI fdI ["self", "rows"] (spXInit K C CW)) (mL : Meth K C "__len__" fL) (GL : FnOk P w K mg base CX0 1 fL fdL ["self"] (spWLen K C))
    (gM : mg "_law_met" = some (.ref fM)) (gD : mg "_law_dice" = some (.ref fD)) (gV : mg "_law_rows_right" = some (.ref fV)) (gX : mg "_law_right" = some (.ref fX)) (gW : mg "Web" = some (.ref C))
    (kD : PySem.W.keepIn K (.ref fD) = true) (kV' : PySem.W.keepIn K (.ref fV) = true) (kX : PySem.W.keepIn K (.ref fX) = true)
    (N' : XN K mg CN fE) (gCW : mg "InvalidWeb" = some (.ref CW)) (gCO : mg "InvalidOperation" = some (.ref CO)) (Ex : Exm K CW CO CN) (mp : mg "repr" = none)
    (mr : mg "range" = none) (mx : mg "max" = none) (mn : mg "min" = none) (ml : mg "len" = none) :
    FnG P w K mg base CX0 12 f (PySem.W.fnOf "law" "law" (defArgs sLaw) (defBody sLaw) (defScope sLaw) .none kV doc pm an (.ref c) ct) ["script"] (spLaw K T) := by
  refine fnG_lk (k := 11) lk hcd scLaw (fun vs H Q E h => ?_) (fun A outer s H vs Q E gd hr h => ?_)
  · obtain ⟨a, ns, rfl, _⟩ := h
    rfl
  · obtain ⟨a, ns, rfl, hS, hlen, tb, q⟩ := h
    have hr1 := hr.mono (show 1 ≤ 11 by decide)
    have hr2 := hr.mono (show 2 ≤ 11 by decide)
    have hr6 := hr.mono (show 6 ≤ 11 by decide)
    have hr8 := hr.mono (show 8 ≤ 11 by decide)
    have hr9 := hr.mono (show 9 ≤ 11 by decide)
    have un := hr.units
    have N := scLaw.nd
    refine ⟨_, PSs.nox (pss_cons (ps_set (i := 1) N rfl (.inl rfl) (pe_make M GI hr6 (by rfl) gW bI .nil passN (pa_cons (pe_lit _ fourD (by kernel_rfl)) pa_nil)))
      (pss_cons (ps_for PassesOwn.never rfl (pi_range1 (by rfl) mr (pa_cons (pe_callB (call_max2 rfl) (by rfl) mx (by decide +kernel) (pa_cons pe_int (pa_cons
          (pe_callB (call_min2 rfl) (by rfl) mn (by decide +kernel) (pa_cons pe_int (pa_cons (pe_callB call_len_seq (by rfl) ml PySem.boot_len (pa_cons (pv 0) pa_nil)) pa_nil))) pa_nil))) pa_nil))
          (pg_name (i := 2) N rfl (.inl rfl))
        (pss_cons (ps_set (i := 3) N rfl (.inl rfl) (pe_call GD hr1 (by rfl) gD kD bD .nil pass0 (pa_cons (pv 0) (pa_cons (pv 2) pa_nil))))
        (pss_one (ps_for PassesOwn.never rfl (pi_range1 (by rfl) mr (pa_cons pe_int pa_nil)) (pg_name (i := 4) N rfl (.inl rfl))
          (pss_one (ps_if (PW.pt (pw_or (pt_not (pt_val (pe_callG GV gd hr9 (by rfl) gV kV' bV .nil pass0 (pa_cons (pv 3) pa_nil))))
              (pw_or1 (pt_not (pt_val (pe_callG GX gd hr (by rfl) gX kX bX .nil pass0 (pa_cons (pv 3) (pa_cons (pv 1) pa_nil)))))))) (pss_one (ps_ret pe_bl)) pss_nil))))))
      (pss_cons (ps_set (i := 5) N rfl (.inl rfl) (pe_lst (pa_cons (pe_met (T := T) FM bM gd (k := 6) hr8 mp N' gCW gCO (by rfl) gM TB rfl (q0 := ("law" : Str) ++ ".<locals>.") rfl hmT hT (lamS_by (by kernel_rfl)) rfl (fun _ _ _ _ _ => rfl)
          (fun A outer s H E f c' hr' => pe_make M GI hr' (by rfl) gW bI .nil (passes_call (takes_of rfl rfl rfl rfl) fun _ _ _ _ h => h) (pa_cons (pe_lit _ bigD (by kernel_rfl)) pa_nil))) pa_nil)))
      (pss_cons (ps_expr (pe_bm PySem.F.plainAttrs_list PySem.F.slot_list_append PySem.F.type_list_append mt_append (pv 5) (pa_cons (pe_met (T := T) FM bM gd (k := 6) hr8 mp N' gCW gCO (by rfl) gM TB rfl (q0 := ("law" : Str) ++ ".<locals>.") rfl hmT hT (lamS_by (by kernel_rfl)) rfl (fun _ _ _ _ _ => rfl)
          (fun A outer s H E f c' hr' => pe_make M GI hr' (by rfl) gW bI .nil (passes_call (takes_of rfl rfl rfl rfl) fun _ _ _ _ h => h) (pa_cons (pe_lit _ tooD (by kernel_rfl)) pa_nil))) pa_nil)))
      (pss_one (ps_ret (pe_and (pe_cmpR (op_eqD un) (pv 5) (pe_lst (pa_cons pe_str (pa_cons pe_str pa_nil))) (nomark _))
        (pe_one (pe_cmpR op_eq (pe_callB (call_lenO mL GL hr2 bL pass0) (by rfl) ml (by decide +kernel) (pa_cons (pe_make M GI hr6 (by rfl) gW bI .nil passN (pa_cons (pe_lit _ voidD (by kernel_rfl)) pa_nil)) pa_nil)) pe_int (nomark _)))))))))), ?_⟩
    have new3 : ∀ {H1 : Hp} {x dx : Addr} {o1 o2 : HO}, H1 x = none → H1 dx = none → Same H1 (upd (upd H1 dx o1) x o2) := fun {H1 x dx o1 o2} nx ndx b o e => by
      rw [upd_ne (ne_of_none e nx), upd_ne (ne_of_none e ndx)]
      exact e
    -- web
    refine fun v0 H0 s0 dv0 => fun x dx nx ndx ne => ?_
    have s1 := new3 (o1 := .own x) (o2 := .ins C dx []) nx ndx
    refine ⟨x, dx, v0, true, rfl, upd_same, by rw [← fourD_ok.2.1]; exact rows_ans (dv0.same s1) fourD_ok.1, fun _ H1 b1 hx => ⟨rfl, ?_⟩, fun z => (by cases z)⟩
    have s2 : Same H0 H1 := fun b o e => b1 b o (ne_of_none e nx) (s1 b o e)
    have wa1 : WebAt K H1 C x four := by
      obtain ⟨r, as, rfl, rt⟩ := rowsT_dv (K := K) (dv0.same s2) fourD_ok.2.1
      rw [fourD_ok.2.2] at rt
      exact ⟨dx, r, as, .non, hx, rt⟩
    have s3 := s0.trans s2
    have hM := rng_8 (ns.map V.int).length
    refine ⟨.ref a, rfl, a, _, rfl, .inl (GG.seqL_same s3 hS), _, _, rfl, _, _, rfl, _, rfl, hM.1, hM.2.1, ?_⟩
    refine for_range (lo := 0) (fun i σ H2 => ∃ y2 y3 y4 y5, σ = [some (.ref a), some (.ref x), y2, y3, y4, y5] ∧ SqL K H2 a (ns.map V.int) ∧ Tabs T H2 ∧ WebAt K H2 C x four)
      ⟨_, _, _, _, rfl, GG.seqL_same s3 hS, tb.ext s3, wa1⟩ (fun i σ H2 hi hP => ?_) (fun σ H2 hP => ?_)
    · obtain ⟨y2, y3, y4, y5, rfl, hS2, t2, wa2⟩ := hP
      refine ⟨.ref a, rfl, _, rfl, a, ns, i, by rw [Int.zero_add]; rfl, hS2, by omega, fun H3 p s3 np d3 => ?_⟩
      refine ⟨_, rfl, by decide, by decide, ?_⟩
      refine for_range (lo := 0) (n := 3) (fun j σ H4 => ∃ y4 y5, σ = [some (.ref a), some (.ref x), some (.int (0 + (i : Int))), some (.ref p), y4, y5] ∧ ExtP p H2 H4 ∧ Dice H4 p ∧ Tabs T H4 ∧ WebAt K H4 C x four)
        ⟨_, _, rfl, ExtP.of s3, d3, t2.ext s3, wa2.same s3⟩ (fun j σ H4 hj hP => ?_) (fun σ H4 hP => ?_)
      · obtain ⟨y4, y5, rfl, e4, d4, t4, wa4⟩ := hP
        refine ⟨.ref p, rfl, p, rfl, d4, t4, fun H5 e5 d5 t5 => ⟨true, rfl, iteF ?_⟩⟩
        have wa5 := webAt_extP wa4 d4 e5
        refine ⟨.ref p, rfl, .ref x, rfl, p, x, rfl, d5, t5, wa5, fun H6 e6 d6 t6 => ⟨true, rfl, iteF ?_⟩⟩
        exact ⟨_, _, rfl, (e4.trans e5).trans e6, d6, t6, webAt_extP wa5 d5 e6⟩
      · obtain ⟨y4, y5, rfl, e4, d4, t4, wa4⟩ := hP
        refine ⟨_, _, _, _, rfl, ?_, t4, wa4⟩
        rcases hS2 with (h | ⟨o, h⟩) | h
        · exact .inl (.inl (e4 _ _ (ne_of_none h np) (fun ps z => by cases z) h))
        · exact .inl (.inr ⟨o, e4 _ _ (ne_of_none h np) (fun ps z => by cases z) h⟩)
        · exact .inr h
    · obtain ⟨y2, y3, y4, y5, rfl, hS2, t2, wa2⟩ := hP
      refine ⟨t2, fun H7 e7 t7 => fun v1 H8 s8 dv1 => fun x1 dx1 nx1 ndx1 ne1 => ?_⟩
      have s9 := new3 (o1 := .own x1) (o2 := .ins C dx1 []) nx1 ndx1
      refine ⟨x1, dx1, v1, true, rfl, upd_same, by rw [← bigD_ok.2]; exact rows_ans (dv1.same s9) bigD_ok.1, fun _ H9 b9 hx9 => ⟨rfl, ?_⟩, fun z => (by cases z)⟩
      have s10 : Same H8 H9 := fun b o e => b9 b o (ne_of_none e nx1) (s9 b o e)
      have t9 := (t7.ext s8).ext s10
      refine ⟨(by show 1 ≤ sizeLine; decide), fun pt npt => ?_⟩
      have t10 := t9.ext (sameUpd (o := .lst [.str ""]) npt)
      refine ⟨.ref pt, rfl, .inl ⟨rfl, _, .inl (.inl upd_same)⟩, t10, fun H11 e11 t11 => fun v2 H12 s12 dv2 => fun x2 dx2 nx2 ndx2 ne2 => ?_⟩
      have h11 := e11 _ _ (upd_same (H := H9) (a := pt) (o := .lst [.str ""])) (fun ps z => by cases z)
      have s13 := new3 (o1 := .own x2) (o2 := .ins C dx2 []) nx2 ndx2
      refine ⟨x2, dx2, v2, false, rfl, upd_same, by rw [← tooD_ok.2]; exact rows_ans (dv2.same s13) tooD_ok.1, fun z => (by cases z), fun _ => EMet.web Ex fun H14 s14 => ?_⟩
      have h14 := s14 _ _ (s13 _ _ (s12 _ _ h11))
      refine ⟨pt, _, _, rfl, rfl, h14, small1000 (show 1 ≤ 1000 by decide), ?_⟩
      have okW : ∀ x ∈ [("" : Str), "web"], PyData.strOk x = true := by decide +kernel
      refine ⟨_, rfl, (by show 2 ≤ sizeLine; decide), fun p3 np3 => ?_⟩
      have s15 := sameUpd (o := .lst [.str "", .str "web"]) np3
      refine ⟨_, _, .lst (.of (s15 _ _ upd_same)) (strs_dp ["", "web"]), .lst (.of upd_same) (strs_dp ["", "web"]), strs_shaped _ okW, strs_shaped _ okW, ?_⟩
      rw [strs_eqv, decide_eq_true rfl]
      refine ⟨true, rfl, iteT ?_⟩
      refine fun v3 H16 s16 dv3 => fun x3 dx3 nx3 ndx3 ne3 => ?_
      have s17 := new3 (o1 := .own x3) (o2 := .ins C dx3 []) nx3 ndx3
      refine ⟨x3, dx3, v3, true, rfl, upd_same, by rw [← voidD_ok.2.1]; exact rows_ans (dv3.same s17) voidD_ok.1, fun _ H18 b18 hx18 => ⟨rfl, ?_⟩, fun z => (by cases z)⟩
      have s18 : Same H16 H18 := fun b o e => b18 b o (ne_of_none e nx3) (s17 b o e)
      obtain ⟨r, as, rfl, rt⟩ := rowsT_dv (K := K) (dv3.same s18) voidD_ok.2.1
      refine ⟨x3, dx3, _, rfl, hx18, x3, rowsOf voidD, rfl, ⟨dx3, r, as, .non, hx18, rt⟩, ((rowsOf voidD).length : Int), rfl, by rw [voidD_ok.2.2]; decide, ?_⟩
      rw [voidD_ok.2.2]
      exact ⟨rfl, q _⟩
end
end K08

set_option maxHeartbeats 16000000
namespace K08
open PySem PySem.Spec PyProof.Rows GG PySem.W PySem.Calls PySem.HandSPX
def sInit_CN : Stmt := (clsBody (topS 11)).getD 0 (.Pass ⟨0, 0, 0, 0⟩)
theorem init_ok_CN {K : Frag} {mg : Str → Option Value} {C fI : Addr} (T : XN K mg C fI) {oc : Value} {od an : Option Addr} {doc pm cdv ct : Value} {osl : Array (Option Value)}
    (ho : K.lookup fI = some ⟨oc, od, .func (fnOf "__init__" "InvalidNumber.__init__" (L2.defArgs sInit_CN) (L2.defBody sInit_CN) (L2.defScope sInit_CN) .none .none doc pm an cdv ct), osl⟩)
    (hcd : codeIn K cdv "InvalidNumber.__init__" = true) : PySem.GX.InitOk K "value" C fI := by
  intro prog w A R s x t0 v X lim hx hnx deep hq
  obtain ⟨cd, hcl, hov, hdi⟩ := T.over
  refine Att.call_fn (binds := [("self", .ref x), ("value", v)]) X lim ho hcd deep (BindsTo.of_eq (by first | rfl | with_unfolding_all rfl)) (by first | rfl | decide | with_unfolding_all rfl) (fun s₁ IC => ?_) rfl rfl rfl
  obtain ⟨h₁, tk₁, rfl⟩ := IC.toInCall.same
  have k : ∀ b o, s.heap.get? b = some o → h₁.get? b = some o := IC.toInCall.keep
  have hn := IC.toInCall.ns
  have X₁ : K.In h₁ := X.keeps k
  have hx₁ := k _ _ hx
  show wpAny _ _ (execs _ _) _ _ _
  refine wpAny_execs_cons (plainObj_wpAny_Assign_Attribute ?_)
  refine PySem.GX.loadLoc (v := v) hn (by first | rfl | with_unfolding_all rfl | kernel_rfl) (PySem.GX.loadLoc (v := .ref x) hn (by first | rfl | with_unfolding_all rfl | kernel_rfl) ?_)
  refine set_plain X₁ (ox := excO C t0) (od := none) ⟨hx₁, rfl, rfl, trivial⟩ T.sa ?_
  refine PySem.GX.osaX PySem.F.store_IndexError X₁ hx₁ hcl hov hdi T.noN (fun h₃ tk₃ dx k₃ dn dne hx₃ hn₃ => ?_)
  show wpAny _ _ (execs _ _) _ _ _
  have z : s.heap.objs.size < h₁.objs.size := hn.lt
  exact wpAny_execs_nil (hq h₃ tk₃ dx ⟨fun b o hb e => k₃ b o hb (k b o e), hx₃, Nat.le_of_lt (Nat.lt_of_lt_of_le z dn), dne, hn₃⟩)
end K08

set_option maxHeartbeats 4000000
namespace GG
open PySem PySem.Spec PyProof.Rows L2
/-! ### the end of a law's row, the table of modules known -/
section
variable {P : Program} {w : World} {K : PySem.W.Frag} {mg mb : Str → Option Value} {CX : CXT} {k : Nat} {fa a : Addr} {fd : FuncData}
  {x : Str} {sp : Sp} {s₁ : Shared} {vs : List Value} {ns : List Int}
/-- from a heap in which the script alone may be tracked -/
theorem law_coreS {H : Hp} (KX : K.In s₁.heap) (ng : s₁.heap.Ns mainGlobals mg) (nb : s₁.heap.Ns builtinsNs mb)
    (bb : ∀ x : Str, x ≠ "__name__" → mb x = bootBuiltins x) (lim : s₁.heap.NoLimit) (sm : ∃ mm, s₁.heap.Ns sysModules mm) (g0 : s₁.gens = #[])
    (ha : s₁.heap.get? a = some { cls := .type "list", data := .seq vs.toArray }) (room : Room k callerA)
    (F : ∀ base : Heap, K.In base → base.Ns mainGlobals mg → (∃ mm, base.Ns sysModules mm) → FnG P w K mg base CX k fa fd [x] sp)
    (bind : ∀ (s : Shared) (u : Value), BindsTo s fd ⟨[u], []⟩ [(x, u)])
    (want : sp [.ref a] H (fun v _ => v = .bl true) fun _ _ _ => False)
    (noX : ∀ H e s', CX [] H s₁ (fun _ _ _ => False) e s' → False)
    (only : Only H) (ok : HOk P w H s₁.heap) (at_a : ∀ b, H b ≠ none → b = a) (notK : H a ≠ none → K.lookup a = none) :
    codeAny (model P w) callerA (.call (.ref fa) ⟨[.ref a], []⟩)
      (fun r s' => r = .ok (.ret (.bool true)) ∧ OldK s₁.heap s'.heap ∧ s'.os = s₁.os ∧ AllBare s'.gens) s₁ := by
  have dictFree : ∀ {b : Addr} {o : Obj} {es : Array DictEntry} {ep : Nat},
      s₁.heap.get? b = some o → o.data = .dict es ep → H b = none := by
    intro b o es ep e d
    rcases hq : H b with _ | u
    · rfl
    · have ba := at_a b (fun z => by rw [z] at hq; cases hq)
      rw [ba, ha] at e
      cases e
      cases (show Data.seq vs.toArray _ = Data.dict es ep from d)
  have ns : ∀ {b : Addr} {m : Str → Option Value}, s₁.heap.Ns b m → (hidT s₁.heap H).Ns b m := by
    rintro b m ⟨o, es, ep, e, d, r⟩
    exact ⟨o, es, ep, hidT_get e (dictFree e d), d, r⟩
  have KB : K.In (hidT s₁.heap H) := by
    intro b o e
    refine hidT_get (KX b o e) ?_
    rcases hq : H b with _ | u
    · rfl
    · have ba := at_a b (fun z => by rw [z] at hq; cases hq)
      rw [ba] at hq e
      rw [notK (fun z => by rw [z] at hq; cases hq)] at e
      cases e
  have en : Env0 P w K mg (hidT s₁.heap H) callerA [] s₁ H := by
    refine ⟨rfl, ⟨KB, ns ng, ⟨mb, ns nb, bb⟩, ?_⟩, fun b o e => of_hidT e, Nat.le_of_eq (hidT_size _ _), trivial, ?_, ok, .of_eq g0⟩
    · obtain ⟨mc, h1, h2⟩ := lim
      exact ⟨mc, ns h1, h2⟩
    · intro b z
      cases (show b ∈ ([] : List Addr) from z)
  refine codeAny_mono ((F _ KB (ns ng) (by obtain ⟨mm, h1⟩ := sm; exact ⟨mm, ns h1⟩)).go callerA [] s₁ H ⟨[.ref a], []⟩ [.ref a] [.ref a] _ _ rfl room en
    (bind s₁ (.ref a)) (.cons rfl .nil) want) ?_
  intro r s' z
  cases r with
  | error e => exact (noX H e s' z).elim
  | ok fl =>
    cases fl with
    | next => exact z.elim
    | brk => exact z.elim
    | cont => exact z.elim
    | ret u =>
      obtain ⟨v, H', os, bare, un, ok', rv, q⟩ := z
      cases (show v = .bl true from q)
      cases (show u = Value.bool true from rv)
      refine ⟨rfl, OldK.of_keep ?_, os, bare⟩
      intro b o e
      rcases only b with hq | ⟨ob, xs, hq⟩
      · exact un.keep b o e hq (fun z => by cases (show b ∈ ([] : List Addr) from z)) (fun z => by cases z)
      · have f1 := (ok b _ hq).left
        have f2 := (ok' b _ (un.frzs b ob _ hq)).left
        rw [e] at f1
        cases f1
        exact f2
theorem law_callS (KX : K.In s₁.heap) (ng : s₁.heap.Ns mainGlobals mg) (nb : s₁.heap.Ns builtinsNs mb)
    (bb : ∀ x : Str, x ≠ "__name__" → mb x = bootBuiltins x) (lim : s₁.heap.NoLimit) (sm : ∃ mm, s₁.heap.Ns sysModules mm) (g0 : s₁.gens = #[])
    (ha : s₁.heap.get? a = some { cls := .type "list", data := .seq vs.toArray }) (hi : IntsAre vs ns) (hl : ns.length ≤ sizeLine)
    (room : Room k callerA) (F : ∀ base : Heap, K.In base → base.Ns mainGlobals mg → (∃ mm, base.Ns sysModules mm) → FnG P w K mg base CX k fa fd [x] sp)
    (bind : ∀ (s : Shared) (u : Value), BindsTo s fd ⟨[u], []⟩ [(x, u)])
    (want : ∀ H : Hp, Only H → SqL K H a (ns.map V.int) → sp [.ref a] H (fun v _ => v = .bl true) fun _ _ _ => False)
    (noX : ∀ H e s', CX [] H s₁ (fun _ _ _ => False) e s' → False) :
    codeAny (model P w) callerA (.call (.ref fa) ⟨[.ref a], []⟩)
      (fun r s' => r = .ok (.ret (.bool true)) ∧ OldK s₁.heap s'.heap ∧ s'.os = s₁.os ∧ AllBare s'.gens) s₁ := by
  have vi := vals_ints hi
  rcases hk : K.lookup a with _ | o
  · have hH : ∀ b, (fun b => if b = a then some (HO.frz { cls := .type "list", data := .seq vs.toArray } (.lst (ns.map V.int))) else none : Hp) b ≠ none → b = a := by
      intro b z
      by_cases e : b = a
      · exact e
      · exact absurd (if_neg e) z
    refine law_coreS (H := fun b => if b = a then some (HO.frz { cls := .type "list", data := .seq vs.toArray } (.lst (ns.map V.int))) else none)
      KX ng nb bb lim sm g0 ha room F bind (want _ ?_ (.inl (.inr ⟨_, if_pos rfl⟩))) noX ?_ ?_ hH (fun _ => hk)
    all_goals first
      | (intro b
         by_cases e : b = a
         · exact .inr ⟨_, _, if_pos e⟩
         · exact .inl (if_neg e))
      | (intro b u z
         by_cases e : b = a
         · have z' := (if_pos e).symm.trans z
           cases z'
           rw [e]
           exact ⟨ha, by rw [List.length_map]; exact hl, vs, _, vi, ha⟩
         · have z' := (if_neg e).symm.trans z
           cases z')
  · have e := KX a o hk
    rw [ha] at e
    cases e
    refine law_coreS (H := fun _ => none) KX ng nb bb lim sm g0 ha room F bind (want _ (fun _ => .inl rfl) ?_) noX (fun _ => .inl rfl) ?_ (fun b z => absurd rfl z) (fun z => absurd rfl z)
    · exact .inr ⟨_, vs.toArray, _, hk, rfl, rfl, rfl, by rw [List.size_toArray, hi.length]; exact hl, by simpa using vi⟩
    · intro b u z
      cases (show (none : Option HO) = some u from z)
end
/-- the goal that the head leaves -/
theorem walkS {l : PySem.W.OpenLaw} {n k : Nat} {q : Program} {loose : List Str} {XP : (Str → Option Value) → Heap → Prop} {YP : World → Heap → Prop}
    {d : DefRec} {K : Params → PySem.W.Frag} {CX : World → CXT} {sp : World → Sp} {x : Str}
    (imp : importsNone q = true) (hn : l.most = some n) (hn2 : n ≤ sizeLine) (hdf : d.params.defaults = []) (room : Room k callerA)
    (hY : ∀ (w : World) (h : Heap), YP w h → (K w.params).In h)
    (F : ∀ (w : World) (mg : Str → Option Value) (fa : Addr) (h : Heap), (K w.params).In h → h.Ns mainGlobals mg → mg d.name = some (.ref fa) →
      ∃ fd : FuncData, (∀ (s : Shared) (u : Value), BindsTo s fd ⟨[u], []⟩ [(x, u)]) ∧
        ∀ base : Heap, (K w.params).In base → base.Ns mainGlobals mg → (∃ mm, base.Ns sysModules mm) → FnG l.prog w (K w.params) mg base (CX w) k fa fd [x] (sp w))
    (want : ∀ (w : World) (H : Hp) (a : Addr) (ns : List Int), ns.length ≤ n → Only H → SqL (K w.params) H a (ns.map V.int) →
      sp w [.ref a] H (fun v _ => v = .bl true) fun _ _ _ => False)
    (noX : ∀ (w : World) (H : Hp) (s : Shared) (e : Value) (s' : Shared), CX w [] H s (fun _ _ _ => False) e s' → False) :
    PySem.W.WalkO q loose XP YP l.row.toRowW d [] (fun f vs => PySem.call f vs) := by
  apply Att.attach_call hn hdf
  intro w s₀ s₁ mg mb fa o pm cd doc a vs ns G Y ho hd hcd hmg hobj hints hlen hg
  obtain ⟨fd, hb, hF⟩ := F w mg fa _ (hY w _ Y) G.T.g hmg
  exact law_callS (hY w _ Y) G.T.g G.T.b G.T.builtins G.T.nolimit (by obtain ⟨mm, h1, _⟩ := (G.T.seer imp).mods; exact ⟨mm, h1⟩) hg hobj hints (Nat.le_trans hlen hn2) room hF hb
    (fun H h1 h2 => want w H a ns hlen h1 h2) (fun H e s' => noX w H s₁ e s')
end GG

set_option maxHeartbeats 4000000
namespace K08
open PySem PySem.Spec PyProof.Rows L2 GG
theorem all_mk {l : PySem.W.OpenLaw} {w : World} {K : PySem.W.Frag} {h : Heap} {mg : Str → Option Value} {f_is_integer f_is_within f_is_ascending f_is_arrangement f__are_rows f__law_dice f__law_roll f__law_pick f__law_met f__law_first f__law_place_word f__law_rows_right f__law_right f_law fa CN fI_CN CW CO c__law_rows_right HK__law_rows_right c__law_right HK__law_right c_law HK_law  C f_C_init f_C_renamed f_C_with_tie f_C_without_tie f_C_with_row f_C_part f_C_getitem f_C_contains f_C_len f_C_is_place f_C_check_place  : Addr} 
    (X : K.In h) (G : h.Ns mainGlobals mg) (hfa : mg "law" = some (.ref fa))
    {od0 an0 : Option Addr} {sl0 : Array (Option Value)} {oc0 kV0 dc0 pm0 cd0 ct0 : Value}
    (a0 : PySem.W.nsIn K mainGlobals "is_integer" = some (some (.ref f_is_integer)))
    (l0 : K.lookup f_is_integer = some ⟨oc0, od0, .func (PySem.W.fnOf "is_integer" "is_integer" (defArgs sInteger) (defBody sInteger) (defScope sInteger) .none kV0 dc0 pm0 an0 cd0 ct0), sl0⟩)
    (c0 : PySem.W.codeIn K cd0 "is_integer" = true) (k0 : PySem.W.keepIn K (.ref f_is_integer) = true)
    {od1 an1 : Option Addr} {sl1 : Array (Option Value)} {oc1 kV1 dc1 pm1 cd1 ct1 : Value}
    (a1 : PySem.W.nsIn K mainGlobals "is_within" = some (some (.ref f_is_within)))
    (l1 : K.lookup f_is_within = some ⟨oc1, od1, .func (PySem.W.fnOf "is_within" "is_within" (defArgs sWithin) (defBody sWithin) (defScope sWithin) .none kV1 dc1 pm1 an1 cd1 ct1), sl1⟩)
    (c1 : PySem.W.codeIn K cd1 "is_within" = true) (k1 : PySem.W.keepIn K (.ref f_is_within) = true)
    {od2 an2 : Option Addr} {sl2 : Array (Option Value)} {oc2 kV2 dc2 pm2 cd2 ct2 : Value}
    (a2 : PySem.W.nsIn K mainGlobals "is_ascending" = some (some (.ref f_is_ascending)))
    (l2 : K.lookup f_is_ascending = some ⟨oc2, od2, .func (PySem.W.fnOf "is_ascending" "is_ascending" (defArgs sAsc) (defBody sAsc) (defScope sAsc) .none kV2 dc2 pm2 an2 cd2 ct2), sl2⟩)
    (c2 : PySem.W.codeIn K cd2 "is_ascending" = true) (k2 : PySem.W.keepIn K (.ref f_is_ascending) = true)
    {od3 an3 : Option Addr} {sl3 : Array (Option Value)} {oc3 kV3 dc3 pm3 cd3 ct3 : Value}
    (a3 : PySem.W.nsIn K mainGlobals "is_arrangement" = some (some (.ref f_is_arrangement)))
    (l3 : K.lookup f_is_arrangement = some ⟨oc3, od3, .func (PySem.W.fnOf "is_arrangement" "is_arrangement" (defArgs sArr) (defBody sArr) (defScope sArr) .none kV3 dc3 pm3 an3 cd3 ct3), sl3⟩)
    (c3 : PySem.W.codeIn K cd3 "is_arrangement" = true) (k3 : PySem.W.keepIn K (.ref f_is_arrangement) = true)
    {od4 an4 : Option Addr} {sl4 : Array (Option Value)} {oc4 kV4 dc4 pm4 cd4 ct4 : Value}
    (a4 : PySem.W.nsIn K mainGlobals "_are_rows" = some (some (.ref f__are_rows)))
    (l4 : K.lookup f__are_rows = some ⟨oc4, od4, .func (PySem.W.fnOf "_are_rows" "_are_rows" (defArgs sRows) (defBody sRows) (defScope sRows) .none kV4 dc4 pm4 an4 cd4 ct4), sl4⟩)
    (c4 : PySem.W.codeIn K cd4 "_are_rows" = true) (k4 : PySem.W.keepIn K (.ref f__are_rows) = true)
    {od5 an5 : Option Addr} {sl5 : Array (Option Value)} {oc5 kV5 dc5 pm5 cd5 ct5 : Value}
    (a5 : PySem.W.nsIn K mainGlobals "_law_dice" = some (some (.ref f__law_dice)))
    (l5 : K.lookup f__law_dice = some ⟨oc5, od5, .func (PySem.W.fnOf "_law_dice" "_law_dice" (defArgs sDice) (defBody sDice) (defScope sDice) .none kV5 dc5 pm5 an5 cd5 ct5), sl5⟩)
    (c5 : PySem.W.codeIn K cd5 "_law_dice" = true) (k5 : PySem.W.keepIn K (.ref f__law_dice) = true)
    {od6 an6 : Option Addr} {sl6 : Array (Option Value)} {oc6 kV6 dc6 pm6 cd6 ct6 : Value}
    (a6 : PySem.W.nsIn K mainGlobals "_law_roll" = some (some (.ref f__law_roll)))
    (l6 : K.lookup f__law_roll = some ⟨oc6, od6, .func (PySem.W.fnOf "_law_roll" "_law_roll" (defArgs sRoll) (defBody sRoll) (defScope sRoll) .none kV6 dc6 pm6 an6 cd6 ct6), sl6⟩)
    (c6 : PySem.W.codeIn K cd6 "_law_roll" = true) (k6 : PySem.W.keepIn K (.ref f__law_roll) = true)
    {od7 an7 : Option Addr} {sl7 : Array (Option Value)} {oc7 kV7 dc7 pm7 cd7 ct7 : Value}
    (a7 : PySem.W.nsIn K mainGlobals "_law_pick" = some (some (.ref f__law_pick)))
    (l7 : K.lookup f__law_pick = some ⟨oc7, od7, .func (PySem.W.fnOf "_law_pick" "_law_pick" (defArgs sPick) (defBody sPick) (defScope sPick) .none kV7 dc7 pm7 an7 cd7 ct7), sl7⟩)
    (c7 : PySem.W.codeIn K cd7 "_law_pick" = true) (k7 : PySem.W.keepIn K (.ref f__law_pick) = true)
    {od8 an8 : Option Addr} {sl8 : Array (Option Value)} {oc8 kV8 dc8 pm8 cd8 ct8 : Value}
    (a8 : PySem.W.nsIn K mainGlobals "_law_met" = some (some (.ref f__law_met)))
    (l8 : K.lookup f__law_met = some ⟨oc8, od8, .func (PySem.W.fnOf "_law_met" "_law_met" (defArgs sMet) (defBody sMet) (defScope sMet) .none kV8 dc8 pm8 an8 cd8 ct8), sl8⟩)
    (c8 : PySem.W.codeIn K cd8 "_law_met" = true) (k8 : PySem.W.keepIn K (.ref f__law_met) = true)
    {od9 an9 : Option Addr} {sl9 : Array (Option Value)} {oc9 kV9 dc9 pm9 cd9 ct9 : Value}
    (a9 : PySem.W.nsIn K mainGlobals "_law_first" = some (some (.ref f__law_first)))
    (l9 : K.lookup f__law_first = some ⟨oc9, od9, .func (PySem.W.fnOf "_law_first" "_law_first" (defArgs sFirst) (defBody sFirst) (defScope sFirst) .none kV9 dc9 pm9 an9 cd9 ct9), sl9⟩)
    (c9 : PySem.W.codeIn K cd9 "_law_first" = true) (k9 : PySem.W.keepIn K (.ref f__law_first) = true)
    {od10 an10 : Option Addr} {sl10 : Array (Option Value)} {oc10 kV10 dc10 pm10 cd10 ct10 : Value}
    (a10 : PySem.W.nsIn K mainGlobals "_law_place_word" = some (some (.ref f__law_place_word)))
    (l10 : K.lookup f__law_place_word = some ⟨oc10, od10, .func (PySem.W.fnOf "_law_place_word" "_law_place_word" (defArgs sPlaceW) (defBody sPlaceW) (defScope sPlaceW) .none kV10 dc10 pm10 an10 cd10 ct10), sl10⟩)
    (c10 : PySem.W.codeIn K cd10 "_law_place_word" = true) (k10 : PySem.W.keepIn K (.ref f__law_place_word) = true)
    {od11 an11 : Option Addr} {sl11 : Array (Option Value)} {oc11 kV11 dc11 pm11 ct11 : Value}
    (a11 : PySem.W.nsIn K mainGlobals "_law_rows_right" = some (some (.ref f__law_rows_right)))
    (l11 : K.lookup f__law_rows_right = some ⟨oc11, od11, .func (PySem.W.fnOf "_law_rows_right" "_law_rows_right" (defArgs sRR) (defBody sRR) (defScope sRR) .none kV11 dc11 pm11 an11 (.ref c__law_rows_right) ct11), sl11⟩)
    (c11 : PySem.W.codeIn K (.ref c__law_rows_right) "_law_rows_right" = true) (k11 : PySem.W.keepIn K (.ref f__law_rows_right) = true)
    {od12 an12 : Option Addr} {sl12 : Array (Option Value)} {oc12 kV12 dc12 pm12 ct12 : Value}
    (a12 : PySem.W.nsIn K mainGlobals "_law_right" = some (some (.ref f__law_right)))
    (l12 : K.lookup f__law_right = some ⟨oc12, od12, .func (PySem.W.fnOf "_law_right" "_law_right" (defArgs sRi) (defBody sRi) (defScope sRi) .none kV12 dc12 pm12 an12 (.ref c__law_right) ct12), sl12⟩)
    (c12 : PySem.W.codeIn K (.ref c__law_right) "_law_right" = true) (k12 : PySem.W.keepIn K (.ref f__law_right) = true)
    {od13 an13 : Option Addr} {sl13 : Array (Option Value)} {oc13 kV13 dc13 pm13 ct13 : Value}
    (a13 : PySem.W.nsIn K mainGlobals "law" = some (some (.ref f_law)))
    (l13 : K.lookup f_law = some ⟨oc13, od13, .func (PySem.W.fnOf "law" "law" (defArgs sLaw) (defBody sLaw) (defScope sLaw) .none kV13 dc13 pm13 an13 (.ref c_law) ct13), sl13⟩)
    (c13 : PySem.W.codeIn K (.ref c_law) "law" = true) (k13 : PySem.W.keepIn K (.ref f_law) = true)
    (z_isinstance : PySem.W.nsIn K mainGlobals "isinstance" = some none)
    (z_int : PySem.W.nsIn K mainGlobals "int" = some none)
    (z_bool : PySem.W.nsIn K mainGlobals "bool" = some none)
    (z_len : PySem.W.nsIn K mainGlobals "len" = some none)
    (z_max : PySem.W.nsIn K mainGlobals "max" = some none)
    (z_min : PySem.W.nsIn K mainGlobals "min" = some none)
    (z_abs : PySem.W.nsIn K mainGlobals "abs" = some none)
    (z_range : PySem.W.nsIn K mainGlobals "range" = some none)
    (z_tuple : PySem.W.nsIn K mainGlobals "tuple" = some none)
    (z_list : PySem.W.nsIn K mainGlobals "list" = some none)
    (z_all : PySem.W.nsIn K mainGlobals "all" = some none)
    (z_zip : PySem.W.nsIn K mainGlobals "zip" = some none)
    (z_sorted : PySem.W.nsIn K mainGlobals "sorted" = some none)
    (z_enumerate : PySem.W.nsIn K mainGlobals "enumerate" = some none)
    (z_repr : PySem.W.nsIn K mainGlobals "repr" = some none)
    {t_BOUND : Tok} (y_BOUND : PySem.W.nsIn K mainGlobals "_BOUND" = some (some (.int BND t_BOUND)))
    {tMAX_PLACES : Tok} (yMAX_PLACES : PySem.W.nsIn K mainGlobals "MAX_PLACES" = some (some (.int 256 tMAX_PLACES)))
    {nmCN qnCN : Str} {NnCN : Addr} {bsCN : List Value} {snCN : List Str} {subCN : List Value} {abCN : Bool} {colCN : Option Bool} {ddCN : Option Addr} {m0CN m1CN m2CN m3CN m5CN : Option Value}
    {odICN anICN : Option Addr} {slICN : Array (Option Value)} {ocICN dcICN pmICN cdICN ctICN : Value}
    (xN_CN : PySem.W.nsIn K mainGlobals "InvalidNumber" = some (some (.ref CN)))
    (xL_CN : K.lookup CN = some (excClassObj nmCN qnCN CN NnCN bsCN [.type "IndexError", .type "LookupError", .type "Exception", .type "BaseException", .type "object"] true snCN subCN abCN colCN ddCN m0CN m1CN m2CN m3CN m5CN "IndexError.__new__"))
    (xsa_CN : PySem.W.findIn K (.ref CN) "__setattr__" = some (some (.builtin "object.__setattr__")))
    (xga_CN : PySem.W.findIn K (.ref CN) "__getattribute__" = some (some (.builtin "BaseException.__getattribute__")))
    (xgg_CN : PySem.W.findIn K (.ref CN) "__getattr__" = some none)
    (xnb_CN : PySem.W.findIn K (.ref CN) "value" = some none)
    (xi_CN : PySem.W.findIn K (.ref CN) "__init__" = some (some (.ref fI_CN)))
    (xt_CN : PySem.W.typeIn K (.ref fI_CN) = some (.type "function"))
    (xil_CN : K.lookup fI_CN = some ⟨ocICN, odICN, .func (PySem.W.fnOf "__init__" "InvalidNumber.__init__" (defArgs sInit_CN) (defBody sInit_CN) (defScope sInit_CN) .none .none dcICN pmICN anICN cdICN ctICN), slICN⟩)
    (xic_CN : PySem.W.codeIn K cdICN "InvalidNumber.__init__" = true)
    (xk_CN : PySem.W.keepIn K (.ref CN) = true)
    (xe_CN : PySem.W.subIn K (.ref CN) (.type "BaseException") = some true)
    (xty_CN : PySem.W.typeIn K (.ref CN) = some (.type "type"))
    (xh_CN : PySem.W.hasDictIn K CN = true)
    (xss_CN : PySem.W.subIn K (.ref CN) (.ref CN) = some true)
    (kN_C : PySem.W.nsIn K mainGlobals "Web" = some (some (.ref C)))
    (kpg_C : PySem.W.plainGet K C Str.empty = true)
    (khd_C : PySem.W.hasDictIn K C = true)
    (kpo_C : PySem.W.plainOver K C = true)
    (ksa_C : PySem.W.findIn K (.ref C) "__setattr__" = some (some (.builtin "object.__setattr__")))
    (kmk_C : PySem.W.makesIn K C = true)
    (kkc_C : PySem.W.keepIn K (.ref C) = true)
    (kne_C : PySem.W.findIn K (.ref C) "__ne__" = some (some (.builtin "object.__ne__")))
    (kso_C : PySem.W.subIn K (.ref C) (.type "object") = some true)
    (kcl_C : PySem.W.findIn K (.ref C) "__class__" = some (some (.builtin "object.__class__")))
    (kcg_C : PySem.W.specialIn K (.builtin "object.__class__") "__get__" = some (some (.builtin "getset_descriptor.__get__")))
    (kct_C : PySem.W.takesIn K (.builtin "object.__class__") = some true)
    (kmo_C : PySem.W.mroIn K C (.type "object") = some true)
    (kf_rows_C : PySem.W.findIn K (.ref C) "_rows" = some none)
    (kf_lone_depth_C : PySem.W.findIn K (.ref C) "_lone_depth" = some none)
    {od_C_init an_C_init : Option Addr} {sl_C_init : Array (Option Value)} {oc_C_init kV_C_init dc_C_init pm_C_init cd_C_init ct_C_init : Value}
    (ma_C_init : PySem.W.findIn K (.ref C) "__init__" = some (some (.ref f_C_init)))
    (mi_C_init : PySem.W.isFn K (.ref f_C_init) = true)
    (ml_C_init : K.lookup f_C_init = some ⟨oc_C_init, od_C_init, .func (PySem.W.fnOf "__init__" "Web.__init__" (defArgs sWInit) (defBody sWInit) (defScope sWInit) .none kV_C_init dc_C_init pm_C_init an_C_init cd_C_init ct_C_init), sl_C_init⟩)
    (mc_C_init : PySem.W.codeIn K cd_C_init "Web.__init__" = true)
    (mk_C_init : PySem.W.keepIn K (.ref f_C_init) = true)
    (mf_C_init : PySem.W.fnIn K f_C_init = true)
    {od_C_renamed an_C_renamed : Option Addr} {sl_C_renamed : Array (Option Value)} {oc_C_renamed kV_C_renamed dc_C_renamed pm_C_renamed cd_C_renamed ct_C_renamed : Value}
    (ma_C_renamed : PySem.W.findIn K (.ref C) "renamed" = some (some (.ref f_C_renamed)))
    (mi_C_renamed : PySem.W.isFn K (.ref f_C_renamed) = true)
    (ml_C_renamed : K.lookup f_C_renamed = some ⟨oc_C_renamed, od_C_renamed, .func (PySem.W.fnOf "renamed" "Web.renamed" (defArgs sWRen) (defBody sWRen) (defScope sWRen) .none kV_C_renamed dc_C_renamed pm_C_renamed an_C_renamed cd_C_renamed ct_C_renamed), sl_C_renamed⟩)
    (mc_C_renamed : PySem.W.codeIn K cd_C_renamed "Web.renamed" = true)
    (mk_C_renamed : PySem.W.keepIn K (.ref f_C_renamed) = true)
    (mf_C_renamed : PySem.W.fnIn K f_C_renamed = true)
    {od_C_with_tie an_C_with_tie : Option Addr} {sl_C_with_tie : Array (Option Value)} {oc_C_with_tie kV_C_with_tie dc_C_with_tie pm_C_with_tie cd_C_with_tie ct_C_with_tie : Value}
    (ma_C_with_tie : PySem.W.findIn K (.ref C) "with_tie" = some (some (.ref f_C_with_tie)))
    (mi_C_with_tie : PySem.W.isFn K (.ref f_C_with_tie) = true)
    (ml_C_with_tie : K.lookup f_C_with_tie = some ⟨oc_C_with_tie, od_C_with_tie, .func (PySem.W.fnOf "with_tie" "Web.with_tie" (defArgs sWTie) (defBody sWTie) (defScope sWTie) .none kV_C_with_tie dc_C_with_tie pm_C_with_tie an_C_with_tie cd_C_with_tie ct_C_with_tie), sl_C_with_tie⟩)
    (mc_C_with_tie : PySem.W.codeIn K cd_C_with_tie "Web.with_tie" = true)
    (mk_C_with_tie : PySem.W.keepIn K (.ref f_C_with_tie) = true)
    (mf_C_with_tie : PySem.W.fnIn K f_C_with_tie = true)
    {od_C_without_tie an_C_without_tie : Option Addr} {sl_C_without_tie : Array (Option Value)} {oc_C_without_tie kV_C_without_tie dc_C_without_tie pm_C_without_tie cd_C_without_tie ct_C_without_tie : Value}
    (ma_C_without_tie : PySem.W.findIn K (.ref C) "without_tie" = some (some (.ref f_C_without_tie)))
    (mi_C_without_tie : PySem.W.isFn K (.ref f_C_without_tie) = true)
    (ml_C_without_tie : K.lookup f_C_without_tie = some ⟨oc_C_without_tie, od_C_without_tie, .func (PySem.W.fnOf "without_tie" "Web.without_tie" (defArgs sWUntie) (defBody sWUntie) (defScope sWUntie) .none kV_C_without_tie dc_C_without_tie pm_C_without_tie an_C_without_tie cd_C_without_tie ct_C_without_tie), sl_C_without_tie⟩)
    (mc_C_without_tie : PySem.W.codeIn K cd_C_without_tie "Web.without_tie" = true)
    (mk_C_without_tie : PySem.W.keepIn K (.ref f_C_without_tie) = true)
    (mf_C_without_tie : PySem.W.fnIn K f_C_without_tie = true)
    {od_C_with_row an_C_with_row : Option Addr} {sl_C_with_row : Array (Option Value)} {oc_C_with_row kV_C_with_row dc_C_with_row pm_C_with_row cd_C_with_row ct_C_with_row : Value}
    (ma_C_with_row : PySem.W.findIn K (.ref C) "with_row" = some (some (.ref f_C_with_row)))
    (mi_C_with_row : PySem.W.isFn K (.ref f_C_with_row) = true)
    (ml_C_with_row : K.lookup f_C_with_row = some ⟨oc_C_with_row, od_C_with_row, .func (PySem.W.fnOf "with_row" "Web.with_row" (defArgs sWRow) (defBody sWRow) (defScope sWRow) .none kV_C_with_row dc_C_with_row pm_C_with_row an_C_with_row cd_C_with_row ct_C_with_row), sl_C_with_row⟩)
    (mc_C_with_row : PySem.W.codeIn K cd_C_with_row "Web.with_row" = true)
    (mk_C_with_row : PySem.W.keepIn K (.ref f_C_with_row) = true)
    (mf_C_with_row : PySem.W.fnIn K f_C_with_row = true)
    {od_C_part an_C_part : Option Addr} {sl_C_part : Array (Option Value)} {oc_C_part kV_C_part dc_C_part pm_C_part cd_C_part ct_C_part : Value}
    (ma_C_part : PySem.W.findIn K (.ref C) "part" = some (some (.ref f_C_part)))
    (mi_C_part : PySem.W.isFn K (.ref f_C_part) = true)
    (ml_C_part : K.lookup f_C_part = some ⟨oc_C_part, od_C_part, .func (PySem.W.fnOf "part" "Web.part" (defArgs sWPart) (defBody sWPart) (defScope sWPart) .none kV_C_part dc_C_part pm_C_part an_C_part cd_C_part ct_C_part), sl_C_part⟩)
    (mc_C_part : PySem.W.codeIn K cd_C_part "Web.part" = true)
    (mk_C_part : PySem.W.keepIn K (.ref f_C_part) = true)
    (mf_C_part : PySem.W.fnIn K f_C_part = true)
    {od_C_getitem an_C_getitem : Option Addr} {sl_C_getitem : Array (Option Value)} {oc_C_getitem kV_C_getitem dc_C_getitem pm_C_getitem cd_C_getitem ct_C_getitem : Value}
    (ma_C_getitem : PySem.W.findIn K (.ref C) "__getitem__" = some (some (.ref f_C_getitem)))
    (mi_C_getitem : PySem.W.isFn K (.ref f_C_getitem) = true)
    (ml_C_getitem : K.lookup f_C_getitem = some ⟨oc_C_getitem, od_C_getitem, .func (PySem.W.fnOf "__getitem__" "Web.__getitem__" (defArgs sWGet) (defBody sWGet) (defScope sWGet) .none kV_C_getitem dc_C_getitem pm_C_getitem an_C_getitem cd_C_getitem ct_C_getitem), sl_C_getitem⟩)
    (mc_C_getitem : PySem.W.codeIn K cd_C_getitem "Web.__getitem__" = true)
    (mk_C_getitem : PySem.W.keepIn K (.ref f_C_getitem) = true)
    (mf_C_getitem : PySem.W.fnIn K f_C_getitem = true)
    {od_C_contains an_C_contains : Option Addr} {sl_C_contains : Array (Option Value)} {oc_C_contains kV_C_contains dc_C_contains pm_C_contains cd_C_contains ct_C_contains : Value}
    (ma_C_contains : PySem.W.findIn K (.ref C) "__contains__" = some (some (.ref f_C_contains)))
    (mi_C_contains : PySem.W.isFn K (.ref f_C_contains) = true)
    (ml_C_contains : K.lookup f_C_contains = some ⟨oc_C_contains, od_C_contains, .func (PySem.W.fnOf "__contains__" "Web.__contains__" (defArgs sWIn) (defBody sWIn) (defScope sWIn) .none kV_C_contains dc_C_contains pm_C_contains an_C_contains cd_C_contains ct_C_contains), sl_C_contains⟩)
    (mc_C_contains : PySem.W.codeIn K cd_C_contains "Web.__contains__" = true)
    (mk_C_contains : PySem.W.keepIn K (.ref f_C_contains) = true)
    (mf_C_contains : PySem.W.fnIn K f_C_contains = true)
    {od_C_len an_C_len : Option Addr} {sl_C_len : Array (Option Value)} {oc_C_len kV_C_len dc_C_len pm_C_len cd_C_len ct_C_len : Value}
    (ma_C_len : PySem.W.findIn K (.ref C) "__len__" = some (some (.ref f_C_len)))
    (mi_C_len : PySem.W.isFn K (.ref f_C_len) = true)
    (ml_C_len : K.lookup f_C_len = some ⟨oc_C_len, od_C_len, .func (PySem.W.fnOf "__len__" "Web.__len__" (defArgs sWLen) (defBody sWLen) (defScope sWLen) .none kV_C_len dc_C_len pm_C_len an_C_len cd_C_len ct_C_len), sl_C_len⟩)
    (mc_C_len : PySem.W.codeIn K cd_C_len "Web.__len__" = true)
    (mk_C_len : PySem.W.keepIn K (.ref f_C_len) = true)
    (mf_C_len : PySem.W.fnIn K f_C_len = true)
    {od_C_is_place an_C_is_place : Option Addr} {sl_C_is_place : Array (Option Value)} {oc_C_is_place kV_C_is_place dc_C_is_place pm_C_is_place cd_C_is_place ct_C_is_place : Value}
    (ma_C_is_place : PySem.W.findIn K (.ref C) "_is_place" = some (some (.ref f_C_is_place)))
    (mi_C_is_place : PySem.W.isFn K (.ref f_C_is_place) = true)
    (ml_C_is_place : K.lookup f_C_is_place = some ⟨oc_C_is_place, od_C_is_place, .func (PySem.W.fnOf "_is_place" "Web._is_place" (defArgs sWIs) (defBody sWIs) (defScope sWIs) .none kV_C_is_place dc_C_is_place pm_C_is_place an_C_is_place cd_C_is_place ct_C_is_place), sl_C_is_place⟩)
    (mc_C_is_place : PySem.W.codeIn K cd_C_is_place "Web._is_place" = true)
    (mk_C_is_place : PySem.W.keepIn K (.ref f_C_is_place) = true)
    (mf_C_is_place : PySem.W.fnIn K f_C_is_place = true)
    {od_C_check_place an_C_check_place : Option Addr} {sl_C_check_place : Array (Option Value)} {oc_C_check_place kV_C_check_place dc_C_check_place pm_C_check_place cd_C_check_place ct_C_check_place : Value}
    (ma_C_check_place : PySem.W.findIn K (.ref C) "_check_place" = some (some (.ref f_C_check_place)))
    (mi_C_check_place : PySem.W.isFn K (.ref f_C_check_place) = true)
    (ml_C_check_place : K.lookup f_C_check_place = some ⟨oc_C_check_place, od_C_check_place, .func (PySem.W.fnOf "_check_place" "Web._check_place" (defArgs sWCheck) (defBody sWCheck) (defScope sWCheck) .none kV_C_check_place dc_C_check_place pm_C_check_place an_C_check_place cd_C_check_place ct_C_check_place), sl_C_check_place⟩)
    (mc_C_check_place : PySem.W.codeIn K cd_C_check_place "Web._check_place" = true)
    (mk_C_check_place : PySem.W.keepIn K (.ref f_C_check_place) = true)
    (mf_C_check_place : PySem.W.fnIn K f_C_check_place = true)
    (oN_CW : PySem.W.nsIn K mainGlobals "InvalidWeb" = some (some (.ref CW)))
    (ox_CW : PySem.W.excIn K CW [.type "ValueError", .type "Exception", .type "BaseException", .type "object"] "ValueError.__new__" = true)
    (ok_CW : PySem.W.keepIn K (.ref CW) = true)
    (ob_CW : PySem.W.subIn K (.ref CW) (.type "BaseException") = some true)
    (ot_CW : PySem.W.typeIn K (.ref CW) = some (.type "type"))
    (oh_CW : PySem.W.hasDictIn K CW = true)
    (oss_CW : PySem.W.subIn K (.ref CW) (.ref CW) = some true)
    (oN_CO : PySem.W.nsIn K mainGlobals "InvalidOperation" = some (some (.ref CO)))
    (ox_CO : PySem.W.excIn K CO [.type "ValueError", .type "Exception", .type "BaseException", .type "object"] "ValueError.__new__" = true)
    (ok_CO : PySem.W.keepIn K (.ref CO) = true)
    (ob_CO : PySem.W.subIn K (.ref CO) (.type "BaseException") = some true)
    (ot_CO : PySem.W.typeIn K (.ref CO) = some (.type "type"))
    (oh_CO : PySem.W.hasDictIn K CO = true)
    (oss_CO : PySem.W.subIn K (.ref CO) (.ref CO) = some true)
    (s_ow : PySem.W.subIn K (.ref CO) (.ref CW) = some false)
    (s_nw : PySem.W.subIn K (.ref CN) (.ref CW) = some false)
    (s_no : PySem.W.subIn K (.ref CN) (.ref CO) = some false)
    {odc__law_rows_right : Option Addr} {vsc__law_rows_right : Array Value} {slc__law_rows_right : Array (Option Value)}
    (qL__law_rows_right : K.lookup c__law_rows_right = some ⟨.type "code", odc__law_rows_right, .fields vsc__law_rows_right, slc__law_rows_right⟩)
    (qT__law_rows_right : vsc__law_rows_right[11]? = some (.ref HK__law_rows_right))
    (qC__law_rows_right : PySem.W.codeHdIn K c__law_rows_right HK__law_rows_right = true)
    (qN__law_rows_right : K.lookup HK__law_rows_right = none)
    (qB__law_rows_right : h.get? HK__law_rows_right = some { cls := .none, data := .fields #[] })
    {odc__law_right : Option Addr} {vsc__law_right : Array Value} {slc__law_right : Array (Option Value)}
    (qL__law_right : K.lookup c__law_right = some ⟨.type "code", odc__law_right, .fields vsc__law_right, slc__law_right⟩)
    (qT__law_right : vsc__law_right[11]? = some (.ref HK__law_right))
    (qC__law_right : PySem.W.codeHdIn K c__law_right HK__law_right = true)
    (qN__law_right : K.lookup HK__law_right = none)
    (qB__law_right : h.get? HK__law_right = some { cls := .none, data := .fields #[] })
    {odc_law : Option Addr} {vsc_law : Array Value} {slc_law : Array (Option Value)}
    (qL_law : K.lookup c_law = some ⟨.type "code", odc_law, .fields vsc_law, slc_law⟩)
    (qT_law : vsc_law[11]? = some (.ref HK_law))
    (qC_law : PySem.W.codeHdIn K c_law HK_law = true)
    (qN_law : K.lookup HK_law = none)
    (qB_law : h.get? HK_law = some { cls := .none, data := .fields #[] })
    (n12 : HK__law_rows_right ≠ HK__law_right)
    (n13 : HK__law_rows_right ≠ HK_law)
    (n23 : HK__law_right ≠ HK_law)
    : LawM l w K L2.CX0 12 63 "script" mg fa h := by
  have e := hfa.symm.trans (PySem.W.mg_of X G a13)
  cases e
  have F_is_integer := fun_mk (st := sInteger) l0 c0 k0
  have b_is_integer := F_is_integer.binds (ps := ["value"]) fun _ _ _ _ _ _ us hl => match us, hl with | [_], _ => rfl
  have g_is_integer := PySem.W.mg_of X G a0
  have q_is_integer := F_is_integer.kp
  have F_is_within := fun_mk (st := sWithin) l1 c1 k1
  have b_is_within := F_is_within.binds (ps := ["value", "least", "most"]) fun _ _ _ _ _ _ us hl => match us, hl with | [_, _, _], _ => rfl
  have g_is_within := PySem.W.mg_of X G a1
  have q_is_within := F_is_within.kp
  have F_is_ascending := fun_mk (st := sAsc) l2 c2 k2
  have b_is_ascending := F_is_ascending.binds (ps := ["value", "many"]) fun _ _ _ _ _ _ us hl => match us, hl with | [_, _], _ => rfl
  have g_is_ascending := PySem.W.mg_of X G a2
  have q_is_ascending := F_is_ascending.kp
  have F_is_arrangement := fun_mk (st := sArr) l3 c3 k3
  have b_is_arrangement := F_is_arrangement.binds (ps := ["value", "many"]) fun _ _ _ _ _ _ us hl => match us, hl with | [_, _], _ => rfl
  have g_is_arrangement := PySem.W.mg_of X G a3
  have q_is_arrangement := F_is_arrangement.kp
  have F__are_rows := fun_mk (st := sRows) l4 c4 k4
  have b__are_rows := F__are_rows.binds (ps := ["rows"]) fun _ _ _ _ _ _ us hl => match us, hl with | [_], _ => rfl
  have g__are_rows := PySem.W.mg_of X G a4
  have q__are_rows := F__are_rows.kp
  have F__law_dice := fun_mk (st := sDice) l5 c5 k5
  have b__law_dice := F__law_dice.binds (ps := ["script", "spot"]) fun _ _ _ _ _ _ us hl => match us, hl with | [_, _], _ => rfl
  have g__law_dice := PySem.W.mg_of X G a5
  have q__law_dice := F__law_dice.kp
  have F__law_roll := fun_mk (st := sRoll) l6 c6 k6
  have b__law_roll := F__law_roll.binds (ps := ["dice", "total"]) fun _ _ _ _ _ _ us hl => match us, hl with | [_, _], _ => rfl
  have g__law_roll := PySem.W.mg_of X G a6
  have q__law_roll := F__law_roll.kp
  have F__law_pick := fun_mk (st := sPick) l7 c7 k7
  have b__law_pick := F__law_pick.binds (ps := ["dice", "items"]) fun _ _ _ _ _ _ us hl => match us, hl with | [_, _], _ => rfl
  have g__law_pick := PySem.W.mg_of X G a7
  have q__law_pick := F__law_pick.kp
  have F__law_met := fun_mk (st := sMet) l8 c8 k8
  have b__law_met := F__law_met.binds (ps := ["call"]) fun _ _ _ _ _ _ us hl => match us, hl with | [_], _ => rfl
  have g__law_met := PySem.W.mg_of X G a8
  have q__law_met := F__law_met.kp
  have F__law_first := fun_mk (st := sFirst) l9 c9 k9
  have b__law_first := F__law_first.binds (ps := ["words"]) fun _ _ _ _ _ _ us hl => match us, hl with | [_], _ => rfl
  have g__law_first := PySem.W.mg_of X G a9
  have q__law_first := F__law_first.kp
  have F__law_place_word := fun_mk (st := sPlaceW) l10 c10 k10
  have b__law_place_word := F__law_place_word.binds (ps := ["value"]) fun _ _ _ _ _ _ us hl => match us, hl with | [_], _ => rfl
  have g__law_place_word := PySem.W.mg_of X G a10
  have q__law_place_word := F__law_place_word.kp
  have F__law_rows_right := fun_mk (st := sRR) l11 c11 k11
  have b__law_rows_right := F__law_rows_right.binds (ps := ["dice"]) fun _ _ _ _ _ _ us hl => match us, hl with | [_], _ => rfl
  have g__law_rows_right := PySem.W.mg_of X G a11
  have q__law_rows_right := F__law_rows_right.kp
  have F__law_right := fun_mk (st := sRi) l12 c12 k12
  have b__law_right := F__law_right.binds (ps := ["dice", "web"]) fun _ _ _ _ _ _ us hl => match us, hl with | [_, _], _ => rfl
  have g__law_right := PySem.W.mg_of X G a12
  have q__law_right := F__law_right.kp
  have F_law := fun_mk (st := sLaw) l13 c13 k13
  have m_isinstance := PySem.W.mg_none_of X G z_isinstance
  have m_int := PySem.W.mg_none_of X G z_int
  have m_bool := PySem.W.mg_none_of X G z_bool
  have m_len := PySem.W.mg_none_of X G z_len
  have m_max := PySem.W.mg_none_of X G z_max
  have m_min := PySem.W.mg_none_of X G z_min
  have m_abs := PySem.W.mg_none_of X G z_abs
  have m_range := PySem.W.mg_none_of X G z_range
  have m_tuple := PySem.W.mg_none_of X G z_tuple
  have m_list := PySem.W.mg_none_of X G z_list
  have m_all := PySem.W.mg_none_of X G z_all
  have m_zip := PySem.W.mg_none_of X G z_zip
  have m_sorted := PySem.W.mg_none_of X G z_sorted
  have m_enumerate := PySem.W.mg_none_of X G z_enumerate
  have m_repr := PySem.W.mg_none_of X G z_repr
  have m_BOUND := PySem.W.mg_of X G y_BOUND
  have mMAX_PLACES := PySem.W.mg_of X G yMAX_PLACES
  have T_CN : PySem.GX.OwnX K mg "InvalidNumber" "value" [.type "IndexError", .type "LookupError", .type "Exception", .type "BaseException", .type "object"] "IndexError.__new__" CN fI_CN := { gC := PySem.W.mg_of X G xN_CN, cls := ⟨nmCN, qnCN, NnCN, bsCN, _, snCN, subCN, abCN, colCN, ddCN, m0CN, m1CN, m2CN, m3CN, m5CN, xL_CN, by decide +kernel⟩, sa := xsa_CN, ga := xga_CN, gg := xgg_CN, noN := xnb_CN, iC := xi_CN, tC := xt_CN, kC := xk_CN, exC := xe_CN, tyC := xty_CN, hdC := xh_CN, te := PySem.W.exm_ref xe_CN xh_CN xty_CN xss_CN }
  have init_CN := init_ok_CN T_CN xil_CN xic_CN
  have g_CW := PySem.W.mg_of X G oN_CW
  have g_CO := PySem.W.mg_of X G oN_CO
  have g_C := PySem.W.mg_of X G kN_C
  have W_C : Cls K C := ⟨kpg_C, khd_C, kpo_C, ksa_C⟩
  have F_C_init := fun_mk (st := sWInit) ml_C_init mc_C_init mk_C_init
  have b_C_init := F_C_init.binds (ps := ["self", "rows"]) fun _ _ _ _ _ _ us hl => match us, hl with | [_, _], _ => rfl
  have F_C_renamed := fun_mk (st := sWRen) ml_C_renamed mc_C_renamed mk_C_renamed
  have b_C_renamed := F_C_renamed.binds (ps := ["self", "names"]) fun _ _ _ _ _ _ us hl => match us, hl with | [_, _], _ => rfl
  have F_C_with_tie := fun_mk (st := sWTie) ml_C_with_tie mc_C_with_tie mk_C_with_tie
  have b_C_with_tie := F_C_with_tie.binds (ps := ["self", "one", "other"]) fun _ _ _ _ _ _ us hl => match us, hl with | [_, _, _], _ => rfl
  have F_C_without_tie := fun_mk (st := sWUntie) ml_C_without_tie mc_C_without_tie mk_C_without_tie
  have b_C_without_tie := F_C_without_tie.binds (ps := ["self", "one", "other"]) fun _ _ _ _ _ _ us hl => match us, hl with | [_, _, _], _ => rfl
  have F_C_with_row := fun_mk (st := sWRow) ml_C_with_row mc_C_with_row mk_C_with_row
  have b_C_with_row := F_C_with_row.binds (ps := ["self", "place", "row"]) fun _ _ _ _ _ _ us hl => match us, hl with | [_, _, _], _ => rfl
  have F_C_part := fun_mk (st := sWPart) ml_C_part mc_C_part mk_C_part
  have b_C_part := F_C_part.binds (ps := ["self", "places"]) fun _ _ _ _ _ _ us hl => match us, hl with | [_, _], _ => rfl
  have F_C_getitem := fun_mk (st := sWGet) ml_C_getitem mc_C_getitem mk_C_getitem
  have b_C_getitem := F_C_getitem.binds (ps := ["self", "place"]) fun _ _ _ _ _ _ us hl => match us, hl with | [_, _], _ => rfl
  have F_C_contains := fun_mk (st := sWIn) ml_C_contains mc_C_contains mk_C_contains
  have b_C_contains := F_C_contains.binds (ps := ["self", "value"]) fun _ _ _ _ _ _ us hl => match us, hl with | [_, _], _ => rfl
  have F_C_len := fun_mk (st := sWLen) ml_C_len mc_C_len mk_C_len
  have b_C_len := F_C_len.binds (ps := ["self"]) fun _ _ _ _ _ _ us hl => match us, hl with | [_], _ => rfl
  have F_C_is_place := fun_mk (st := sWIs) ml_C_is_place mc_C_is_place mk_C_is_place
  have b_C_is_place := F_C_is_place.binds (ps := ["self", "value"]) fun _ _ _ _ _ _ us hl => match us, hl with | [_, _], _ => rfl
  have F_C_check_place := fun_mk (st := sWCheck) ml_C_check_place mc_C_check_place mk_C_check_place
  have b_C_check_place := F_C_check_place.binds (ps := ["self", "place"]) fun _ _ _ _ _ _ us hl => match us, hl with | [_, _], _ => rfl
  have M_C_init : Meth K C "__init__" f_C_init := ⟨ma_C_init, mi_C_init, mk_C_init⟩
  have K_C : Mk K C f_C_init := ⟨kmk_C, ma_C_init, mi_C_init, kkc_C⟩
  have M_C_renamed : Meth K C "renamed" f_C_renamed := ⟨ma_C_renamed, mi_C_renamed, mk_C_renamed⟩
  have M_C_with_tie : Meth K C "with_tie" f_C_with_tie := ⟨ma_C_with_tie, mi_C_with_tie, mk_C_with_tie⟩
  have M_C_without_tie : Meth K C "without_tie" f_C_without_tie := ⟨ma_C_without_tie, mi_C_without_tie, mk_C_without_tie⟩
  have M_C_with_row : Meth K C "with_row" f_C_with_row := ⟨ma_C_with_row, mi_C_with_row, mk_C_with_row⟩
  have M_C_part : Meth K C "part" f_C_part := ⟨ma_C_part, mi_C_part, mk_C_part⟩
  have M_C_getitem : Meth K C "__getitem__" f_C_getitem := ⟨ma_C_getitem, mi_C_getitem, mk_C_getitem⟩
  have M_C_contains : Meth K C "__contains__" f_C_contains := ⟨ma_C_contains, mi_C_contains, mk_C_contains⟩
  have M_C_len : Meth K C "__len__" f_C_len := ⟨ma_C_len, mi_C_len, mk_C_len⟩
  have M_C_is_place : Meth K C "_is_place" f_C_is_place := ⟨ma_C_is_place, mi_C_is_place, mk_C_is_place⟩
  have M_C_check_place : Meth K C "_check_place" f_C_check_place := ⟨ma_C_check_place, mi_C_check_place, mk_C_check_place⟩
  refine ⟨PySem.W.fnOf "law" "law" (defArgs sLaw) (defBody sLaw) (defScope sLaw) .none kV13 dc13 pm13 an13 (.ref c_law) ct13, [(c__law_rows_right, HK__law_rows_right), (c__law_right, HK__law_right), (c_law, HK_law)], spLaw K [(HK__law_rows_right, qRR), (HK__law_right, qRi), (HK_law, qLaw)], ?_, ?_, ?_, fun s v => .of_eq rfl, ?_, fun base _ _ TBs sm => ?_⟩
  · intro p hp
    simp only [List.mem_cons, List.mem_nil_iff, or_false] at hp
    rcases hp with rfl | rfl | rfl
    · exact qB__law_rows_right
    · exact qB__law_right
    · exact qB_law
  · intro p hp
    simp only [List.mem_cons, List.mem_nil_iff, or_false] at hp
    rcases hp with rfl | rfl | rfl
    · exact qN__law_rows_right
    · exact qN__law_right
    · exact qN_law
  · intro p hp
    simp only [List.mem_cons, List.mem_nil_iff, or_false] at hp
    rcases hp with rfl | rfl | rfl
    · exact PySem.W.codeHd_of_K X qC__law_rows_right
    · exact PySem.W.codeHd_of_K X qC__law_right
    · exact PySem.W.codeHd_of_K X qC_law
  · refine fun H a ns hl hH hS => ⟨a, ns, rfl, hS, hl, fun z hz => ?_, fun _ => rfl⟩
    simp only [List.mem_cons, List.mem_nil_iff, or_false] at hz
    rcases hz with rfl | rfl | rfl
    · exact .nil (hH (c__law_rows_right, HK__law_rows_right) (by simp))
    · exact .nil (hH (c__law_right, HK__law_right) (by simp))
    · exact .nil (hH (c_law, HK_law) (by simp))
  have T1 := TBs (c__law_rows_right, HK__law_rows_right) (by simp)
  have T2 := TBs (c__law_right, HK__law_right) (by simp)
  have T3 := TBs (c_law, HK_law) (by simp)
  have t1 : ∀ p ∈ [(HK__law_rows_right, qRR), (HK__law_right, qRi), (HK_law, qLaw)], p.1 = HK__law_rows_right → p.2 = qRR := fun p hp e => by
    simp only [List.mem_cons, List.mem_nil_iff, or_false] at hp
    rcases hp with rfl | rfl | rfl
    · rfl
    · exact absurd e (Ne.symm n12)
    · exact absurd e (Ne.symm n13)
  have t2 : ∀ p ∈ [(HK__law_rows_right, qRR), (HK__law_right, qRi), (HK_law, qLaw)], p.1 = HK__law_right → p.2 = qRi := fun p hp e => by
    simp only [List.mem_cons, List.mem_nil_iff, or_false] at hp
    rcases hp with rfl | rfl | rfl
    · exact absurd e n12
    · rfl
    · exact absurd e (Ne.symm n23)
  have t3 : ∀ p ∈ [(HK__law_rows_right, qRR), (HK__law_right, qRi), (HK_law, qLaw)], p.1 = HK_law → p.2 = qLaw := fun p hp e => by
    simp only [List.mem_cons, List.mem_nil_iff, or_false] at hp
    rcases hp with rfl | rfl | rfl
    · exact absurd e n13
    · exact absurd e n23
    · rfl
  have W : WebC K C := ⟨W_C, kf_rows_C, kf_lone_depth_C⟩
  have XO : XP K mg "InvalidOperation" CO := ⟨ox_CO, g_CO, ok_CO, ob_CO, ot_CO⟩
  have XW : XP K mg "InvalidWeb" CW := ⟨ox_CW, g_CW, ok_CW, ob_CW, ot_CW⟩
  have Ex : Exm K CW CO CN := ⟨PySem.W.exm_ref ob_CW oh_CW ot_CW oss_CW, PySem.W.exm_ref ob_CW oh_CW ot_CW s_ow, PySem.W.exm_ref ob_CO oh_CO ot_CO oss_CO, PySem.W.exm_ref ob_CW oh_CW ot_CW s_nw, PySem.W.exm_ref ob_CO oh_CO ot_CO s_no, PySem.W.exm_ref xe_CN xh_CN xty_CN xss_CN⟩
  have GD : FnOk l.prog w K mg base CX0 1 _ _ ["script", "spot"] (spDice K) := ok_dice F__law_dice m_len m_int m_max m_abs
  have GR : FnOk l.prog w K mg base CX0 1 _ _ ["dice", "total"] spRoll := ok_roll F__law_roll m_int
  have GK : FnOk l.prog w K mg base CX0 2 _ _ ["dice", "items"] (spPick K) := ok_pick F__law_pick F__law_roll b__law_roll g__law_roll m_len m_int
  have GI : FnOk l.prog w K mg base CX0 1 _ _ ["value"] (spInteger K) := ok_integer F_is_integer m_int m_bool m_isinstance m_BOUND
  have GWi : FnOk l.prog w K mg base CX0 2 _ _ ["value", "least", "most"] (spWithin K) := ok_within F_is_within b_is_integer GI g_is_integer q_is_integer
  have GA : FnOk l.prog w K mg base CX0 3 _ _ ["value", "many"] (spAsc K) := ok_asc F_is_ascending b_is_integer GI g_is_integer q_is_integer m_isinstance m_tuple m_all m_zip m_len
  have GAr : FnOk l.prog w K mg base CX0 3 _ _ ["value", "many"] (spArr K) := ok_arr F_is_arrangement b_is_integer GI g_is_integer q_is_integer m_isinstance m_tuple m_all m_sorted m_list m_range
  have GRo : FnOk l.prog w K mg base CX0 4 _ _ ["rows"] (spRows K) := ok_rows F__are_rows b_is_ascending GA g_is_ascending q_is_ascending mMAX_PLACES m_isinstance m_tuple m_len m_all
  have GWI := ok_winit F_C_init b__are_rows W GRo g__are_rows q__are_rows
  have GXI := okX_init F_C_init b__are_rows W GRo g__are_rows q__are_rows XW
  have GWL : FnOk l.prog w K mg base CX0 1 _ _ ["self"] (spWLen K C) := ok_wlen F_C_len W m_len
  have GWS := ok_wis F_C_is_place b_is_within W GWi g_is_within q_is_within m_len
  have GXC := okX_check F_C_check_place b_C_is_place W M_C_is_place GWS T_CN init_CN
  have GXG := okX_get F_C_getitem b_C_check_place W M_C_check_place GXC
  have GXR := okX_row F_C_with_row b_C_check_place b_is_ascending b_C_init W M_C_check_place GXC (ascB GA) g_is_ascending q_is_ascending K_C GXI g_C XO m_len
  have GXT := okX_tie F_C_with_tie b_C_check_place b_C_with_row W M_C_check_place GXC M_C_with_row GXR XO m_tuple m_sorted
  have GXU := okX_untie F_C_without_tie b_C_check_place b_C_with_row W M_C_check_place GXC M_C_with_row GXR XO m_tuple
  have GXIn := ok_win F_C_contains b_C_is_place W M_C_is_place (isB GWS) m_isinstance m_tuple m_len
  have GXP := okX_part F_C_part b_is_ascending b_C_init W (ascB GA) g_is_ascending q_is_ascending K_C GWI g_C XO m_len m_tuple m_enumerate
  have GXN := okX_ren F_C_renamed b_is_arrangement b_C_init W (arrB GAr) g_is_arrangement q_is_arrangement K_C GWI g_C XO m_len m_tuple m_enumerate m_sorted m_range
  have GFi : FnOk l.prog w K mg base CX0 1 _ _ ["words"] (spFirst K) := ok_first F__law_first
  have GPl : FnG l.prog w K mg base CX0 1 _ _ ["value"] spPlaceW := ok_placew F__law_place_word m_repr
  have GV := ok_rr (T := [(HK__law_rows_right, qRR), (HK__law_right, qRi), (HK_law, qLaw)]) l11 c11 T1 (by simp) t1 F__law_met b__law_met b__law_pick b_C_init W GK K_C GXI g__law_met g__law_pick q__law_pick g_C T_CN g_CW g_CO Ex m_repr
  have GX := ok_ri (T := [(HK__law_rows_right, qRR), (HK__law_right, qRi), (HK_law, qLaw)]) l12 c12 T2 (by simp) t2 F__law_met b__law_met b__law_pick b__law_first b__law_place_word b_C_with_tie b_C_without_tie b_C_with_row b_C_part b_C_getitem b_C_renamed b_C_contains W GK GFi GPl
    M_C_with_tie (toTie GXT) M_C_without_tie (toTie GXU) M_C_with_row (toRow GXR) M_C_part (toPart GXP) M_C_getitem mf_C_getitem (toGet GXG) M_C_renamed (toRen GXN) M_C_contains GXIn g__law_met g__law_pick g__law_first g__law_place_word q__law_pick q__law_first q__law_place_word T_CN g_CW g_CO Ex m_repr
  exact ok_law l13 c13 T3 (by simp) t3 F__law_met b__law_met b__law_dice b__law_rows_right b__law_right b_C_init b_C_len W GD GV GX K_C GXI M_C_len GWL g__law_met g__law_dice g__law_rows_right g__law_right g_C q__law_dice q__law_rows_right q__law_right T_CN g_CW g_CO Ex m_repr m_range m_max m_min m_len
end K08

set_option maxHeartbeats 4000000
open PySem PySem.W PyProof.Rows
set_option maxHeartbeats 0 in
theorem PySem.Challenge.cw_onebetween_k08_errors_of_webs_holds : PySem.Challenge.rw_onebetween_k08_errors_of_webs.Holds := by
  w_on; o_law; k_head; (case hw => w_witness2)
  k_fill
  refine GG.walkM (l := PySem.Challenge.rw_onebetween_k08_errors_of_webs) (n := 63) (k := 12) (x := "script") (CX := fun _ => L2.CX0)  (by first | kernel_rfl | decide +kernel) rfl (by decide) rfl ⟨rfl, by decide, by decide⟩ (fun w h Y => PySem.W.km_in_of Y) ?F (fun _ _ _ _ _ h => h)
  case F =>
    intro w mg fa h Y KX G hmg
    refine' K08.all_mk KX G hmg ?a0 ?l0 ?c0 ?k0 ?a1 ?l1 ?c1 ?k1 ?a2 ?l2 ?c2 ?k2 ?a3 ?l3 ?c3 ?k3 ?a4 ?l4 ?c4 ?k4 ?a5 ?l5 ?c5 ?k5 ?a6 ?l6 ?c6 ?k6 ?a7 ?l7 ?c7 ?k7 ?a8 ?l8 ?c8 ?k8 ?a9 ?l9 ?c9 ?k9 ?a10 ?l10 ?c10 ?k10 ?a11 ?l11 ?c11 ?k11 ?a12 ?l12 ?c12 ?k12 ?a13 ?l13 ?c13 ?k13 ?z_isinstance ?z_int ?z_bool ?z_len ?z_max ?z_min ?z_abs ?z_range ?z_tuple ?z_list ?z_all ?z_zip ?z_sorted ?z_enumerate ?z_repr ?y_BOUND ?yMAX_PLACES ?xN_CN ?xL_CN ?xsa_CN ?xga_CN ?xgg_CN ?xnb_CN ?xi_CN ?xt_CN ?xil_CN ?xic_CN ?xk_CN ?xe_CN ?xty_CN ?xh_CN ?xss_CN ?kN_C ?kpg_C ?khd_C ?kpo_C ?ksa_C ?kmk_C ?kkc_C ?kne_C ?kso_C ?kcl_C ?kcg_C ?kct_C ?kmo_C ?kf_rows_C ?kf_lone_depth_C ?ma_C_init ?mi_C_init ?ml_C_init ?mc_C_init ?mk_C_init ?mf_C_init ?ma_C_renamed ?mi_C_renamed ?ml_C_renamed ?mc_C_renamed ?mk_C_renamed ?mf_C_renamed ?ma_C_with_tie ?mi_C_with_tie ?ml_C_with_tie ?mc_C_with_tie ?mk_C_with_tie ?mf_C_with_tie ?ma_C_without_tie ?mi_C_without_tie ?ml_C_without_tie ?mc_C_without_tie ?mk_C_without_tie ?mf_C_without_tie ?ma_C_with_row ?mi_C_with_row ?ml_C_with_row ?mc_C_with_row ?mk_C_with_row ?mf_C_with_row ?ma_C_part ?mi_C_part ?ml_C_part ?mc_C_part ?mk_C_part ?mf_C_part ?ma_C_getitem ?mi_C_getitem ?ml_C_getitem ?mc_C_getitem ?mk_C_getitem ?mf_C_getitem ?ma_C_contains ?mi_C_contains ?ml_C_contains ?mc_C_contains ?mk_C_contains ?mf_C_contains ?ma_C_len ?mi_C_len ?ml_C_len ?mc_C_len ?mk_C_len ?mf_C_len ?ma_C_is_place ?mi_C_is_place ?ml_C_is_place ?mc_C_is_place ?mk_C_is_place ?mf_C_is_place ?ma_C_check_place ?mi_C_check_place ?ml_C_check_place ?mc_C_check_place ?mk_C_check_place ?mf_C_check_place ?oN_CW ?ox_CW ?ok_CW ?ob_CW ?ot_CW ?oh_CW ?oss_CW ?oN_CO ?ox_CO ?ok_CO ?ob_CO ?ot_CO ?oh_CO ?oss_CO ?s_ow ?s_nw ?s_no ?qL__law_rows_right ?qT__law_rows_right ?qC__law_rows_right ?qN__law_rows_right ?qB__law_rows_right ?qL__law_right ?qT__law_right ?qC__law_right ?qN__law_right ?qB__law_right ?qL_law ?qT_law ?qC_law ?qN_law ?qB_law ?n12 ?n13 ?n23
    (case a0 => k_is); (case l0 => k_is); (case c0 => k_is); (case k0 => k_is); (case a1 => k_is); (case l1 => k_is); (case c1 => k_is); (case k1 => k_is); (case a2 => k_is); (case l2 => k_is); (case c2 => k_is); (case k2 => k_is); (case a3 => k_is); (case l3 => k_is); (case c3 => k_is); (case k3 => k_is); (case a4 => k_is); (case l4 => k_is); (case c4 => k_is); (case k4 => k_is); (case a5 => k_is); (case l5 => k_is); (case c5 => k_is); (case k5 => k_is); (case a6 => k_is); (case l6 => k_is); (case c6 => k_is); (case k6 => k_is); (case a7 => k_is); (case l7 => k_is); (case c7 => k_is); (case k7 => k_is); (case a8 => k_is); (case l8 => k_is); (case c8 => k_is); (case k8 => k_is); (case a9 => k_is); (case l9 => k_is); (case c9 => k_is); (case k9 => k_is); (case a10 => k_is); (case l10 => k_is); (case c10 => k_is); (case k10 => k_is); (case a11 => k_is); (case l11 => k_is); (case c11 => k_is); (case k11 => k_is); (case a12 => k_is); (case l12 => k_is); (case c12 => k_is); (case k12 => k_is); (case a13 => k_is); (case l13 => k_is); (case c13 => k_is); (case k13 => k_is); (case z_isinstance => k_is); (case z_int => k_is); (case z_bool => k_is); (case z_len => k_is); (case z_max => k_is); (case z_min => k_is); (case z_abs => k_is); (case z_range => k_is); (case z_tuple => k_is); (case z_list => k_is); (case z_all => k_is); (case z_zip => k_is); (case z_sorted => k_is); (case z_enumerate => k_is); (case z_repr => k_is); (case y_BOUND => k_is); (case yMAX_PLACES => k_is); (case xN_CN => k_is); (case xL_CN => k_is); (case xsa_CN => k_is); (case xga_CN => k_is); (case xgg_CN => k_is); (case xnb_CN => k_is); (case xi_CN => k_is); (case xt_CN => k_is); (case xil_CN => k_is); (case xic_CN => k_is); (case xk_CN => k_is); (case xe_CN => k_is); (case xty_CN => k_is); (case xh_CN => k_is); (case xss_CN => k_is); (case kN_C => k_is); (case kpg_C => k_is); (case khd_C => k_is); (case kpo_C => k_is); (case ksa_C => k_is); (case kmk_C => k_is); (case kkc_C => k_is); (case kne_C => k_is); (case kso_C => k_is); (case kcl_C => k_is); (case kcg_C => k_is); (case kct_C => k_is); (case kmo_C => k_is); (case kf_rows_C => k_is); (case kf_lone_depth_C => k_is); (case ma_C_init => k_is); (case mi_C_init => k_is); (case ml_C_init => k_is); (case mc_C_init => k_is); (case mk_C_init => k_is); (case mf_C_init => k_is); (case ma_C_renamed => k_is); (case mi_C_renamed => k_is); (case ml_C_renamed => k_is); (case mc_C_renamed => k_is); (case mk_C_renamed => k_is); (case mf_C_renamed => k_is); (case ma_C_with_tie => k_is); (case mi_C_with_tie => k_is); (case ml_C_with_tie => k_is); (case mc_C_with_tie => k_is); (case mk_C_with_tie => k_is); (case mf_C_with_tie => k_is); (case ma_C_without_tie => k_is); (case mi_C_without_tie => k_is); (case ml_C_without_tie => k_is); (case mc_C_without_tie => k_is); (case mk_C_without_tie => k_is); (case mf_C_without_tie => k_is); (case ma_C_with_row => k_is); (case mi_C_with_row => k_is); (case ml_C_with_row => k_is); (case mc_C_with_row => k_is); (case mk_C_with_row => k_is); (case mf_C_with_row => k_is); (case ma_C_part => k_is); (case mi_C_part => k_is); (case ml_C_part => k_is); (case mc_C_part => k_is); (case mk_C_part => k_is); (case mf_C_part => k_is); (case ma_C_getitem => k_is); (case mi_C_getitem => k_is); (case ml_C_getitem => k_is); (case mc_C_getitem => k_is); (case mk_C_getitem => k_is); (case mf_C_getitem => k_is); (case ma_C_contains => k_is); (case mi_C_contains => k_is); (case ml_C_contains => k_is); (case mc_C_contains => k_is); (case mk_C_contains => k_is); (case mf_C_contains => k_is); (case ma_C_len => k_is); (case mi_C_len => k_is); (case ml_C_len => k_is); (case mc_C_len => k_is); (case mk_C_len => k_is); (case mf_C_len => k_is); (case ma_C_is_place => k_is); (case mi_C_is_place => k_is); (case ml_C_is_place => k_is); (case mc_C_is_place => k_is); (case mk_C_is_place => k_is); (case mf_C_is_place => k_is); (case ma_C_check_place => k_is); (case mi_C_check_place => k_is); (case ml_C_check_place => k_is); (case mc_C_check_place => k_is); (case mk_C_check_place => k_is); (case mf_C_check_place => k_is); (case oN_CW => k_is); (case ox_CW => k_exc); (case ok_CW => k_is); (case ob_CW => k_is); (case ot_CW => k_is); (case oh_CW => k_is); (case oss_CW => k_is); (case oN_CO => k_is); (case ox_CO => k_exc); (case ok_CO => k_is); (case ob_CO => k_is); (case ot_CO => k_is); (case oh_CO => k_is); (case oss_CO => k_is); (case s_ow => k_is); (case s_nw => k_is); (case s_no => k_is); (case qL__law_rows_right => k_is); (case qT__law_rows_right => rfl); (case qC__law_rows_right => kernel_rfl); (case qN__law_rows_right => first | k_is | kernel_rfl); (case qL__law_right => k_is); (case qT__law_right => rfl); (case qC__law_right => kernel_rfl); (case qN__law_right => first | k_is | kernel_rfl); (case qL_law => k_is); (case qT_law => rfl); (case qC_law => kernel_rfl); (case qN_law => first | k_is | kernel_rfl); (case n12 => decide); (case n13 => decide); (case n23 => decide)
    (case qB__law_rows_right => exact PySem.W.km_tabs_of Y _ (by k_mem))
    (case qB__law_right => exact PySem.W.km_tabs_of Y _ (by k_mem))
    (case qB_law => exact PySem.W.km_tabs_of Y _ (by k_mem))
