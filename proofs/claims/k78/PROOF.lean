import PyProof.Rows.All
import Wide.All
import OpenK.AllK
import Wide.FinOn
import HandS.ForMost
import HandS.IsInst
import HandS.Wide
import PyProof.ReprRoads
import HandS.ForExc
import HandS.TryMany
import HandS.ExcField
import KE.KExcInit
import HandS.Lambda
import HandS.EndTab
import KE.GoesEnum
import HandS.Iter
import HandS.Walk
import HandS.RevRange
import HandS.WideBits
import HandS.Style
import HandS.TupMul
import HandS.Conv
import PyProof.ReprLen
import HandS.DictComp
import HandS.SortInts
import HandS.Zip
import HandS.TupAny
import PyProof.Rows.TupAdd
import OpenK.KMeth
import OpenK.KOps
import PyProof.InstNe
import HandS.Property
import KE.KRevSl
import HandS.Codes
import PyProof.ListStr
import HandS.ExcIs
import PySem.Challenge.RW_onebetween_k78_whole_equality_papers_jud
set_option Elab.async false
set_option linter.all false
set_option maxRecDepth 100000
set_option maxHeartbeats 4000000
namespace GG
open PySem PySem.Spec PyProof.Rows L2

/-! ### promises that are kept where no repr is under way -/
structure FnG (P : Program) (w : World) (K : PySem.W.Frag) (mg : Str → Option Value) (base : Heap) (CX : CXT) (k : Nat)
    (f : Addr) (fd : FuncData) (ps : List Str) (sp : Sp) : Prop where
  lens : ∀ vs H Q E, sp vs H Q E → vs.length = ps.length
  go : ∀ (A : Around) (outer : List Env) (s : Shared) (H : Hp) (ar : Args) (us : List Value) (vs : List V) (Q : VK) (E : XK),
    A.guards = some [] → Room k A → Env0 P w K mg base A outer s H → BindsTo s fd ar (ps.zip us) → Vals vs us →
    sp vs H Q E → codeAny (model P w) A (.call (.ref f) ar) (CR CX outer P w H s Q E) s

section
variable {P : Program} {w : World} {K : PySem.W.Frag} {mg : Str → Option Value} {base : Heap} {CX : CXT} {k : Nat}
  {f : Addr} {fd : FuncData} {ps : List Str} {sp : Sp}
theorem FnG.ofOk (F : FnOk P w K mg base CX k f fd ps sp) : FnG P w K mg base CX k f fd ps sp :=
  ⟨F.len, fun A o s H ar us vs Q E _ hr => F.run A o s H ar us vs Q E hr⟩

theorem fnG_lk {x qual : Str} {st : Stmt} {N : List Str} {oc : Value} {od an : Option Addr} {osl : Array (Option Value)} {kV doc pm cdv ct : Value}
    (lk : K.lookup f = some ⟨oc, od, .func (PySem.W.fnOf x qual (defArgs st) (defBody st) (defScope st) .none kV doc pm an cdv ct), osl⟩)
    (hcd : PySem.W.codeIn K cdv qual = true) (S : FnScope N ps (defScope st))
    (lens : ∀ vs H Q E, sp vs H Q E → vs.length = ps.length)
    (hb : ∀ (A : Around) (outer : List Env) (s : Shared) (H : Hp) (vs : List V) (Q : VK) (E : XK),
      (A.deeper (envOfC qual (defScope st) s.heap.objs.size f cdv)).guards = some [] →
      Room k (A.deeper (envOfC qual (defScope st) s.heap.objs.size f cdv)) → sp vs H Q E →
      ∃ t, PSs (cxOf CX P w K mg base N qual (defScope st) f cdv A outer s H E) (defBody st) t ∧
        t { nx := fun _ H' => Q .non H', rt := Q } (start N vs) H) :
    FnG P w K mg base CX (k + 1) f (PySem.W.fnOf x qual (defArgs st) (defBody st) (defScope st) .none kV doc pm an cdv ct) ps sp := by
  refine ⟨lens, ?_⟩
  intro A outer s H ar us vs Q E gA room en bd vl hs
  have inK : K.In s.heap := en.mod.kin.keeps (fun b o z => (en.bs b o z).left)
  have noL : s.heap.NoLimit := en.mod.nolimit.keeps (fun b o z => (en.bs b o z).left)
  have kinds : ∀ y ∈ ps.zip us, (defScope st).names.lookup y.1 = some .local ∨
      ((defScope st).names.lookup y.1 = some .cell ∧
        ((cellsFrom (s.heap.objs.size + 1) (defScope st).names []).lookup y.1).isSome = true) := by
    intro ⟨n, v⟩ hy
    cases S.par n (List.of_mem_zip hy).left with
    | inl q => exact Or.inl q
    | inr q => exact Or.inr ⟨q, PySem.W.cellsFrom_some _ _ _ (Or.inl q)⟩
  refine codeAny_call_function room.depth (inK _ _ lk) rfl S.co S.gen rfl
    (PySem.W.codeRec_of inK hcd) (bd _ _ _ _ ?_)
  refine wpAny_newFunctionEnv_cells S.kind kinds (fun env he s1 ic => ?_)
  subst he
  refine ⟨noL.keeps ic.toInCall.keep, codeAny_func ?_⟩
  obtain ⟨t, ht, hq⟩ := hb A outer s H vs Q E gA (room.deeper _) hs
  have J := inv_start (CX := CX) (P := P) (E := E) S room.hd en (lens _ _ _ _ hs) vl ic
  refine wpAny_mono (ht.run [] s1 (start N vs) H _ J hq) (fun fl s2 ends => ?_) (fun _ _ z => z)
  cases fl with
  | next =>
    obtain ⟨σ2, H2, I2, q2⟩ := ends
    exact ⟨V.non, H2, I2.os, I2.bare, I2.base, I2.hok, rfl, q2⟩
  | ret u =>
    obtain ⟨v, σ2, H2, I2, rv, q2⟩ := ends
    exact ⟨v, H2, I2.os, I2.bare, I2.base, I2.hok, rv, q2⟩
  | brk => exact ends.elim (fun _ z => z.elim (fun _ z => z.right.elim))
  | cont => exact ends.elim (fun _ z => z.elim (fun _ z => z.right.elim))
theorem fnG_of {x qual : Str} {st : Stmt} {N : List Str} (F : Fun K x qual st f fd) (S : FnScope N ps (defScope st))
    (lens : ∀ vs H Q E, sp vs H Q E → vs.length = ps.length)
    (hb : ∀ (cdv : Value) (A : Around) (outer : List Env) (s : Shared) (H : Hp) (vs : List V) (Q : VK) (E : XK),
      (A.deeper (envOfC qual (defScope st) s.heap.objs.size f cdv)).guards = some [] →
      Room k (A.deeper (envOfC qual (defScope st) s.heap.objs.size f cdv)) → sp vs H Q E →
      ∃ t, PSs (cxOf CX P w K mg base N qual (defScope st) f cdv A outer s H E) (defBody st) t ∧
        t { nx := fun _ H' => Q .non H', rt := Q } (start N vs) H) :
    FnG P w K mg base CX (k + 1) f fd ps sp := by
  obtain ⟨oc, od, kV, doc, pm, an, cdv, ct, osl, rfl, lk, hcd⟩ := F.ex
  exact fnG_lk lk hcd S lens (hb cdv)
/-- .. of a def that lets no exception out -/
theorem fnG0 {x qual : Str} {st : Stmt} {N : List Str} (F : Fun K x qual st f fd) (S : FnScope N ps (defScope st))
    (lens : ∀ vs H Q E, sp vs H Q E → vs.length = ps.length)
    (hb : ∀ (cdv : Value) (A : Around) (outer : List Env) (s : Shared) (H : Hp) (vs : List V) (Q : VK) (E : XK),
      (A.deeper (envOfC qual (defScope st) s.heap.objs.size f cdv)).guards = some [] →
      Room k (A.deeper (envOfC qual (defScope st) s.heap.objs.size f cdv)) → sp vs H Q E →
      ∃ t, PSs (cxOf CX0 P w K mg base N qual (defScope st) f cdv A outer s H E).nox (defBody st) t ∧
        t { nx := fun _ H' => Q .non H', rt := Q } (start N vs) H) :
    FnG P w K mg base CX0 (k + 1) f fd ps sp :=
  fnG_of F S lens (fun cdv A outer s H vs Q E g r h => (hb cdv A outer s H vs Q E g r h).imp (fun _ z => ⟨z.left.nox, z.right⟩))
end

section
variable {X : Cx} {CX : CXT} {k : Nat} {f : Addr} {fd : FuncData} {ps : List Str} {sp : Sp} {dvs : List V} {ds : List Value}
  {E : XK} {x : Str} {p pos : Pos} {e : Expr} {es : List Expr} {t : TA}
theorem runG {pins : List (Addr × Obj)} {σ : L2.St} {H : Hp} {s : Shared} {Q : VK} {us : List Value} {vs : List V}
    (F : FnG X.prog X.w X.K X.mg X.base CX k f fd ps sp) (gd : X.A.guards = some []) (room : Room k X.A)
    (bd : Binds X.K fd ps ds) (dv : Vals dvs ds) (pass : Passes CX X E) (I : Inv X pins σ H s) (r : Vals vs us)
    (h : sp (vs ++ dvs) H Q E) : wpAny (model X.prog X.w) X.A (call (.ref f) us) (EP X pins σ Q) X.xe s := by
  have both : Vals (vs ++ dvs) (us ++ ds) := Vals.append r dv
  have n : (us ++ ds).length = ps.length := both.length.symm.trans (F.lens _ _ _ _ h)
  have run := F.go X.A X.stack s H ⟨us, []⟩ (us ++ ds) (vs ++ dvs) Q E gd room I.env0 (bd s us I.kIn n) both h
  refine wpAny_call (codeAny_mono run ?_)
  intro res s2 z
  cases res with
  | error ex => exact pass pins σ H s ex s2 I z
  | ok fl =>
    cases fl with
    | ret u => exact Inv.after I z
    | next => exact z.elim
    | brk => exact z.elim
    | cont => exact z.elim
/-- f(e, ..) -/
theorem pe_callG (F : FnG X.prog X.w X.K X.mg X.base CX k f fd ps sp) (gd : X.A.guards = some []) (room : Room k X.A) (hg : Gl X x)
    (hm : X.mg x = some (.ref f)) (kp : PySem.W.keepIn X.K (.ref f) = true) (bd : Binds X.K fd ps ds) (dv : Vals dvs ds)
    (pass : Passes CX X E) (ha : PA X (e :: es) t) (hdb : (x == ("__debug__" : Str)) = false := by decide)
    (he : starEach (e :: es) X.env = (false, eval e X.env) :: starEach es X.env := by rfl)
    (hpl : (backTo pos (starEach es X.env)).any (·.1) = false := by rfl) :
    PE X (.Call (.Name x p) (e :: es) [] pos) (tCall sp dvs E t) := by
  constructor
  intro pins s σ H Q I h
  apply wpAny_Call_Name_kw
  apply ld_glob I hg hm _ hdb
  apply PySem.W.callWith_K (h₀ := X.base) I.ok.mod.kin kp _ he hpl
  apply thn (ha.run pos pins s σ H _ I h)
  intro us s1 ⟨vs, H1, I1, r, q⟩
  exact ⟨I1.kIn, runG F gd room bd dv pass I1 r q⟩
/-- f() -/
theorem pe_callG0 (F : FnG X.prog X.w X.K X.mg X.base CX k f fd ps sp) (gd : X.A.guards = some []) (room : Room k X.A) (hg : Gl X x)
    (hm : X.mg x = some (.ref f)) (kp : PySem.W.keepIn X.K (.ref f) = true) (bd : Binds X.K fd ps ds) (dv : Vals dvs ds)
    (pass : Passes CX X E) (hdb : (x == ("__debug__" : Str)) = false := by decide) :
    PE X (.Call (.Name x p) [] [] pos) (tCall sp dvs E tNil) := by
  constructor
  intro pins s σ H Q I h
  apply wpAny_Call_Name_kw
  apply ld_glob I hg hm _ hdb
  exact PySem.W.callWith_K0 I.kIn kp (runG (us := []) F gd room bd dv pass I .nil h)
end
end GG

namespace GG
open PySem PySem.Spec PyProof.Rows L2
/-! ### the end of a law's row, over such a promise -/
section
variable {P : Program} {w : World} {K : PySem.W.Frag} {mg mb : Str → Option Value} {CX : CXT} {k : Nat} {fa a : Addr} {fd : FuncData}
  {x : Str} {sp : Sp} {s₁ : Shared} {vs : List Value} {ns : List Int}
/-- from a heap in which the script alone may be tracked -/
theorem law_coreG {H : Hp} (KX : K.In s₁.heap) (ng : s₁.heap.Ns mainGlobals mg) (nb : s₁.heap.Ns builtinsNs mb)
    (bb : ∀ x : Str, x ≠ "__name__" → mb x = bootBuiltins x) (lim : s₁.heap.NoLimit) (g0 : s₁.gens = #[])
    (ha : s₁.heap.get? a = some { cls := .type "list", data := .seq vs.toArray }) (room : Room k callerA)
    (F : ∀ base : Heap, K.In base → base.Ns mainGlobals mg → FnG P w K mg base CX k fa fd [x] sp)
    (bind : ∀ (s : Shared) (u : Value), BindsTo s fd ⟨[u], []⟩ [(x, u)])
    (want : sp [.ref a] H (fun v _ => v = .bl true) fun _ _ _ => False)
    (noX : ∀ H e s', CX [] H s₁ (fun _ _ _ => False) e s' → False)
    (only : Only H) (ok : HOk P w H s₁.heap) (at_a : ∀ b, H b ≠ none → b = a) (notK : H a ≠ none → K.lookup a = none) :
    codeAny (model P w) callerA (.call (.ref fa) ⟨[.ref a], []⟩)
      (fun r s' => r = .ok (.ret (.bool true)) ∧ OldK s₁.heap s'.heap ∧ s'.os = s₁.os ∧ AllBare s'.gens) s₁ := by
  have dictFree : ∀ {b : Addr} {o : Obj} {es : Array DictEntry} {ep : Nat},
      s₁.heap.get? b = some o → o.data = .dict es ep → H b = none := by
    intro b o es ep e d
    rcases hq : H b with _ | u
    · rfl
    · have ba := at_a b (fun z => by rw [z] at hq; cases hq)
      rw [ba, ha] at e
      cases e
      cases (show Data.seq vs.toArray _ = Data.dict es ep from d)
  have ns : ∀ {b : Addr} {m : Str → Option Value}, s₁.heap.Ns b m → (hidT s₁.heap H).Ns b m := by
    rintro b m ⟨o, es, ep, e, d, r⟩
    exact ⟨o, es, ep, hidT_get e (dictFree e d), d, r⟩
  have KB : K.In (hidT s₁.heap H) := by
    intro b o e
    refine hidT_get (KX b o e) ?_
    rcases hq : H b with _ | u
    · rfl
    · have ba := at_a b (fun z => by rw [z] at hq; cases hq)
      rw [ba] at hq e
      rw [notK (fun z => by rw [z] at hq; cases hq)] at e
      cases e
  have en : Env0 P w K mg (hidT s₁.heap H) callerA [] s₁ H := by
    refine ⟨rfl, ⟨KB, ns ng, ⟨mb, ns nb, bb⟩, ?_⟩, fun b o e => of_hidT e, Nat.le_of_eq (hidT_size _ _), trivial, ?_, ok, .of_eq g0⟩
    · obtain ⟨mc, h1, h2⟩ := lim
      exact ⟨mc, ns h1, h2⟩
    · intro b z
      cases (show b ∈ ([] : List Addr) from z)
  refine codeAny_mono ((F _ KB (ns ng)).go callerA [] s₁ H ⟨[.ref a], []⟩ [.ref a] [.ref a] _ _ rfl room en
    (bind s₁ (.ref a)) (.cons rfl .nil) want) ?_
  intro r s' z
  cases r with
  | error e => exact (noX H e s' z).elim
  | ok fl =>
    cases fl with
    | next => exact z.elim
    | brk => exact z.elim
    | cont => exact z.elim
    | ret u =>
      obtain ⟨v, H', os, bare, un, ok', rv, q⟩ := z
      cases (show v = .bl true from q)
      cases (show u = Value.bool true from rv)
      refine ⟨rfl, OldK.of_keep ?_, os, bare⟩
      intro b o e
      rcases only b with hq | ⟨ob, xs, hq⟩
      · exact un.keep b o e hq (fun z => by cases (show b ∈ ([] : List Addr) from z)) (fun z => by cases z)
      · have f1 := (ok b _ hq).left
        have f2 := (ok' b _ (un.frzs b ob _ hq)).left
        rw [e] at f1
        cases f1
        exact f2
theorem law_callG (KX : K.In s₁.heap) (ng : s₁.heap.Ns mainGlobals mg) (nb : s₁.heap.Ns builtinsNs mb)
    (bb : ∀ x : Str, x ≠ "__name__" → mb x = bootBuiltins x) (lim : s₁.heap.NoLimit) (g0 : s₁.gens = #[])
    (ha : s₁.heap.get? a = some { cls := .type "list", data := .seq vs.toArray }) (hi : IntsAre vs ns) (hl : ns.length ≤ sizeLine)
    (room : Room k callerA) (F : ∀ base : Heap, K.In base → base.Ns mainGlobals mg → FnG P w K mg base CX k fa fd [x] sp)
    (bind : ∀ (s : Shared) (u : Value), BindsTo s fd ⟨[u], []⟩ [(x, u)])
    (want : ∀ H : Hp, Only H → SqL K H a (ns.map V.int) → sp [.ref a] H (fun v _ => v = .bl true) fun _ _ _ => False)
    (noX : ∀ H e s', CX [] H s₁ (fun _ _ _ => False) e s' → False) :
    codeAny (model P w) callerA (.call (.ref fa) ⟨[.ref a], []⟩)
      (fun r s' => r = .ok (.ret (.bool true)) ∧ OldK s₁.heap s'.heap ∧ s'.os = s₁.os ∧ AllBare s'.gens) s₁ := by
  have vi := vals_ints hi
  rcases hk : K.lookup a with _ | o
  · have hH : ∀ b, (fun b => if b = a then some (HO.frz { cls := .type "list", data := .seq vs.toArray } (.lst (ns.map V.int))) else none : Hp) b ≠ none → b = a := by
      intro b z
      by_cases e : b = a
      · exact e
      · exact absurd (if_neg e) z
    refine law_coreG (H := fun b => if b = a then some (HO.frz { cls := .type "list", data := .seq vs.toArray } (.lst (ns.map V.int))) else none)
      KX ng nb bb lim g0 ha room F bind (want _ ?_ (.inl (.inr ⟨_, if_pos rfl⟩))) noX ?_ ?_ hH (fun _ => hk)
    all_goals first
      | (intro b
         by_cases e : b = a
         · exact .inr ⟨_, _, if_pos e⟩
         · exact .inl (if_neg e))
      | (intro b u z
         by_cases e : b = a
         · have z' := (if_pos e).symm.trans z
           cases z'
           rw [e]
           exact ⟨ha, by rw [List.length_map]; exact hl, vs, _, vi, ha⟩
         · have z' := (if_neg e).symm.trans z
           cases z')
  · have e := KX a o hk
    rw [ha] at e
    cases e
    refine law_coreG (H := fun _ => none) KX ng nb bb lim g0 ha room F bind (want _ (fun _ => .inl rfl) ?_) noX (fun _ => .inl rfl) ?_ (fun b z => absurd rfl z) (fun z => absurd rfl z)
    · exact .inr ⟨_, vs.toArray, _, hk, rfl, rfl, rfl, by rw [List.size_toArray, hi.length]; exact hl, by simpa using vi⟩
    · intro b u z
      cases (show (none : Option HO) = some u from z)
end
/-- the goal that the head leaves -/
theorem walkG {l : PySem.W.OpenLaw} {n k : Nat} {q : Program} {loose : List Str} {XP : (Str → Option Value) → Heap → Prop} {YP : World → Heap → Prop}
    {d : DefRec} {K : Params → PySem.W.Frag} {CX : World → CXT} {sp : World → Sp} {x : Str}
    (hn : l.most = some n) (hn2 : n ≤ sizeLine) (hdf : d.params.defaults = []) (room : Room k callerA)
    (hY : ∀ (w : World) (h : Heap), YP w h → (K w.params).In h)
    (F : ∀ (w : World) (mg : Str → Option Value) (fa : Addr) (h : Heap), (K w.params).In h → h.Ns mainGlobals mg → mg d.name = some (.ref fa) →
      ∃ fd : FuncData, (∀ (s : Shared) (u : Value), BindsTo s fd ⟨[u], []⟩ [(x, u)]) ∧
        ∀ base : Heap, (K w.params).In base → base.Ns mainGlobals mg → FnG l.prog w (K w.params) mg base (CX w) k fa fd [x] (sp w))
    (want : ∀ (w : World) (H : Hp) (a : Addr) (ns : List Int), ns.length ≤ n → Only H → SqL (K w.params) H a (ns.map V.int) →
      sp w [.ref a] H (fun v _ => v = .bl true) fun _ _ _ => False)
    (noX : ∀ (w : World) (H : Hp) (s : Shared) (e : Value) (s' : Shared), CX w [] H s (fun _ _ _ => False) e s' → False) :
    PySem.W.WalkO q loose XP YP l.row.toRowW d [] (fun f vs => PySem.call f vs) := by
  apply Att.attach_call hn hdf
  intro w s₀ s₁ mg mb fa o pm cd doc a vs ns G Y ho hd hcd hmg hobj hints hlen hg
  obtain ⟨fd, hb, hF⟩ := F w mg fa _ (hY w _ Y) G.T.g hmg
  exact law_callG (hY w _ Y) G.T.g G.T.b G.T.builtins G.T.nolimit hg hobj hints (Nat.le_trans hlen hn2) room hF hb
    (fun H h1 h2 => want w H a ns hlen h1 h2) (fun H e s' => noX w H s₁ e s')
end GG

namespace GG
open PySem PySem.Spec PyProof.Rows L2
/-! ### repr of data -/
def isDsp : PyData → Bool
  | .list _ => true
  | .tuple _ => true
  | _ => false
/-- repr(x), x nested lists and tuples of bools, ints, texts, None -/
def rRepr (K : PySem.W.Frag) : List V → Hp → VK → Prop := fun xs H Q => ∃ x d, xs = [x] ∧ Dp K H x d ∧
  (d.showable = true ∧ d.hasDict = false ∧ d.depth ≤ 40 ∧ d.shown.length ≤ sizeLine) ∧ Q (.str d.shown) H
theorem call_reprU {X : Cx} (gd : X.A.guards = some []) (un : X.A.units + 64 < cLine) : CallR X (.builtin "repr") (rRepr X.K) := by
  intro pins s σ H xs us Q I r h
  obtain ⟨x, d, rfl, hd, ⟨sh, nod, dep, big⟩, q⟩ := h
  obtain ⟨u, rfl, ru⟩ := vals1 r
  cases d with
  | none =>
    cases hd
    cases (show u = Value.none from ru)
    exact PySem.P.repr_of_none ⟨.str _, H, I.tok _, ⟨_, rfl⟩, by simpa [PyData.shown] using q⟩
  | bool b =>
    cases hd
    cases (show u = Value.bool b from ru)
    exact PySem.P.repr_of_bool ⟨.str _, H, I.tok _, ⟨_, rfl⟩, by simpa [PyData.shown] using q⟩
  | int i =>
    cases hd
    obtain ⟨t, rfl⟩ := (show ∃ t, u = Value.int i t from ru)
    refine PySem.P.repr_of_int (by simpa [PyData.showable] using sh) ⟨.str _, H, I.tok _, ⟨_, rfl⟩, by simpa [PyData.shown] using q⟩
  | str y =>
    cases hd
    obtain ⟨t, rfl⟩ := (show ∃ t, u = Value.str y t from ru)
    exact PySem.P.repr_of_str ⟨.str _, H, I.tok _, ⟨_, rfl⟩, by simpa [PyData.shown] using q⟩ (by simpa [PyData.shown] using big)
  | dict kvs => cases hd
  | list ds =>
    obtain ⟨as, rd⟩ := Dp.reads I _ _ _ hd ru
    cases hd
    cases (show u = Value.ref _ from ru)
    refine repr_of_reads' rd sh (PyData.noDict_hsm nod) gd (by omega) (fun _ _ e => e) (fun h' u tk kept => ?_) big
    exact ⟨.str _, H, I.kept kept, ⟨_, rfl⟩, q⟩
  | tuple ds =>
    obtain ⟨as, rd⟩ := Dp.reads I _ _ _ hd ru
    cases hd
    cases (show u = Value.ref _ from ru)
    refine repr_of_reads' rd sh (PyData.noDict_hsm nod) gd (by omega) (fun _ _ e => e) (fun h' u tk kept => ?_) big
    exact ⟨.str _, H, I.kept kept, ⟨_, rfl⟩, q⟩
theorem call_reprD {X : Cx} {k : Nat} (gd : X.A.guards = some []) (room : Room k X.A) : CallR X (.builtin "repr") (rRepr X.K) := call_reprU gd room.units
/-! ### ** of a great base -/
def CPowW (i j : Int) : Prop := 0 ≤ j ∧ (Builtin.Int.intBits i : Int) * j ≤ 2 ^ 27
theorem op_powW {X : Cx} : OpR X (binaryOp .Pow) (rI CPowW fun i j => .int (i ^ j.toNat)) := opI fun _ _ _ _ _ _ _ hc q => pow_int hc.1 hc.2 q
/-! ### the heap but for one object -/
/-- all that stands in H stands in H', but for what is at l -/
def But (l : Addr) (H H' : Hp) : Prop := ∀ b o, b ≠ l → H b = some o → H' b = some o
theorem But.refl {l : Addr} {H : Hp} : But l H H := fun _ _ _ e => e
theorem But.trans {l : Addr} {H H1 H2 : Hp} (a : But l H H1) (b : But l H1 H2) : But l H H2 := fun c o n e => b c o n (a c o n e)
theorem But.same {l : Addr} {H H1 H2 : Hp} (a : But l H H1) (b : Same H1 H2) : But l H H2 := fun c o n e => b c o (a c o n e)
theorem But.ofSame {l : Addr} {H H1 : Hp} (b : Same H H1) : But l H H1 := fun c o _ e => b c o e
theorem But.new {l p : Addr} {H H1 : Hp} {o : HO} (a : But l H H1) (h : H1 p = none) : But l H (upd H1 p o) := fun c u n e => by
  have e1 := a c u n e
  rw [upd_ne (ne_of_none e1 h)]
  exact e1
theorem But.at {l : Addr} {H : Hp} {o : HO} : But l H (upd H l o) := fun c u n e => by
  rw [upd_ne n]
  exact e
theorem But.seqL {l a : Addr} {K : PySem.W.Frag} {H H' : Hp} {xs : List V} (b : But l H H') (n : a ≠ l) (h : SqL K H a xs) : SqL K H' a xs := by
  rcases h with (h | ⟨o, h⟩) | h
  · exact .inl (.inl (b _ _ n h))
  · exact .inl (.inr ⟨o, b _ _ n h⟩)
  · exact .inr h
theorem But.seqT {l a : Addr} {K : PySem.W.Frag} {H H' : Hp} {xs : List V} (b : But l H H') (n : a ≠ l) (h : SqT K H a xs) : SqT K H' a xs := by
  rcases h with (h | ⟨o, h⟩) | h
  · exact .inl (.inl (b _ _ n h))
  · exact .inl (.inr ⟨o, b _ _ n h⟩)
  · exact .inr h
theorem sameUpd {H : Hp} {p : Addr} {o : HO} (h : H p = none) : Same H (upd H p o) := fun b x e => by
  rw [upd_ne (ne_of_none e h)]
  exact e
/-! ### dice -/
def Dice (H : Hp) (l : Addr) : Prop := ∃ a b c : Int, H l = some (.lst [.int a, .int b, .int c]) ∧ 0 ≤ a
theorem Dice.same {H H' : Hp} {l : Addr} (d : Dice H l) (s : Same H H') : Dice H' l := by
  obtain ⟨a, b, c, e, h⟩ := d
  exact ⟨a, b, c, s _ _ e, h⟩
theorem Dice.new {H : Hp} {l p : Addr} {o : HO} (d : Dice H l) (h : H p = none) : Dice (upd H p o) l := d.same (sameUpd h)
theorem Dice.ne {H : Hp} {l p : Addr} (d : Dice H l) (h : H p = none) : l ≠ p := by
  obtain ⟨a, b, c, e, _⟩ := d
  exact ne_of_none e h
theorem mul60 : CMulW (10 ^ Int.toNat 60) (10 ^ Int.toNat 60) := by
  unfold CMulW
  decide +kernel
theorem pos60 : (0 : Int) < 10 ^ Int.toNat 60 * 10 ^ Int.toNat 60 := by decide +kernel
def spDice (K : PySem.W.Frag) : Sp := fun vs H Q _ => ∃ (a : Addr) (ns : List Int) (spot : Nat), vs = [.ref a, .int spot] ∧ SqL K H a (ns.map V.int) ∧
  spot ≤ 100 ∧ ∀ H' p, Same H H' → H p = none → Dice H' p → Q (.ref p) H'
def spRoll : Sp := fun vs H Q _ => ∃ (l : Addr) (t : Int), vs = [.ref l, .int t] ∧ Dice H l ∧ 0 < t ∧ t < 1073741824 ∧
  ∀ H' (r : Int), But l H H' → Dice H' l → 0 ≤ r → r < t → Q (.int r) H'
def spPick (K : PySem.W.Frag) : Sp := fun vs H Q _ => ∃ (l a : Addr) (xs : List V), vs = [.ref l, .ref a] ∧ Dice H l ∧ a ≠ l ∧
  (SqL K H a xs ∨ SqT K H a xs) ∧ 0 < xs.length ∧ xs.length ≤ 1000 ∧
  ∀ H' (i : Nat) (v : V), But l H H' → Dice H' l → xs[i]? = some v → Q v H'
end GG

set_option maxHeartbeats 4000000
namespace PySem
namespace GX
open PySem.W PySem.Calls PyProof.Rows PySem.HandSPX
/-! ### own exceptions with one field over any of the built-in classes -/
/-- what the written part says of the class named cn at C (its field fld), and of its __init__, at fI -/
structure OwnX (K : Frag) (mg : Str → Option Value) (cn fld : Str) (bmB : List Value) (newId : String) (C fI : Addr) : Prop where
  gC : mg cn = some (.ref C)
  cls : ∃ nm q N bs bm sn sub ab col dd k0 k1 k2 k3 k5, K.lookup C = some (excClassObj nm q C N bs bm true sn sub ab col dd k0 k1 k2 k3 k5 newId) ∧ excTail bmB bm = true
  sa : findIn K (.ref C) "__setattr__" = some (some (.builtin "object.__setattr__"))
  ga : findIn K (.ref C) "__getattribute__" = some (some (.builtin "BaseException.__getattribute__"))
  gg : findIn K (.ref C) "__getattr__" = some none
  noN : findIn K (.ref C) fld = some none
  iC : findIn K (.ref C) "__init__" = some (some (.ref fI))
  tC : typeIn K (.ref fI) = some (.type "function")
  kC : keepIn K (.ref C) = true
  exC : subIn K (.ref C) (.type "BaseException") = some true
  tyC : typeIn K (.ref C) = some (.type "type")
  hdC : hasDictIn K C = true
  te : exmOne K (.ref C) (.ref C) = some true
/-- what __init__ leaves of a fresh exception at x -/
structure Inited (fld : Str) (h h' : Heap) (x C dx t1 : Addr) (v : Value) : Prop where
  keep : ∀ b o, b ≠ x → h.get? b = some o → h'.get? b = some o
  obj : h'.get? x = some { cls := .ref C, dict := some dx, data := .fields #[.ref t1, .none, .none, .none, .bool false, .none] }
  dbig : h.objs.size ≤ dx
  dne : dx ≠ x
  ns : h'.Ns1 dx (fun y => if y = fld then some v else none)
/-- a made one -/
structure MadeX (fld : Str) (h h' : Heap) (e C d : Addr) (v : Value) : Prop where
  keep : ∀ b o, h.get? b = some o → h'.get? b = some o
  new : h.objs.size ≤ e
  obj : ∃ t1, h'.get? e = some { cls := .ref C, dict := some d, data := .fields #[.ref t1, .none, .none, .none, .bool false, .none] }
  dbig : h.objs.size ≤ d
  dne : d ≠ e
  ns : h'.Ns1 d (fun y => if y = fld then some v else none)
/-- the __init__ at fI stores its argument -/
def InitOk (K : Frag) (fld : Str) (C fI : Addr) : Prop :=
  ∀ (prog : Program) (w : World) (A : Around) (R : Result → Shared → Prop) (s : Shared) (x t0 : Addr) (v : Value), K.In s.heap → s.heap.NoLimit →
    s.heap.get? x = some (excO C t0) → K.lookup x = none → A.depth < recursionLimit →
    (∀ h' tk dx, Inited fld s.heap h' x C dx t0 v → R (.ok (.ret .none)) { s with heap := h', toks := tk }) →
    codeAny (model prog w) A (.call (.ref fI) ⟨[.ref x, v], []⟩) R s
theorem single_size (v : Value) : [v].length ≤ sizeLine := by
  rw [sizeLine_eq]
  exact (by decide : 1 ≤ 16777216)
theorem loadLoc {M : Model} {s : Shared} {name : Str} {scope : Scope} {L a : Addr} {cd : Value} {m : Str → Option Value} {x : Str} {pos : Pos} {v : Value} {Q : Value → Shared → Prop} {A : Around} {E : Value → Shared → Prop}
    (hn : s.heap.Ns L m) (hv : m x = some v) (h : Q v s) (hk : scope.kind = .function := by rfl)
    (hl : (envOfC name scope L a cd).kindOf x = some .local := by rfl) (hd : (x == ("__debug__" : Str)) = false := by decide) :
    wpAny M A (eval (.Name x pos) (envOfC name scope L a cd)) Q E s := wpAny_Name (wpAny_loadName_local hk hl hn hv h) hd
section
open Builtin Builtin.ObjectAttr
variable {prog : Program} {w : World} {A : Around} {E : Value → Shared → Prop} {R : Result → Shared → Prop} {hp : Heap} {g : Array GenState} {d : Drawn} {t : Nat} {os : OsState} {B newId initId : String} {bmB : List Value}
/-- self.name = v on such an exception that has no dict yet -/
theorem osaX {K : Frag} {name : Str} {tk : Tok} {v : Value} {x C : Addr} {fv : Array Value} {cd : ClassData} (SF : StoreFacts B bmB "object.__setattr__" "object")
    (X : K.In hp) (hx : hp.get? x = some { cls := .ref C, data := .fields fv }) (hcd : clsIn K C = some cd) (hov : excOver K C bmB = true)
    (hh : cd.hasDict = true) (ha : findIn K (.ref C) name = some none)
    (hq : ∀ h' tk' dx, (∀ b o, b ≠ x → hp.get? b = some o → h'.get? b = some o) → hp.objs.size ≤ dx → dx ≠ x →
      h'.get? x = some { cls := .ref C, dict := some dx, data := .fields fv } →
      h'.Ns1 dx (fun y => if y = name then some v else none) → R (.ok (.ret .none)) ⟨h', g, d, tk', os⟩) :
    codeAny (model prog w) A (.call (.builtin "object.__setattr__") ⟨[.ref x, .str name tk, v], []⟩) R ⟨hp, g, d, t, os⟩ := by
  have I : InstAt hp x { cls := .ref C, data := .fields fv } C none := ⟨hx, rfl, rfl, trivial⟩
  have xs : x ≠ hp.objs.size := Nat.ne_of_lt (Heap.lt_size hx)
  have taker : takerIn K C name = some none := by
    unfold takerIn
    rw [ha]
    rfl
  refine osa_openX (s := ⟨hp, g, d, t, os⟩) SF X I hov taker ?_
  intro b
  have lc : Looks (model prog w) hp (classData C) cd := looks_clsIn X hcd
  show wpAny _ _ (storeInOwnDict (.ref x) (.ref C) (.str name tk) name v b) _ _ _
  obtain ⟨nm, bs, mro, ns, qn, hd, sn, sb, ab, col, del⟩ := cd
  dsimp only at hh
  subst hh
  unfold storeInOwnDict ownDictForStores
  repeat (first
    | with_reducible refine store_in_new ?_ ?_
    | with_reducible refine wpAny_loadPart_at hx ?_
    | with_reducible refine lc.at ?_
    | wp_step)
  · refine ⟨_, #[], _, (Heap.get?_update_ne _ _ _ _ xs.symm).trans (Heap.get?_push_at rfl rfl), rfl, ?_, fun _ => rfl⟩
    intro e he
    exact absurd he (by simp)
  · intro h' tk' n1 sb1
    have there : (hp.push { cls := .type "dict", data := .dict #[] }).get? x = some { cls := .ref C, data := .fields fv } := Heap.get?_push_of_some _ hx
    apply hq h' tk' hp.objs.size _ (Nat.le_refl _) xs.symm _ n1
    · intro b o nb ho
      refine (sb1.2 b (Nat.ne_of_lt (Heap.lt_size ho))).trans ?_
      exact (Heap.get?_update_ne _ _ _ _ nb).trans (Heap.get?_push_of_some _ ho)
    · exact (sb1.2 x xs).trans (Heap.get?_update_self _ there rfl)
end
section
variable {prog : Program} {w : World} {A : Around} {R : Result → Shared → Prop} {s : Shared} {K : Frag} {mg : Str → Option Value} {C fI : Addr} {cn fld : Str} {B newId initId : String} {bmB : List Value}
theorem OwnX.over (T : OwnX K mg cn fld bmB newId C fI) : ∃ cd, clsIn K C = some cd ∧ excOver K C bmB = true ∧ cd.hasDict = true := by
  obtain ⟨nm, q, N, bs, bm, sn, sub, ab, col, dd, k0, k1, k2, k3, k5, hC, hbm⟩ := T.cls
  have hcl : clsIn K C = some { name := nm, bases := bs, mro := .ref C :: bm, ns := N, qualname := q, hasDict := true, slotNames := sn, subclasses := sub, abstract := ab, collection := col, hasDel := false } := by
    unfold clsIn
    rw [hC] <;> rfl
  refine ⟨_, hcl, ?_, rfl⟩
  unfold excOver
  rw [hcl]
  show (C == C && excTail bmB bm) = true
  rw [hbm, Bool.and_true]
  exact beq_self_eq_true C
/-- C(v) -/
theorem madeX (F : ExcBaseFacts B newId initId bmB) (T : OwnX K mg cn fld bmB newId C fI) (init : InitOk K fld C fI) {v : Value} (X : K.In s.heap)
    (lim : s.heap.NoLimit) (deep : A.depth + 1 < recursionLimit)
    (hq : ∀ h' tk e d, MadeX fld s.heap h' e C d v → R (.ok (.ret (.ref e))) { s with heap := h', toks := tk }) :
    codeAny (model prog w) A (.call (.ref C) ⟨[v], []⟩) R s := by
  obtain ⟨nm, q, N, bs, bm, sn, sub, ab, col, dd, k0, k1, k2, k3, k5, hC, hbm⟩ := T.cls
  obtain ⟨hp, g, dr, tk, os⟩ := s
  have grown : ∀ b o, hp.get? b = some o → ((hp.push (kdv_tup [v])).push (excO C hp.objs.size)).get? b = some o :=
    fun b o e => Heap.get?_push_of_some _ (Heap.get?_push_of_some _ e)
  have fresh : ((hp.push (kdv_tup [v])).push (excO C hp.objs.size)).get? (hp.objs.size + 1) = some (excO C hp.objs.size) := by heap_get
  have notK : K.lookup (hp.objs.size + 1) = none := by
    rcases e : K.lookup (hp.objs.size + 1) with _ | o
    · rfl
    · exact absurd (Nat.lt_of_succ_lt (Heap.lt_size (show hp.get? (hp.objs.size + 1) = some o from X _ _ e))) (Nat.lt_irrefl _)
  refine HandSPX.call_own F (fun T => excTail_contains T bm hbm) (X _ _ hC) (looks_findIn X T.iC) (fun self => bind_fn X self T.tC) (single_size v) ?_
  refine init prog w _ _ ⟨(hp.push (kdv_tup [v])).push (excO C hp.objs.size), g, dr, tk, os⟩ _ _ v (X.keeps grown) (lim.keeps grown) fresh notK deep ?_
  intro h' tk' dx ⟨k', hx, dn, dne, hns⟩
  have old : ∀ b o, hp.get? b = some o → h'.get? b = some o :=
    fun b o e => k' b o (Nat.ne_of_lt (Nat.lt_succ_of_lt (Heap.lt_size e))) (grown b o e)
  have z : hp.objs.size + 1 + 1 ≤ dx := by
    first
      | (simpa only [Heap.size_push] using dn)
      | exact dn
      | (have q := dn; rw [Heap.size_push, Heap.size_push] at q; exact q)
  exact ⟨rfl, hq h' tk' (hp.objs.size + 1) dx ⟨old, Nat.le_succ _, ⟨_, hx⟩, Nat.le_trans (Nat.le_trans (Nat.le_succ _) (Nat.le_succ _)) z, dne, hns⟩⟩
end
end GX
end PySem
namespace GG
open PySem PySem.Spec PyProof.Rows L2
theorem relX {fld : Str} {v : V} {v' : Value} (r : RelV v v') (f : Str) : RelO (List.lookup f [(fld, v)]) (if f = fld then some v' else none) := by
  by_cases hw : f = fld
  · subst hw
    rw [if_pos rfl]
    have q : List.lookup f [(f, v)] = some v := by simp [List.lookup]
    rw [q]
    exact r
  · rw [if_neg hw]
    have qw : (f == fld) = false := by simpa using hw
    have q2 : List.lookup f [(fld, v)] = none := by simp [List.lookup, qw]
    rw [q2]
    trivial
section
variable {X : Cx} {C fI : Addr} {cn fld : Str} {B newId initId : String} {bmB : List Value}
/-- X(e), to be raised -/
def tMkX (C : Addr) (fld : Str) (ta : TA) : L2.St → Hp → XK → Prop := fun σ H Q => ta σ H fun vs H1 => ∃ v, vs = [v] ∧ ∀ d, H1 d = none → Q (.ref C) (some d) (upd H1 d (.xd [(fld, v)]))
theorem pmkX {a : Expr} {ta : TA} {p pos : Pos} {k : Nat} (F : ExcBaseFacts B newId initId bmB) (T : PySem.GX.OwnX X.K X.mg cn fld bmB newId C fI) (init : PySem.GX.InitOk X.K fld C fI) (hr : Room k X.A) (ha : PA X [a] ta)
    (hg : Gl X cn := by rfl) (hdb : (cn == ("__debug__" : Str)) = false := by decide)
    (he : starEach (a :: []) X.env = (false, eval a X.env) :: starEach [] X.env := by rfl) (hpl : (backTo pos (starEach [] X.env)).any (·.1) = false := by rfl) :
    PMk X (.Call (.Name cn p) [a] [] pos) (tMkX C fld ta) := by
  intro pins s σ H Q I h
  refine wpAny_Call_Name_kw (ld_glob I hg T.gC ?_ hdb)
  refine PySem.W.callWith_K (h₀ := X.base) I.ok.mod.kin T.kC (thn (ha.run pos pins s σ H _ I h) ?_) he hpl
  intro us s1 hh
  obtain ⟨vs, H1, I1, r1, v, ev, q1⟩ := hh
  subst ev
  refine ⟨I1.kIn, ?_⟩
  obtain ⟨v', rfl, rv⟩ := vals1 r1
  show wpAny _ _ (call (.ref C) [v']) _ _ _
  have hlim := I1.nolimit
  obtain ⟨hp, g, dr, tk, os⟩ := s1
  have room2 := hr.dp
  refine wpAny_call (PySem.GX.madeX F T init I1.kIn hlim (by omega) fun h' tk' e d M => ?_)
  show MkP X pins σ Q (.ref e) ⟨h', g, dr, tk', os⟩
  obtain ⟨t1, hoe⟩ := M.obj
  have hns := M.ns
  obtain ⟨G', g1, g2⟩ := restrict h' fun b => decide (b ≠ e)
  have gk : ∀ b, b ≠ e → G'.get? b = h'.get? b := fun b hb => g1 b (decide_eq_true hb)
  have ge : G'.get? e = none := g2 e (by simp)
  have old : ∀ b o, hp.get? b = some o → G'.get? b = some o := by
    intro b o q
    exact (gk b (Nat.ne_of_lt (Nat.lt_of_lt_of_le (Heap.lt_size q) M.new))).trans (M.keep b o q)
  have ob : ObjOk X.prog X.w (upd H1 d (.xd [(fld, v)])) G' d (.xd [(fld, v)]) :=
    ⟨_, hns.at (fun o q => (gk d M.dne).trans q), fun f => relX rv f⟩
  have J : Inv X pins σ (upd H1 d (.xd [(fld, v)])) ⟨G', g, dr, tk', os⟩ := I1.laid (t' := tk') old M.dbig ob
  refine ⟨e, _, _, ⟨G', g, dr, tk', os⟩, _, .ref C, some d, rfl, J, fun b o q => ?_, ge, hoe, ⟨rfl, rfl⟩, rfl, rfl, ?_, rfl, I1.bare, raises_own T.exC T.tyC, q1 d (I1.hok.fresh M.dbig)⟩
  · by_cases hb : b = e
    · have q' : G'.get? b = some o := q
      rw [hb, ge] at q'
      cases q'
    · exact (gk b hb).symm.trans q
  · rw [upd_ne (Ne.symm M.dne)]
    exact I1.hok.fresh M.new
/-- raise X(e) -/
def tRaiseX (C : Addr) (fld : Str) (W : WX) (ta : TA) : TS := fun _ σ H => tMkX C fld ta σ H fun cls d H' => W cls d σ H'
theorem ps_raiseX {a : Expr} {ta : TA} {W : WX} {p pos pos2 : Pos} {k : Nat} (F : ExcBaseFacts B newId initId bmB) (hc : X.calm = true) (T : PySem.GX.OwnX X.K X.mg cn fld bmB newId C fI) (init : PySem.GX.InitOk X.K fld C fI)
    (hr : Room k X.A) (tk : Takes X W) (ha : PA X [a] ta) (hg : Gl X cn := by rfl) (hdb : (cn == ("__debug__" : Str)) = false := by decide)
    (he : starEach (a :: []) X.env = (false, eval a X.env) :: starEach [] X.env := by rfl) (hpl : (backTo pos (starEach [] X.env)).any (·.1) = false := by rfl) :
    PS X (.Raise (some (.Call (.Name cn p) [a] [] pos)) none pos2) (tRaiseX C fld W ta) := ps_raise hc tk (pmkX F T init hr ha hg hdb he hpl)
/-- e.fld, e the exception that the suite holds (at a; its class cls, its dict d) -/
def tByX (C : Addr) (fld : Str) (a : Addr) (cls : Value) (d : Option Addr) (te : TE) : TE := fun σ H Q => te σ H fun x H1 => x = .ref a ∧ cls = .ref C ∧ ∃ (dd : Addr) (v : V), d = some dd ∧ H1 dd = some (.xd [(fld, v)]) ∧ Q v H1
theorem pe_byX {a : Addr} {oe : Obj} {cls : Value} {d : Option Addr} {pn : List (Addr × Obj)} {e : Expr} {te : TE} {pos : Pos} (T : PySem.GX.OwnX X.K X.mg cn fld bmB newId C fI) (hz : Zc cls d oe) (hf : ∃ vs, oe.data = .fields vs)
    (he : PE (X.suite a ((a, oe) :: pn)) e te) (hb : attributeBase e fld X.env (eval e X.env) = eval e X.env := by rfl) :
    PE (X.suite a ((a, oe) :: pn)) (.Attribute e fld pos) (tByX C fld a cls d te) := by
  refine ⟨fun pins s σ H Q I h => ?_⟩
  refine attr_of hb (thn (he.run pins s σ H _ I h) ?_)
  intro u s1 hh
  obtain ⟨x, H1, I1, rx, ex, ec, dd, v, ed, ea, q⟩ := hh
  subst ex ec ed
  obtain rfl : u = Value.ref a := rx
  obtain ⟨ha, _⟩ := I1.pin (a, oe) (List.mem_append_left _ List.mem_cons_self)
  obtain ⟨vs, hd⟩ := hf
  have hx : ObjOk X.prog X.w H1 s1.heap dd (.xd [(fld, v)]) := I1.hok dd _ ea
  obtain ⟨mA, hns, hr⟩ := hx
  obtain ⟨od, ho, hl⟩ := lookIn_ns hns
  have l : List.lookup fld [(fld, v)] = some v := by simp [List.lookup]
  obtain ⟨u, hu, ru⟩ := RelO.some_of (v := v) (o := mA fld) (by rw [← l]; exact hr fld)
  have J : PySem.W.InstAt s1.heap a oe C (some od) := ⟨ha, hz.1, by unfold PySem.W.notCls; rw [hd] <;> rfl, by rw [hz.2]; exact ho⟩
  exact HandSPX.exc_get I1.kIn J T.ga T.gg T.exC (PySem.W.findObj_own T.hdC T.noN rfl (by rw [hl, hu])) (handed_of ru) ⟨v, H1, I1.tok _, ru, q⟩
end
end GG

set_option maxHeartbeats 4000000
namespace GG
open PySem PySem.Spec PyProof.Rows L2
/-! ### several except clauses, with a name or without -/
/-- behind a suite whose exception is named in slot i -/
def offI (i : Nat) (D : Ends) : Ends :=
  { nx := fun σ H => D.nx (σ.set i none) H, rt := D.rt, bk := fun σ H => D.bk (σ.set i none) H, ct := fun σ H => D.ct (σ.set i none) H }
abbrev Clause := Value × Option Nat × (Addr → Value → Option Addr → TS)
def wClauses (K : PySem.W.Frag) (Wout : WX) (D : Ends) : List Clause → WX
  | [] => Wout
  | (c, none, ts) :: r => fun cls d σ H => ∃ b, PySem.W.exmOne K cls c = some b ∧ (b = true → ∀ a, H a = none → ts a cls d D σ H) ∧ (b = false → wClauses K Wout D r cls d σ H)
  | (c, some i, ts) :: r => fun cls d σ H => ∃ b, PySem.W.exmOne K cls c = some b ∧
      (b = true → ∀ a, H a = none → ts a cls d (offI i D) (σ.set i (some (.ref a))) H) ∧ (b = false → wClauses K Wout D r cls d σ H)
inductive Clauses (X : Cx) : List ExceptHandler → List Clause → Prop
  | nil : Clauses X [] []
  | plain {x : Str} {c : Value} {ts : Addr → Value → Option Addr → TS} {b₀ : Stmt} {suite : List Stmt} {np pos' : Pos} {hds : List ExceptHandler} {l : List Clause} (hc : Names X x c)
      (hsu : ∀ (a : Addr) (oe : Obj) (cls : Value) (d : Option Addr) (pn : List (Addr × Obj)), Zc cls d oe → (∃ vs, oe.data = .fields vs) →
        PSs (X.suite a ((a, oe) :: pn)) (b₀ :: suite) (ts a cls d))
      (r : Clauses X hds l) : Clauses X (.ExceptHandler (some (.Name x np)) none (b₀ :: suite) pos' :: hds) ((c, none, ts) :: l)
  | named {x n : Str} {i : Nat} {c : Value} {ts : Addr → Value → Option Addr → TS} {b₀ : Stmt} {suite : List Stmt} {np pos' : Pos} {hds : List ExceptHandler} {l : List Clause}
      (hN : X.N.Nodup) (hi : X.N[i]? = some n) (hln : X.env.kindOf n = some .local) (hc : Names X x c)
      (hsu : ∀ (a : Addr) (oe : Obj) (cls : Value) (d : Option Addr) (pn : List (Addr × Obj)), Zc cls d oe → (∃ vs, oe.data = .fields vs) →
        PSs (X.suite a ((a, oe) :: pn)) (b₀ :: suite) (ts a cls d))
      (r : Clauses X hds l) : Clauses X (.ExceptHandler (some (.Name x np)) (some n) (b₀ :: suite) pos' :: hds) ((c, some i, ts) :: l)
section
variable {X : Cx} {body : List Stmt} {h₀ : ExceptHandler} {hds : List ExceptHandler} {l : List Clause} {pos : Pos} {tb : WX → TS} {Wout : WX}
/-- the handlers, met by the exception at a in flight -/
theorem clauses_go {pins : List (Addr × Obj)} {σ' : L2.St} {H' : Hp} {sI s' : Shared} {a : Addr} {B : Heap} {cls : Value} {d : Option Addr} {D : Ends}
    (hs : X.stack = X.env :: X.outer) (hf : X.env.frame = some X.env.locals) (tk : Takes X Wout) (J : Inv X pins σ' H' sI)
    (nb : ∀ b o, sI.heap.get? b = some o → b ∉ frs X.stack → B.get? b = some o) (up : sI.heap.UpToSlots s'.heap) (na : H' a = none)
    (os : s'.os = sI.os) (ag : AllBare s'.gens) {h3 : Heap} (fl3 : HandSPX.FlyingZ B (X.env :: X.outer) a (Zc cls d) h3) (up3 : s'.heap.UpToSlots h3)
    {k : List ExceptHandler} {m : List Clause} (C : Clauses X k m) :
    wClauses X.K Wout D m cls d σ' H' → wpAny (model X.prog X.w) X.A (handleBy (.ref a) X.env k) (SP X pins D) X.xe { s' with heap := h3 } := by
  have ok := J.ok
  have upA := up.trans up3
  have J3 : Inv X pins σ' H' { s' with heap := h3 } := J.landed nb fl3.1 upA os ag
  obtain ⟨oe3, vs3, he3, hz3, hd3⟩ := fl3.there
  have outside : a ∉ frs (X.env :: X.outer) := by
    intro hm
    obtain ⟨_, o', e', hnf⟩ := fl3.2.2.1.mem hm
    rw [he3] at e'
    cases e'
    exact hnf _ hd3
  have nL : a ≠ X.env.locals := fun z => outside (List.mem_filterMap.mpr ⟨X.env, List.mem_cons_self, by rw [hf, z]⟩)
  have nF : a ∉ X.fs := by
    intro hm
    obtain ⟨e, he, q⟩ := List.mem_filterMap.mp hm
    exact outside (List.mem_filterMap.mpr ⟨e, List.mem_cons_of_mem _ he, q⟩)
  have S3 := J3.suite he3 hd3 na nL nF
  have look : ∀ {x : Str} {c : Value} {np : Pos} {Q : Value → Shared → Prop} {E : Value → Shared → Prop}, Names X x c → Q c { s' with heap := h3 } →
      wpAny (model X.prog X.w) (X.A.mark (some (.ref a))) (eval (.Name x np) X.env) Q E { s' with heap := h3 } := by
    intro x c np Q E hc q
    obtain ⟨hg, hdbg, hm | ⟨hm, hv, hnn⟩⟩ := hc
    · exact ld_glob (X := X.suite a ((a, oe3) :: (X.pn ++ pins))) S3 hg hm q hdbg
    · exact ld_blt (X := X.suite a ((a, oe3) :: (X.pn ++ pins))) S3 hg hm hv q hnn hdbg
  have kindA : PySem.W.Looks (model X.prog X.w) h3 (typeOf (.ref a)) cls := by
    intro A Q E s kp q
    exact wpAny_typeOf_ref (kp _ _ he3) (by rw [hz3.1]; exact q)
  induction C with
  | nil =>
    intro wish
    refine wpAny_handleBy_nil ?_
    obtain ⟨k1, k2, k3, oe, vs, T, oT, ts', he, hz, hd, h1, hr⟩ := id fl3
    unfold PySem.passOn
    refine wpAny_bind (wpAny_field he hd h1 ?_)
    rw [if_neg (show ¬ ((Value.ref T == Value.none) = true) from by simp)]
    have out : wpAny (model X.prog X.w) X.A (setFlight (.ref a) X.env.frame)
        (fun _ s4 => wpAny (model X.prog X.w) X.A (throw (.ref a) : Sem Flow) (SP X pins D) X.xe s4) X.xe { s' with heap := h3 } := by
      rw [hf]
      refine HandSPX.setFlight_upZ fl3 fun h4 hh4 up4 => wpAny_throw (tk _ _ ?_)
      exact ⟨a, B, sI, pins, σ', H', cls, d, rfl, J, nb, upA.trans up4, .inr (.inr (by rw [hs]; exact hh4)), na, os, ag, wish⟩
    first
      | exact wpAny_bind (wpAny_pure (wpAny_bind out))
      | exact wpAny_bind out
  | @plain x c ts b₀ suite np pos' hds2 l2 hc hsu r ih =>
    intro wish
    obtain ⟨b, hb1, yes, no⟩ := wish
    refine wpAny_handleBy_cons (codeAny_handlers_test ?_) (by intro q; cases q)
    have LM := PySem.W.exm_one (M := model X.prog X.w) (J3.kIn) kindA hb1
    refine look hc (LM.here ?_)
    cases b with
    | false => exact ih (no rfl)
    | true =>
      refine codeAny_handlers_suite (HandSPX.lands_againZ fl3 fun h4 fl4 up4 => ?_)
      have J4 : Inv X pins σ' H' { s' with heap := h4 } := J.landed nb fl4.1 (upA.trans up4) os ag
      obtain ⟨oe4, vs4, he4, hz4, hd4⟩ := fl4.there
      have S4 := J4.suite he4 hd4 na nL nF
      refine wpAny_mono ((hsu a oe4 cls d (X.pn ++ pins) hz4 ⟨_, hd4⟩).run [] _ _ H' _ S4 (yes rfl a na)) (fun f s6 hsp => ?_) (fun _ _ z => False.elim z)
      cases f with
      | next => exact hsp.imp fun _ z => z.imp fun _ z => ⟨z.1.unsuite ok, z.2⟩
      | brk => exact hsp.imp fun _ z => z.imp fun _ z => ⟨z.1.unsuite ok, z.2⟩
      | cont => exact hsp.imp fun _ z => z.imp fun _ z => ⟨z.1.unsuite ok, z.2⟩
      | ret u => exact hsp.imp fun _ z => z.imp fun _ z => z.imp fun _ z => ⟨z.1.unsuite ok, z.2⟩
  | @named x n i c ts b₀ suite np pos' hds2 l2 hN hi hln hc hsu r ih =>
    intro wish
    obtain ⟨b, hb1, yes, no⟩ := wish
    refine wpAny_handleBy_cons (codeAny_handlers_test ?_) (by intro q; cases q)
    have LM := PySem.W.exm_one (M := model X.prog X.w) (J3.kIn) kindA hb1
    refine look hc (LM.here ?_)
    cases b with
    | false => exact ih (no rfl)
    | true =>
      refine codeAny_handlers_suite_as (HandSPX.lands_againZ fl3 fun h4 fl4 up4 => ?_)
      have J4 : Inv X pins σ' H' { s' with heap := h4 } := J.landed nb fl4.1 (upA.trans up4) os ag
      obtain ⟨oe4, vs4, he4, hz4, hd4⟩ := fl4.there
      have S4 := J4.suite he4 hd4 na nL nF
      refine store_ok (X := X.suite a ((a, oe4) :: (X.pn ++ pins))) (v := .ref a) S4 hN hi (.inl hln) rfl (fun s5 S5 => ?_) (.inr hln)
      refine wpAny_mono ((hsu a oe4 cls d (X.pn ++ pins) hz4 ⟨_, hd4⟩).run [] s5 _ H' _ S5 (yes rfl a na)) (fun f s6 hsp => ?_) (fun _ _ z => False.elim z)
      have gone : ∀ {σ6 : L2.St} {H6 : Hp} {Q : Shared → Prop}, Inv (X.suite a ((a, oe4) :: (X.pn ++ pins))) [] σ6 H6 s6 → (∀ s7, Inv X pins (σ6.set i none) H6 s7 → Q s7) →
          wpAny (model X.prog X.w) X.A (do bindName X.env n .none; unbindBehindTheSuite X.env n pos') (fun _ s7 => Q s7) X.xe s6 :=
        fun {σ6 H6 Q} S6 hq => gone_ok (S6.unsuite ok) hN hi hln hq
      cases f with
      | next =>
        obtain ⟨σ6, H6, S6, q6⟩ := hsp
        exact gone S6 fun s7 J7 => ⟨_, _, J7, q6⟩
      | brk =>
        obtain ⟨σ6, H6, S6, q6⟩ := hsp
        exact gone S6 fun s7 J7 => ⟨_, _, J7, q6⟩
      | cont =>
        obtain ⟨σ6, H6, S6, q6⟩ := hsp
        exact gone S6 fun s7 J7 => ⟨_, _, J7, q6⟩
      | ret u =>
        obtain ⟨v6, σ6, H6, S6, r6, q6⟩ := hsp
        exact gone S6 fun s7 J7 => ⟨_, _, _, J7, r6, q6⟩
/-- try: .. except X as e: .. except Y: .. -/
theorem ps_tryC (hs : X.stack = X.env :: X.outer) (hf : X.env.frame = some X.env.locals) (tk : Takes X Wout)
    (hb : ∀ (W : WX) (pn : List (Addr × Obj)) (xe : Value → Shared → Prop), Takes (X.tr pn xe) W → PassesOwn (model X.prog X.w) X.A X.env xe → PSs (X.tr pn xe) body (tb W))
    (hh : Clauses X (h₀ :: hds) l) : PS X (.Try body (h₀ :: hds) [] [] pos) (fun D σ H => tb (wClauses X.K Wout D l) D σ H) := by
  constructor
  intro pins s σ H D I h
  have ok := I.ok
  have fr : X.A.frames = some (X.env :: X.outer) := by rw [ok.frames, hs]
  refine wpAny_Try_except ?_
  have meet : Takes (X.tr (X.pn ++ pins) (fun e s₁ => wpAny (model X.prog X.w) X.A (noteFrame e X.env) (fun _ s₂ => wpAny (model X.prog X.w) X.A (setFlight e none)
      (fun _ s₃ => wpAny (model X.prog X.w) X.A (handleBy e X.env (h₀ :: hds)) (SP X pins D) X.xe s₃) X.xe s₂) X.xe s₁)) (wClauses X.K Wout D l) := by
    intro u s' xx
    obtain ⟨a, B, sI, pins', σ', H', cls, d, rfl, J', nb, up, sky, na, os, ag, wish⟩ := xx
    have sky' : Sky B (X.env :: X.outer) a (Zc cls d) X.env.locals s'.heap := by rw [← hs]; exact sky
    show wpAny (model X.prog X.w) X.A (noteFrame (.ref a) X.env) _ _ _
    exact Sky.land Zc.steady fr hf sky' fun h3 fl3 up3 => clauses_go hs hf tk (J'.ofTry ok) nb up na os ag fl3 up3 hh wish
  have run := (hb _ _ _ meet PassesOwn.looking).run [] s σ H D (I.toTry _) h
  refine wpAny_mono run (fun f s1 hsp => ?_) (fun e s1 he => he)
  cases f with
  | next =>
    obtain ⟨σ', H', J', q⟩ := hsp
    exact wpAny_execs_nil ⟨σ', H', J'.ofTry ok, q⟩
  | brk => exact hsp.imp fun _ z => z.imp fun _ z => ⟨z.1.ofTry ok, z.2⟩
  | cont => exact hsp.imp fun _ z => z.imp fun _ z => ⟨z.1.ofTry ok, z.2⟩
  | ret u => exact hsp.imp fun _ z => z.imp fun _ z => z.imp fun _ z => ⟨z.1.ofTry ok, z.2⟩
end
end GG

set_option maxHeartbeats 4000000
namespace GG
open PySem PySem.Spec PyProof.Rows L2 LamX
/-! ### the end of a law's row whose text makes lambdas -/
section
variable {P : Program} {w : World} {K : PySem.W.Frag} {mg mb : Str → Option Value} {CX : CXT} {k : Nat} {fa a : Addr} {cs : List (Addr × Addr)} {fd : FuncData}
  {x : Str} {sp : Sp} {s₁ : Shared} {vs : List Value} {ns : List Int}
theorem law_coreT {H : Hp} (KX : K.In s₁.heap) (ng : s₁.heap.Ns mainGlobals mg) (nb : s₁.heap.Ns builtinsNs mb)
    (bb : ∀ x : Str, x ≠ "__name__" → mb x = bootBuiltins x) (lim : s₁.heap.NoLimit) (g0 : s₁.gens = #[])
    (empties : ∀ p ∈ cs, s₁.heap.get? p.2 = some { cls := .none, data := .fields #[] }) (notT : ∀ p ∈ cs, K.lookup p.2 = none)
    (code : ∀ p ∈ cs, PySem.W.CodeHd s₁.heap p.1 p.2)
    (hbm : ∃ (bm : Addr) (ob : Obj), mg "__builtins__" = some (.ref bm) ∧ bm ≠ builtinsNs ∧ s₁.heap.get? bm = some ob ∧ ob.cls = .type "module" ∧ ob.dict = some builtinsNs ∧ ob.data = .plain)
    (ha : s₁.heap.get? a = some { cls := .type "list", data := .seq vs.toArray }) (room : Room k callerA)
    (F : ∀ base : Heap, K.In base → base.Ns mainGlobals mg → (∀ p ∈ cs, TabB base mg p.1 p.2) → FnG P w K mg base CX k fa fd [x] sp)
    (bind : ∀ (s : Shared) (u : Value), BindsTo s fd ⟨[u], []⟩ [(x, u)])
    (want : sp [.ref a] H (fun v _ => v = .bl true) fun _ _ _ => False)
    (noX : ∀ H e s', CX [] H s₁ (fun _ _ _ => False) e s' → False)
    (tabs : ∀ p ∈ cs, H p.2 = some (.tbl #[]))
    (only : ∀ b, H b = none ∨ b ∈ cs.map (·.2) ∨ ∃ o xs, H b = some (.frz o (.lst xs))) (ok : HOk P w H s₁.heap)
    (where_ : ∀ b, H b ≠ none → b = a ∨ b ∈ cs.map (·.2)) (notK : H a ≠ none → K.lookup a = none) :
    codeAny (model P w) callerA (.call (.ref fa) ⟨[.ref a], []⟩)
      (fun r s' => r = .ok (.ret (.bool true)) ∧ OldK s₁.heap s'.heap ∧ s'.os = s₁.os ∧ AllBare s'.gens) s₁ := by
  have tabAt : ∀ b : Addr, b ∈ cs.map (·.2) → s₁.heap.get? b = some { cls := .none, data := .fields #[] } := by
    intro b hb
    obtain ⟨p, hp, e⟩ := List.mem_map.mp hb
    rw [← e]
    exact empties p hp
  have untracked : ∀ {b : Addr} {o : Obj}, s₁.heap.get? b = some o → (∀ vs n, o.data ≠ .seq vs n) → o.data ≠ .fields #[] → H b = none := by
    intro b o e h1 h2
    rcases hq : H b with _ | u
    · rfl
    · rcases where_ b (fun z => by rw [z] at hq; cases hq) with e' | e'
      · rw [e', ha] at e
        cases e
        exact (h1 _ _ rfl).elim
      · rw [tabAt b e'] at e
        cases e
        exact (h2 rfl).elim
  have dictFree : ∀ {b : Addr} {o : Obj} {es : Array DictEntry} {ep : Nat}, s₁.heap.get? b = some o → o.data = .dict es ep → H b = none := by
    intro b o es ep e d
    exact untracked e (fun vs n z => by rw [d] at z; cases z) (fun z => by rw [d] at z; cases z)
  have nsB : ∀ {b : Addr} {m : Str → Option Value}, s₁.heap.Ns b m → (hidT s₁.heap H).Ns b m := by
    rintro b m ⟨o, es, ep, e, d, r⟩
    exact ⟨o, es, ep, hidT_get e (dictFree e d), d, r⟩
  have KB : K.In (hidT s₁.heap H) := by
    intro b o e
    refine hidT_get (KX b o e) ?_
    rcases hq : H b with _ | u
    · rfl
    · rcases where_ b (fun z => by rw [z] at hq; cases hq) with e' | e'
      · rw [e'] at e hq
        rw [notK (fun z => by rw [z] at hq; cases hq)] at e
        cases e
      · obtain ⟨p, hp, ep⟩ := List.mem_map.mp e'
        rw [← ep, notT p hp] at e
        cases e
  have TB : ∀ p ∈ cs, TabB (hidT s₁.heap H) mg p.1 p.2 := by
    intro p hp
    have atP := empties p hp
    refine ⟨?_, ?_, fun z => ?_⟩
    · obtain ⟨o, us, file, tf, flags, tg, inF, text, tt, e1, r1, r2, r3, r4, r5, r6, r7, r8, hne⟩ := code p hp
      refine ⟨o, us, file, tf, flags, tg, inF, text, tt, hidT_get e1 (untracked e1 (fun vs n z => ?_) fun z => ?_), r1, r2, r3, r4, r5, r6, r7, r8, hne⟩
      · rw [r2] at z
        cases z
      · rw [r2] at z
        cases z
        simp at r3
    · obtain ⟨bm, ob, b1, b2, b3, b4, b5, b6⟩ := hbm
      have notG : bm ≠ mainGlobals := by
        intro q
        obtain ⟨o, es, ep, e, hd, _⟩ := ng
        rw [q, e] at b3
        cases b3
        rw [hd] at b6
        cases b6
      have notP : bm ≠ p.2 := by
        intro q
        rw [q, atP] at b3
        cases b3
        cases b6
      refine ⟨bm, ob, b1, b2, notG, notP, hidT_get b3 (untracked b3 (fun vs n z => ?_) fun z => ?_), b4, b5, b6⟩
      · rw [b6] at z
        cases z
      · rw [b6] at z
        cases z
    · obtain ⟨o, es, ep, e, hd, _⟩ := ng
      rw [z, atP] at e
      cases e
      cases hd
  have en : Env0 P w K mg (hidT s₁.heap H) callerA [] s₁ H := by
    refine ⟨rfl, ⟨KB, nsB ng, ⟨mb, nsB nb, bb⟩, ?_⟩, fun b o e => of_hidT e, Nat.le_of_eq (hidT_size _ _), trivial, ?_, ok, .of_eq g0⟩
    · obtain ⟨mc, h1, h2⟩ := lim
      exact ⟨mc, nsB h1, h2⟩
    · intro b z
      cases (show b ∈ ([] : List Addr) from z)
  refine codeAny_mono ((F _ KB (nsB ng) TB).go callerA [] s₁ H ⟨[.ref a], []⟩ [.ref a] [.ref a] _ _ rfl room en
    (bind s₁ (.ref a)) (.cons rfl .nil) want) ?_
  intro r s' z
  cases r with
  | error e => exact (noX H e s' z).elim
  | ok fl =>
    cases fl with
    | next => exact z.elim
    | brk => exact z.elim
    | cont => exact z.elim
    | ret u =>
      obtain ⟨v, H', os, bare, un, ok', rv, q⟩ := z
      cases (show v = .bl true from q)
      cases (show u = Value.bool true from rv)
      have stays : ∀ b o, b ∉ cs.map (·.2) → s₁.heap.get? b = some o → s'.heap.get? b = some o := by
        intro b o nb e
        rcases only b with hq | hq | ⟨ob, xs, hq⟩
        · exact un.keep b o e hq (fun z => by cases (show b ∈ ([] : List Addr) from z)) (fun z => by cases z)
        · exact absurd hq nb
        · have f1 := (ok b _ hq).left
          have f2 := (ok' b _ (un.frzs b ob _ hq)).left
          rw [e] at f1
          cases f1
          exact f2
      have grows : ∀ p ∈ cs, ∃ more : Array Value, s'.heap.get? p.2 = some { cls := .none, data := .fields more } := by
        intro p hp
        obtain ⟨more, z⟩ := un.tbls p.2 #[] (tabs p hp)
        exact ⟨_, ok' p.2 _ z⟩
      refine ⟨rfl, ⟨fun b o e => ?_, fun b o e => ?_⟩, os, bare⟩
      · by_cases hb : b ∈ cs.map (·.2)
        · obtain ⟨p, hp, ep⟩ := List.mem_map.mp hb
          obtain ⟨more, hm⟩ := grows p hp
          rw [← ep] at e ⊢
          rw [empties p hp] at e
          cases e
          exact .inr (.inl ⟨((code p hp).tab (empties p hp)).isCodeTable, rfl, #[], more, rfl, by rw [Array.empty_append]; exact hm⟩)
        · exact .inl (stays b o hb e)
      · by_cases hb : b ∈ cs.map (·.2)
        · obtain ⟨p, hp, ep⟩ := List.mem_map.mp hb
          obtain ⟨more, hm⟩ := grows p hp
          rw [← ep]
          exact ⟨_, hm⟩
        · exact ⟨o, stays b o hb e⟩
/-- the heap at the law's entry: the script, the tables -/
def entryH (known : Bool) (a : Addr) (vs : List Value) (ns : List Int) (ts : List Addr) : Hp := fun b =>
  if b = a ∧ known = false then some (.frz { cls := .type "list", data := .seq vs.toArray } (.lst (ns.map V.int)))
  else if b ∈ ts then some (.tbl #[]) else none
theorem law_callT (KX : K.In s₁.heap) (ng : s₁.heap.Ns mainGlobals mg) (nb : s₁.heap.Ns builtinsNs mb)
    (bb : ∀ x : Str, x ≠ "__name__" → mb x = bootBuiltins x) (lim : s₁.heap.NoLimit) (g0 : s₁.gens = #[])
    (empties : ∀ p ∈ cs, s₁.heap.get? p.2 = some { cls := .none, data := .fields #[] }) (notT : ∀ p ∈ cs, K.lookup p.2 = none)
    (code : ∀ p ∈ cs, PySem.W.CodeHd s₁.heap p.1 p.2)
    (hbm : ∃ (bm : Addr) (ob : Obj), mg "__builtins__" = some (.ref bm) ∧ bm ≠ builtinsNs ∧ s₁.heap.get? bm = some ob ∧ ob.cls = .type "module" ∧ ob.dict = some builtinsNs ∧ ob.data = .plain)
    (ha : s₁.heap.get? a = some { cls := .type "list", data := .seq vs.toArray }) (hi : IntsAre vs ns) (hl : ns.length ≤ sizeLine) (room : Room k callerA)
    (F : ∀ base : Heap, K.In base → base.Ns mainGlobals mg → (∀ p ∈ cs, TabB base mg p.1 p.2) → FnG P w K mg base CX k fa fd [x] sp)
    (bind : ∀ (s : Shared) (u : Value), BindsTo s fd ⟨[u], []⟩ [(x, u)])
    (want : ∀ H : Hp, (∀ p ∈ cs, H p.2 = some (.tbl #[])) → SqL K H a (ns.map V.int) → sp [.ref a] H (fun v _ => v = .bl true) fun _ _ _ => False)
    (noX : ∀ H e s', CX [] H s₁ (fun _ _ _ => False) e s' → False) :
    codeAny (model P w) callerA (.call (.ref fa) ⟨[.ref a], []⟩)
      (fun r s' => r = .ok (.ret (.bool true)) ∧ OldK s₁.heap s'.heap ∧ s'.os = s₁.os ∧ AllBare s'.gens) s₁ := by
  have vi := vals_ints hi
  have tabAt : ∀ b : Addr, b ∈ cs.map (·.2) → s₁.heap.get? b = some { cls := .none, data := .fields #[] } := by
    intro b hb
    obtain ⟨p, hp, e⟩ := List.mem_map.mp hb
    rw [← e]
    exact empties p hp
  have aT : a ∉ cs.map (·.2) := by
    intro z
    have q := tabAt a z
    rw [ha] at q
    cases (show Data.seq vs.toArray _ = Data.fields #[] from congrArg Obj.data (Option.some.inj q))
  have atTab : ∀ (kn : Bool) b, b ∈ cs.map (·.2) → entryH kn a vs ns (cs.map (·.2)) b = some (.tbl #[]) := by
    intro kn b hb
    unfold entryH
    rw [if_neg (fun (z : b = a ∧ kn = false) => aT (z.1 ▸ hb)), if_pos hb]
  have inTabs : ∀ p ∈ cs, p.2 ∈ cs.map (·.2) := fun p hp => List.mem_map.mpr ⟨p, hp, rfl⟩
  have cases3 : ∀ (kn : Bool) b, (b = a ∧ kn = false ∧ entryH kn a vs ns (cs.map (·.2)) b = some (.frz { cls := .type "list", data := .seq vs.toArray } (.lst (ns.map V.int)))) ∨
      (b ∈ cs.map (·.2) ∧ entryH kn a vs ns (cs.map (·.2)) b = some (.tbl #[])) ∨ entryH kn a vs ns (cs.map (·.2)) b = none := by
    intro kn b
    by_cases h1 : b = a ∧ kn = false
    · exact .inl ⟨h1.1, h1.2, if_pos h1⟩
    · by_cases h2 : b ∈ cs.map (·.2)
      · exact .inr (.inl ⟨h2, atTab kn b h2⟩)
      · refine .inr (.inr ?_)
        unfold entryH
        rw [if_neg h1, if_neg h2]
  have main : ∀ kn : Bool, SqL K (entryH kn a vs ns (cs.map (·.2))) a (ns.map V.int) → (kn = false → K.lookup a = none) →
      codeAny (model P w) callerA (.call (.ref fa) ⟨[.ref a], []⟩)
        (fun r s' => r = .ok (.ret (.bool true)) ∧ OldK s₁.heap s'.heap ∧ s'.os = s₁.os ∧ AllBare s'.gens) s₁ := by
    intro kn sq hk
    refine law_coreT KX ng nb bb lim g0 empties notT code hbm ha room F bind (want _ (fun p hp => atTab kn _ (inTabs p hp)) sq) noX
      (fun p hp => atTab kn _ (inTabs p hp)) (fun b => ?_) (fun b u z => ?_) (fun b z => ?_) (fun z => ?_)
    · rcases cases3 kn b with ⟨_, _, e⟩ | ⟨e, _⟩ | e
      · exact .inr (.inr ⟨_, _, e⟩)
      · exact .inr (.inl e)
      · exact .inl e
    · rcases cases3 kn b with ⟨rfl, _, e⟩ | ⟨m, e⟩ | e
      · rw [e] at z
        cases z
        exact ⟨ha, by rw [List.length_map]; exact hl, vs, _, vi, ha⟩
      · rw [e] at z
        cases z
        exact tabAt b m
      · rw [e] at z
        cases z
    · rcases cases3 kn b with ⟨e, _⟩ | ⟨m, _⟩ | e
      · exact .inl e
      · exact .inr m
      · exact absurd e z
    · rcases cases3 kn a with ⟨_, e, _⟩ | ⟨m, _⟩ | e
      · exact hk e
      · exact absurd m aT
      · exact absurd e z
  rcases hk : K.lookup a with _ | o
  · refine main false (.inl (.inr ⟨{ cls := .type "list", data := .seq vs.toArray }, if_pos ⟨rfl, rfl⟩⟩)) (fun _ => hk)
  · have e := KX a o hk
    rw [ha] at e
    cases e
    refine main true (.inr ⟨_, vs.toArray, _, hk, rfl, rfl, rfl, by rw [List.size_toArray, hi.length]; exact hl, by simpa using vi⟩) (fun z => by cases z)
end
/-- what is known of the law's promise at the head's heap h -/
def LawT (l : PySem.W.OpenLaw) (w : World) (K : PySem.W.Frag) (CX : CXT) (k n : Nat) (x : Str) (mg : Str → Option Value) (fa : Addr) (h : Heap) : Prop :=
  ∃ (fd : FuncData) (cs : List (Addr × Addr)) (sp : Sp), (∀ p ∈ cs, h.get? p.2 = some { cls := .none, data := .fields #[] }) ∧ (∀ p ∈ cs, K.lookup p.2 = none) ∧
    (∀ p ∈ cs, PySem.W.CodeHd h p.1 p.2) ∧ (∀ (s : Shared) (u : Value), BindsTo s fd ⟨[u], []⟩ [(x, u)]) ∧
    (∀ (H : Hp) (a : Addr) (ns : List Int), ns.length ≤ n → (∀ p ∈ cs, H p.2 = some (.tbl #[])) → SqL K H a (ns.map V.int) →
      sp [.ref a] H (fun v _ => v = .bl true) fun _ _ _ => False) ∧
    ∀ base : Heap, K.In base → base.Ns mainGlobals mg → (∀ p ∈ cs, TabB base mg p.1 p.2) → FnG l.prog w K mg base CX k fa fd [x] sp
theorem walkT {l : PySem.W.OpenLaw} {n k : Nat} {q : Program} {loose : List Str} {XP : (Str → Option Value) → Heap → Prop} {YP : World → Heap → Prop} {d : DefRec}
    {K : Params → PySem.W.Frag} {CX : World → CXT} {x : Str}
    (hn : l.most = some n) (hn2 : n ≤ sizeLine) (hdf : d.params.defaults = []) (room : Room k callerA) (hY : ∀ (w : World) (h : Heap), YP w h → (K w.params).In h)
    (F : ∀ (w : World) (mg : Str → Option Value) (fa : Addr) (h : Heap), YP w h → (K w.params).In h → h.Ns mainGlobals mg → mg d.name = some (.ref fa) →
      LawT l w (K w.params) (CX w) k n x mg fa h)
    (noX : ∀ (w : World) (H : Hp) (s : Shared) (e : Value) (s' : Shared), CX w [] H s (fun _ _ _ => False) e s' → False) :
    PySem.W.WalkO q loose XP YP l.row.toRowW d [] (fun f vs => PySem.call f vs) := by
  apply Att.attach_call hn hdf
  intro w s₀ s₁ mg mb fa o pm cd doc a vs ns G Y ho hd hcd hmg hobj hints hlen hg
  obtain ⟨fd, cs, sp, h1, h2, h3, hb, hsp, hF⟩ := F w mg fa _ Y (hY w _ Y) G.T.g hmg
  exact law_callT (hY w _ Y) G.T.g G.T.b G.T.builtins G.T.nolimit hg h1 h2 h3 G.T.bmain hobj hints (Nat.le_trans hlen hn2) room hF hb
    (fun H hH hS => hsp H a ns hlen hH hS) (fun H e s' => noX w H s₁ e s')
end GG

set_option maxHeartbeats 4000000
namespace PySem
open Sem (wp)
/-! ### enumerate(v) over whatever iter(v) begins -/
theorem meets_enum1 {v : Value} {o : Obj} {H : Heap → Prop} (B : Begins v o H) :
    Meets (Builtin.«enumerate.__new__» ⟨[.type "enumerate", v], []⟩) (fun _ R s => H s.heap ∧
      R (.ok (.ret (.ref (s.heap.push o).objs.size)))
        { s with heap := (s.heap.push o).push { cls := .type "enumerate", data := .fields #[.none, .bool false, .ref s.heap.objs.size, rawInt 0, .none, .none] } }) :=
  .of_wp fun prog w A R s h => by
    obtain ⟨hp, g, d, tk, os⟩ := s
    obtain ⟨h1, h⟩ := h
    have hsub := sub_enumerate
    have q1 : ∀ {A' : Around} {E : Value → Shared → Prop} {Q : Value → Shared → Prop}, Q (.ref hp.objs.size) ⟨hp.push o, g, d, tk, os⟩ → wpAny (model prog w) A' (pyIter v) Q E ⟨hp, g, d, tk, os⟩ :=
      fun q => B.iter prog w _ _ ⟨hp, g, d, tk, os⟩ _ h1 q
    wp_walk using q1
    refine wpAny_stack_any fun st => wpAny_pure ?_
    split
    · rename_i c _ _ _ _ _
      cases (c == Value.type "enumerate")
      · wp_walk using q1
        exact ⟨_, rfl, h⟩
      · wp_walk using q1
        exact ⟨_, rfl, h⟩
    · wp_walk using q1
      exact ⟨_, rfl, h⟩
section
variable {prog : Program} {w : World} {A : Around} {E : Value → Shared → Prop} {s : Shared}
theorem enum_begins1 {v : Value} {o : Obj} {H : Heap → Prop} {Q : Value → Shared → Prop} (B : Begins v o H) (h1 : H s.heap)
    (h : ∀ h', IsEnum h' (s.heap.objs.size + 1) s.heap.objs.size 0 .none → h'.get? s.heap.objs.size = some o → h'.objs.size = s.heap.objs.size + 2 →
      (∀ b o, s.heap.get? b = some o → h'.get? b = some o) → Q (.ref (s.heap.objs.size + 1)) { s with heap := h' }) :
    wpAny (model prog w) A (call (.type "enumerate") [v]) Q E s := by
  refine callType_new F.called_enumerate (by decide) (F.typeCall_enumerate_1 _) (F.newCall_enumerate_1 _)
    (fun obj => F.args_object_init_2 obj _) F.entry_enumerate_new (meets_enum1 B) ⟨h1, ?_⟩
  have hz : (s.heap.push o).objs.size = s.heap.objs.size + 1 := Heap.size_push ..
  show _ ∧ _
  rw [hz]
  have he : IsEnum ((s.heap.push o).push { cls := .type "enumerate", data := .fields #[.none, .bool false, .ref s.heap.objs.size, rawInt 0, .none, .none] })
      (s.heap.objs.size + 1) s.heap.objs.size 0 .none := by
    have := Heap.get?_push_size (s.heap.push o) (o := { cls := .type "enumerate", data := .fields #[.none, .bool false, .ref s.heap.objs.size, rawInt 0, .none, .none] }) rfl
    rw [hz] at this
    exact this
  exact ⟨⟨_, he, rfl⟩, h _ he (Heap.get?_push_of_some _ (Heap.get?_push_size _ B.free)) (by rw [Heap.size_push, hz])
    fun b o x => Heap.get?_push_of_some _ (Heap.get?_push_of_some _ x)⟩
end
end PySem
namespace GG
open PySem PySem.Spec PyProof.Rows L2
/-- the tuple at a, its items with their places in new pairs -/
def Itet (K : PySem.W.Frag) (a : Addr) : It :=
  ⟨fun i H => ∃ (xs : List V) (x : V), SqT K H a xs ∧ xs[i]? = some x,
   fun i H v H' => ∃ T x, v = .ref T ∧ H T = none ∧ H' = upd H T (.tup [.int (i : Nat), x]) ∧ ∀ xs, SqT K H a xs → xs[i]? = some x,
   fun i H => ∃ xs : List V, SqT K H a xs ∧ xs.length ≤ i⟩
theorem turn_enumT {P : Program} {w : World} {K : PySem.W.Frag} {elts : List Expr} {kk : Nat} {tpos : Pos} (a e it : Addr) (ai : a ≠ it) (ae : a ≠ e) :
    Turn P w K (.Tuple elts kk tpos) (Itet K a) [e, it] e (fun i h => (∃ old, IsEnum h e it ((i : Nat) : Int) old) ∧ h.IsTupleIter it a i ∧ e ≠ it) where
  mem := by simp
  obj := by
    intro i h st b hb
    obtain ⟨⟨old, he⟩, ⟨o, ho, hc, hd⟩, _⟩ := st
    have two : b = e ∨ b = it := by simpa using hb
    rcases two with z | z
    · rw [z]
      exact ⟨_, he, fun v q => nomatch q⟩
    · rw [z]
      exact ⟨o, ho, fun v q => by rw [hd] at q; cases q⟩
  keep := by
    intro i h h' st k
    obtain ⟨⟨old, he⟩, hi, hne⟩ := st
    exact ⟨⟨old, k e (by simp) _ he⟩, hi.at fun o q => k it (by simp) o q, hne⟩
  item := by
    intro X hP hw hK hc i pins s σ H E I hf st hg
    subst hP hw hK
    obtain ⟨⟨old, he⟩, hit, hne⟩ := st
    obtain ⟨xs, x, hq, hx⟩ := hg
    obtain ⟨its, rv, p, hz⟩ := I.tuple hq
    obtain ⟨u, hu, ru⟩ := rv.get hx
    have el : e < s.heap.objs.size := Heap.lt_size he
    have il : it < s.heap.objs.size := by
      obtain ⟨_, q, _⟩ := hit
      exact Heap.lt_size q
    have lt : i < its.toArray.size := by
      have := (List.getElem?_eq_some_iff.mp hu).1
      simpa using this
    have hh : X.A.in1.handled = none := I.ok.hd hc
    have D := Draws.tuple (prog := X.prog) (w := X.w) hh it a ai its.toArray
    have ei : e ∉ [it, a] := by
      intro z
      rcases List.mem_cons.mp z with z | z
      · exact hne z
      · exact ae (List.mem_singleton.mp z).symm
    refine wpAny_pyNext_enum_itemD D he ⟨hit, (show s.heap.IsTuple a its.toArray from p)⟩ lt hne ei ?_
    intro y h' tk hy ho st' hT hsz hk
    have ey : y = u := by
      have : its.toArray[i]? = some u := by simpa using hu
      rw [this] at hy
      exact (Option.some.inj hy).symm
    subst ey
    refine ⟨_, rfl, wpAny_letOwnedTupleGo_enum (s := { s with heap := h', toks := tk + 1 }) ho ?_⟩
    intro h'' he' sb
    have hT2 : h''.get? s.heap.objs.size = some { cls := .type "tuple", data := .seq #[.int i tk, y] } := (sb.2 _ (Nat.ne_of_gt el)).trans hT
    have new : ObjOk X.prog X.w (upd H s.heap.objs.size (.tup [.int (i : Nat), x])) h'' s.heap.objs.size (.tup [.int (i : Nat), x]) :=
      ⟨by show 2 ≤ sizeLine; decide, [.int i tk, y], .cons ⟨_, rfl⟩ (.cons ru .nil), ⟨_, hT2, rfl, _, rfl⟩⟩
    have I1 : Inv X pins σ (upd H s.heap.objs.size (.tup [.int (i : Nat), x])) { s with heap := h'', toks := tk + 1 } := by
      refine I.turnedNew (ch := [e, it]) (fun b ob hb q => ?_) hf (Nat.le_refl _) new
      exact (sb.2 b (fun z => hb (by simp [z]))).trans (hk b ob (fun z => hb (by simp [z])) (fun z => hb (by simp [z])) q)
    refine ⟨.ref s.heap.objs.size, _, I1, rfl, ⟨_, x, rfl, I.hok.fresh (Nat.le_refl _), rfl, fun ys hy => by rw [I.tuple_inj hy hq]; exact hx⟩, ⟨⟨y, ?_⟩, ?_, hne⟩, fun b hb => ?_⟩
    · have e1 : ((i + 1 : Nat) : Int) = (i : Int) + 1 := by omega
      rw [e1]
      exact he'
    · exact st'.1.at fun o q => (sb.2 it (Ne.symm hne)).trans q
    · have lb : b < s.heap.objs.size := by
        have two : b = e ∨ b = it := by simpa using hb
        rcases two with z | z
        · rw [z]
          exact el
        · rw [z]
          exact il
      rw [upd_ne (Nat.ne_of_lt lb)]
      exact (hf b hb).1
  done := by
    intro X hP hw hK hc i pins s σ H E I hf st hg
    subst hP hw hK
    obtain ⟨⟨old, he⟩, hit, hne⟩ := st
    obtain ⟨xs, hq, hx⟩ := hg
    obtain ⟨its, rv, p, hz⟩ := I.tuple hq
    obtain ⟨f0, f1, f2, f3, f4, f5⟩ := hf it (by simp)
    have hl := rv.length
    have hT : s.TypeIs (.ref e) "enumerate" := ⟨_, he, rfl⟩
    unfold pyNext
    refine wpAny_bind (wpAny_attempt (wpAny_callSpecial?_slot (name := Str.ofString "__next__") hT F.slot_enumerate_next
      (wpAny_call_entry F.slot_enumerate_next hT F.entry_enumerate_next ?_ (F.args_enumerate_next_1 _))))
    show wpAny _ _ (field (.ref e) 2 >>= _) _ _ _
    refine wpAny_bind (wpAny_field he rfl (x := .ref it) rfl ?_)
    refine wpAny_bind (wpAny_nextOf_tuple_end (A := X.A.in1) (I.ok.hd hc) hit (show s.heap.IsTuple a its.toArray from p) (by simp; omega) ?_)
    intro h' x he' hx'
    obtain ⟨o, ho, hcl⟩ := hx'
    refine wpAny_bind (wpAny_isInstance (T := "StopIteration") (b := true) ⟨o, ho, hcl⟩ isSubtype_stop ?_)
    exact wpAny_pure ⟨rfl, I.turned (t' := s.toks) (fun b o hb q => he' b o hb q) f0 f1 f3 f4 f5⟩
  self := by
    intro A i s Q E st h
    obtain ⟨⟨_, he⟩, _⟩ := st
    exact wpAny_pyIter_enum he h
def iEnumT (K : PySem.W.Frag) (ta : TA) : TI := fun σ H R => ta σ H fun vs H1 => ∃ a xs, vs = [.ref a] ∧ SqT K H1 a xs ∧ R (Itet K a) H1
theorem pi_enumT {X : Cx} {e : Expr} {ta : TA} {p pos tpos : Pos} {elts : List Expr} {kk : Nat} (hg : Gl X "enumerate") (hm : X.mg "enumerate" = none) (ha : PA X [e] ta)
    (hs : starEach [e] X.env = [(false, eval e X.env)] := by rfl) :
    PI X (.Tuple elts kk tpos) (.Call (.Name "enumerate" p) [e] [] pos) (iEnumT X.K ta) := by
  constructor
  intro pins s σ H R I h
  refine Call_ (ld_blt I hg hm boot_enumerate (PyProof.Rows.callWith_type1 (thn (ha.run pos pins s σ H _ I h) ?_) hs rfl))
  intro us s1 ⟨vs, H1, I1, r1, q1⟩
  obtain ⟨a, xs, ex, hq, q⟩ := q1
  subst ex
  obtain ⟨u, rfl, ru⟩ := vals1 r1
  cases (show u = Value.ref a from ru)
  obtain ⟨its, rv, p', hz⟩ := I1.tuple hq
  have al : a < s1.heap.objs.size := p'.lt
  refine enum_begins1 (begins_tuple a its.toArray) (show s1.heap.IsTuple a its.toArray from p') ?_
  intro h' he hit hsz hk
  refine wpAny_pyIter_enum he ?_
  have I2 : Inv X pins σ H1 { s1 with heap := h' } := I1.kept (t' := s1.toks) hk
  refine ⟨s1.heap.objs.size + 1, [s1.heap.objs.size + 1, s1.heap.objs.size], _, _, H1, rfl, I2,
    turn_enumT a (s1.heap.objs.size + 1) s1.heap.objs.size (Nat.ne_of_lt al) (Nat.ne_of_lt (Nat.lt_succ_of_lt al)), ⟨⟨.none, he⟩, ⟨_, hit, rfl, rfl⟩, Nat.succ_ne_self _⟩, fun b hb => ?_, q⟩
  have two : b = s1.heap.objs.size + 1 ∨ b = s1.heap.objs.size := by simpa using hb
  have le : s1.heap.objs.size ≤ b := by
    rcases two with z | z
    · rw [z]
      exact Nat.le_add_right _ _
    · rw [z]
      exact Nat.le_refl _
  exact I1.fpOk le (I1.hok.fresh le)
theorem walk_enumT {K : PySem.W.Frag} {a : Addr} {xs : List V} : Walk (Itet K a) xs.length (fun H => SqT K H a xs) (YPair (fun i => some (.int (i : Nat))) (fun i => xs[i]?)) := by
  refine ⟨fun i H hi g => ⟨xs, xs[i], g, by simp [hi]⟩, fun H g => ⟨xs, g, Nat.le_refl _⟩, ?_⟩
  intro i H v H' _ g y
  obtain ⟨T, x, h1, h2, h3, h4⟩ := y
  exact ⟨T, _, x, h1, h2, h3, rfl, h4 xs g⟩
end GG

set_option maxHeartbeats 4000000
namespace GG
open PySem PySem.Spec PyProof.Rows L2
/-! ### what the program's smallest functions answer -/
/-- the least integer of more than 200 figures -/
def BND : Int := ((10 ^ 200 : Nat) : Int)
def intOk (i : Int) : Bool := decide (-BND < i) && decide (i < BND)
def cntOk (i : Int) : Bool := intOk i && decide (0 ≤ i)
def inOk (lo hi i : Int) : Bool := intOk i && (decide (lo ≤ i) && decide (i ≤ hi))
/-- a value that is no integer by its kind -/
def NoInt (K : PySem.W.Frag) (H : Hp) (v : V) : Prop := (∃ b, v = .bl b) ∨ ∃ t, TyX K H v (.type t) ∧ kitB t "int" = some false
def spInteger (K : PySem.W.Frag) : Sp := fun vs H Q _ => ∃ v, vs = [v] ∧ ((∃ i, v = .int i ∧ Q (.bl (intOk i)) H) ∨ (NoInt K H v ∧ Q (.bl false) H))
def spCount (K : PySem.W.Frag) : Sp := fun vs H Q _ => ∃ v, vs = [v] ∧ ((∃ i, v = .int i ∧ Q (.bl (cntOk i)) H) ∨ (NoInt K H v ∧ Q (.bl false) H))
def spWithin (K : PySem.W.Frag) : Sp := fun vs H Q _ => ∃ v lo hi, vs = [v, .int lo, .int hi] ∧ ((∃ i, v = .int i ∧ Q (.bl (inOk lo hi i)) H) ∨ (NoInt K H v ∧ Q (.bl false) H))
def spLimit : Sp := fun vs H Q _ => vs = [] ∧ Q (.int BND) H
theorem limE : ((10 : Int) ^ (50 : Int).toNat) ^ (4 : Int).toNat = BND := by decide +kernel
theorem BND_bits : BND.natAbs < 2 ^ 700 := by decide +kernel
theorem intOk_iff {i : Int} : intOk i = true ↔ -BND < i ∧ i < BND := by
  unfold intOk
  rw [Bool.and_eq_true, decide_eq_true_eq, decide_eq_true_eq]
theorem intOk_bits {i : Int} (h : intOk i = true) : i.natAbs < 2 ^ 700 := by
  have h2 := intOk_iff.mp h
  have h3 := BND_bits
  generalize (2 : Nat) ^ 700 = M at h3 ⊢
  omega
theorem intOk_small {i : Int} (h0 : -(10 ^ 60) ≤ i) (h1 : i ≤ 10 ^ 60) : intOk i = true := by
  have e : (10 : Int) ^ 60 < BND := by decide +kernel
  exact intOk_iff.mpr ⟨by omega, by omega⟩
/-! ### small words -/
theorem and2 {tb : TE} {σ : L2.St} {H : Hp} {Q : VK} {c d : Bool} (hb : c = true → ∀ Q' : VK, Q' (.bl d) H → tb σ H Q') (q : Q (.bl (c && d)) H) :
    if c = true then tb σ H Q else Q (.bl false) H := by
  cases c with
  | true => exact iteT (hb rfl Q q)
  | false => exact iteF q
theorem iteN {b : Bool} {A B : Prop} (h : b = true) (x : B) : if (!b) = true then A else B := by
  subst h
  exact iteF x
theorem iteTo {b : Bool} {A B : Prop} (h : b = true) (x : A) : if b = true then A else B := by
  subst h
  exact iteT x
theorem iteFo {b : Bool} {A B : Prop} (h : b = false) (x : B) : if b = true then A else B := by
  subst h
  exact iteF x
theorem sameUpd2 {H : Hp} {p : Addr} {o o' : HO} (h : H p = none) : Same H (upd (upd H p o) p o') := by
  rw [upd_upd]
  exact sameUpd h
/-! ### repr, of dicts too -/
/-- data whose repr is told: without dicts, or an empty dict -/
def Rp (K : PySem.W.Frag) (H : Hp) (x : V) (d : PyData) : Prop :=
  (Dp K H x d ∧ d.showable = true ∧ d.hasDict = false ∧ d.depth ≤ 40 ∧ d.shown.length ≤ sizeLine) ∨ ∃ a, x = .ref a ∧ H a = some (.dK []) ∧ d = .dict []
def rReprD (K : PySem.W.Frag) : List V → Hp → VK → Prop := fun xs H Q => ∃ x d, xs = [x] ∧ Rp K H x d ∧ Q (.str d.shown) H
theorem call_reprR {X : Cx} (gd : X.A.guards = some []) (un : X.A.units + 64 < cLine) : CallR X (.builtin "repr") (rReprD X.K) := by
  intro pins s σ H xs us Q I r h
  obtain ⟨x, d, rfl, ⟨hd, ok⟩ | ⟨a, rfl, ha, rfl⟩, q⟩ := h
  · exact call_reprU gd un pins s σ H _ us Q I r ⟨x, d, rfl, hd, ok, q⟩
  · obtain ⟨u, rfl, ru⟩ := vals1 r
    cases (show u = Value.ref a from ru)
    obtain ⟨hz, hS, vs, rk, o, es, ep, h1, h2, h3, h4, h5, h6⟩ : ([] : List (Key × V)).length ≤ sizeLine ∧ (a == sysModules) = false ∧ ∃ vs, KV [] vs ∧ s.heap.DictOf (mixKind X.prog X.w) a vs := I.hok a _ ha
    cases rk
    have e0 : es.toList = [] := by
      cases hl : es.toList with
      | nil => rfl
      | cons b r =>
        rw [hl] at h5
        cases h5
    have rd : Reads s.heap (.ref a) (.dict []) (a :: [] ++ []) := .dict h1 h2.1 h3 (by rw [e0]; exact .nil) (by rw [e0]; exact .nil)
    refine repr_of_reads' rd (by decide) (fun _ z => ?_) gd (by show X.A.units + (PyData.depth (.dict []) + 1) < cLine; have : PyData.depth (.dict []) = 1 := by decide
                                                                omega) (fun _ _ e => e) (fun h' u tk kept => ?_) (by decide)
    · have z' : sysModules = a := by simpa using z
      rw [← z'] at hS
      cases hS
    · exact ⟨.str _, H, I.kept kept, ⟨_, rfl⟩, q⟩
theorem call_reprA {X : Cx} {A : Around} (hA : X.A = A) (gd : A.guards = some []) (un : A.units + 64 < cLine) : CallR X (.builtin "repr") (rReprD X.K) := by
  subst hA
  exact call_reprR gd un
end GG

set_option maxHeartbeats 4000000
namespace GG
open PySem PySem.Spec PyProof.Rows L2
/-- a comprehension over enumerate of a tuple -/
theorem lc_enumT {K : PySem.W.Frag} {a : Addr} {xs : List V} {g : TG} {tt : TT} {te : TE} {vs : List Nat} {σ : L2.St} {H1 : Hp} {D : Addr} {Qd : Hp → Prop} (Pv : Nat → Hp → Prop) (h0 : Pv 0 (upd H1 D (.lst [])))
    (hl : ∀ i H, i ≤ xs.length → Pv i H → SqT K H a xs)
    (hs : ∀ i x H T, xs[i]? = some x → H T = none → Pv i H → g (.ref T) (wipe σ vs) (upd H T (.tup [.int (i : Nat), x])) fun σ2 H2 => wipe σ2 vs = wipe σ vs ∧ tt σ2 H2 fun b H3 =>
      if b = true then te σ2 H3 fun y H4 => ∃ acc, H4 D = some (.lst acc) ∧ acc.length < sizeLine ∧ Pv (i + 1) (upd H4 D (.lst (acc ++ [y]))) else Pv (i + 1) H3) (hd : ∀ H, Pv xs.length H → Qd H) :
    ∃ W : Nat → Nat → Hp → Prop, (∃ m, W 0 m (upd H1 D (.lst []))) ∧ ∀ i m H, W i m H →
      ((Itet K a).stop i H ∧ Qd H) ∨ ((Itet K a).go i H ∧ ∃ Nx : Hp → Prop, (∀ H', Nx H' → ∃ m', m' < m ∧ W (i + 1) m' H') ∧ ∀ x H', (Itet K a).yld i H x H' → g x (wipe σ vs) H' fun σ2 H2 => wipe σ2 vs = wipe σ vs ∧ tt σ2 H2 fun b H3 =>
        if b = true then te σ2 H3 fun y H4 => ∃ acc, H4 D = some (.lst acc) ∧ acc.length < sizeLine ∧ Nx (upd H4 D (.lst (acc ++ [y]))) else Nx H3) := by
  refine ⟨fun i m H => m + i = xs.length ∧ Pv i H, ⟨xs.length, rfl, h0⟩, fun i m H w => ?_⟩
  obtain ⟨e, pv⟩ := w
  have sq := hl i H (by omega) pv
  cases m with
  | zero =>
    have z : i = xs.length := by omega
    subst z
    exact .inl ⟨⟨xs, sq, Nat.le_refl _⟩, hd H pv⟩
  | succ m =>
    have lt : i < xs.length := by omega
    refine .inr ⟨⟨xs, xs[i], sq, List.getElem?_eq_getElem lt⟩, Pv (i + 1), fun H' p => ⟨m, Nat.lt_succ_self m, by omega, p⟩, fun x H' y => ?_⟩
    obtain ⟨T, v, rfl, nT, rfl, hv⟩ := y
    exact hs i v H T (hv xs sq) nT pv
/-- a dict comprehension over enumerate of a tuple -/
theorem dc_enumT {K : PySem.W.Frag} {a : Addr} {xs : List V} {g : TG} {tt : TT} {tk tv : TE} {vs : List Nat} {σ : L2.St} {H1 : Hp} {D : Addr} {Qd : Hp → Prop} (Pv : Nat → Hp → Prop) (h0 : Pv 0 (upd H1 D (.dK [])))
    (hl : ∀ i H, i ≤ xs.length → Pv i H → SqT K H a xs)
    (hs : ∀ i x H T, xs[i]? = some x → H T = none → Pv i H → g (.ref T) (wipe σ vs) (upd H T (.tup [.int (i : Nat), x])) fun σ2 H2 => wipe σ2 vs = wipe σ vs ∧ tt σ2 H2 fun b H3 =>
      if b = true then tk σ2 H3 fun y H4 => tv σ2 H4 fun z H5 => ∃ kvs k, y = kV k ∧ H5 D = some (.dK kvs) ∧ kvs.length < sizeLine ∧ Pv (i + 1) (upd H5 D (.dK (putK kvs k z))) else Pv (i + 1) H3) (hd : ∀ H, Pv xs.length H → Qd H) :
    ∃ W : Nat → Nat → Hp → Prop, (∃ m, W 0 m (upd H1 D (.dK []))) ∧ ∀ i m H, W i m H →
      ((Itet K a).stop i H ∧ Qd H) ∨ ((Itet K a).go i H ∧ ∃ Nx : Hp → Prop, (∀ H', Nx H' → ∃ m', m' < m ∧ W (i + 1) m' H') ∧ ∀ x H', (Itet K a).yld i H x H' → g x (wipe σ vs) H' fun σ2 H2 => wipe σ2 vs = wipe σ vs ∧ tt σ2 H2 fun b H3 =>
        if b = true then tk σ2 H3 fun y H4 => tv σ2 H4 fun z H5 => ∃ kvs k, y = kV k ∧ H5 D = some (.dK kvs) ∧ kvs.length < sizeLine ∧ Nx (upd H5 D (.dK (putK kvs k z))) else Nx H3) := by
  refine ⟨fun i m H => m + i = xs.length ∧ Pv i H, ⟨xs.length, rfl, h0⟩, fun i m H w => ?_⟩
  obtain ⟨e, pv⟩ := w
  have sq := hl i H (by omega) pv
  cases m with
  | zero =>
    have z : i = xs.length := by omega
    subst z
    exact .inl ⟨⟨xs, sq, Nat.le_refl _⟩, hd H pv⟩
  | succ m =>
    have lt : i < xs.length := by omega
    refine .inr ⟨⟨xs, xs[i], sq, List.getElem?_eq_getElem lt⟩, Pv (i + 1), fun H' p => ⟨m, Nat.lt_succ_self m, by omega, p⟩, fun x H' y => ?_⟩
    obtain ⟨T, v, rfl, nT, rfl, hv⟩ := y
    exact hs i v H T (hv xs sq) nT pv
/-! ### how long a shown int is -/
theorem int_rp {K : PySem.W.Frag} {H : Hp} {i : Int} (h : i.natAbs < 10 ^ 300) : Rp K H (.int i) (.int i) := by
  have l1 : (PyData.shown (.int i)).length ≤ 301 := by
    show (Str.ofString (toString i)).length ≤ 301
    rw [PySem.ofString_length]
    exact int_text_length_le10 (k := 300) (by decide) h
  refine .inl ⟨.int i, ?_, rfl, Nat.zero_le _, ?_⟩
  · exact decide_eq_true (PySem.Flt.log2_lt_of (by decide) (Nat.lt_trans h (by decide +kernel)))
  · exact Nat.le_trans l1 (by rw [sizeLine_eq]; decide)
theorem ints_dp {K : PySem.W.Frag} {H : Hp} : ∀ fs : List Int, DpAll K H (fs.map V.int) (fs.map PyData.int)
  | [] => .nil
  | _ :: r => .cons (.int _) (ints_dp r)
theorem ints_shown : ∀ fs : List Int, (∀ f ∈ fs, f.natAbs < 10 ^ 12) → ((PyData.shownAll (fs.map PyData.int)).map (·.length)).sum ≤ 13 * fs.length
  | [], _ => Nat.zero_le _
  | f :: r, h => by
    have a := PyData.shown_int_le (h f List.mem_cons_self)
    have b := ints_shown r fun g hg => h g (List.mem_cons_of_mem _ hg)
    simp only [List.map_cons, PyData.shownAll, List.sum_cons, List.length_cons]
    omega
theorem ints_showable : ∀ fs : List Int, (∀ f ∈ fs, f.natAbs < 10 ^ 12) → PyData.showableAll (fs.map PyData.int) = true ∧ PyData.hasDictAll (fs.map PyData.int) = false ∧ PyData.depthAll (fs.map PyData.int) = 0 ∧ PyData.canLayAll0 (fs.map PyData.int) = true
  | [], _ => ⟨rfl, rfl, rfl, rfl⟩
  | f :: r, h => by
    obtain ⟨a, b, c, d⟩ := ints_showable r fun g hg => h g (List.mem_cons_of_mem _ hg)
    have e : (PyData.int f).showable = true := decide_eq_true (PySem.Flt.log2_lt_of (by decide) (Nat.lt_trans (h f List.mem_cons_self) (by decide +kernel)))
    refine ⟨?_, ?_, ?_, ?_⟩
    · rw [List.map_cons, PyData.showableAll, e, a]
      rfl
    · rw [List.map_cons, PyData.hasDictAll, b]
      rfl
    · rw [List.map_cons, PyData.depthAll, c]
      rfl
    · rw [List.map_cons, PyData.canLayAll0, d]
      rfl
theorem tup_rp {K : PySem.W.Frag} {H : Hp} {a : Addr} {fs : List Int} (ha : H a = some (.tup (fs.map V.int))) (hl : fs.length ≤ 1000) (h : ∀ f ∈ fs, f.natAbs < 10 ^ 12) :
    Rp K H (.ref a) (.tuple (fs.map PyData.int)) := by
  obtain ⟨s1, s2, s3, _⟩ := ints_showable fs h
  refine .inl ⟨.tup (.of ha) (ints_dp fs), ?_, ?_, ?_, ?_⟩
  · rw [PyData.showable]
    exact s1
  · rw [PyData.hasDict]
    exact s2
  · rw [PyData.depth, s3]
    decide
  · have e := tupleText_len_le (PyData.shownAll (fs.map PyData.int))
    have e2 := ints_shown fs h
    rw [PyData.shownAll_length, List.length_map] at e
    rw [PyData.shown, sizeLine_eq]
    omega
theorem tup_eqv {fs : List Int} (h : ∀ f ∈ fs, f.natAbs < 10 ^ 12) : SeqAt.shaped (.tuple (fs.map PyData.int)) = true ∧ PyData.eqv (.tuple (fs.map PyData.int)) (.tuple (fs.map PyData.int)) = true := by
  obtain ⟨_, _, s3, s4⟩ := ints_showable fs h
  have c : (PyData.tuple (fs.map PyData.int)).canLay0 = true := by
    rw [PyData.canLay0]
    exact s4
  refine ⟨?_, SeqAt.eqv_refl _ c⟩
  unfold SeqAt.shaped
  rw [c, PyData.depth, s3]
  rfl
theorem passN {X : Cx} : Passes (L2.CX X.prog X.w) X C8.E0 := passes_call L2.takes0 fun _ _ _ _ h => h
theorem call_lenK {X : Cx} {K : PySem.W.Frag} (h : X.K = K) : CallR X (.builtin "len") (fun xs H Q => ∃ p ys, xs = [V.ref p] ∧ (SqL K H p ys ∨ SqT K H p ys) ∧ Q (V.int ↑ys.length) H) := by
  subst h
  exact call_len_seq
theorem iteV {c : Bool} {x y z : V} {σ : L2.St} {H : Hp} {Q : VK} (e : (if c = true then x else y) = z) (h : Q z H) : if c = true then tC x σ H Q else tC y σ H Q := by
  subst e
  cases c
  · exact h
  · exact h
theorem iteVar {c : Bool} {n : Nat} {x y z : V} {σ : L2.St} {H : Hp} {Q : VK} (hs : σ[n]? = some (some x)) (e : (if c = true then x else y) = z) (h : Q z H) : if c = true then tVar n σ H Q else tC y σ H Q := by
  subst e
  cases c
  · exact h
  · exact ⟨_, hs, h⟩
theorem neI {a b : Int} (h : a = b) : (!decide (V.int a = V.int b)) = false := by
  subst h
  rw [decide_eq_true rfl]
  rfl
theorem neS {a b : Str} (h : a = b) : (!decide (V.str a = V.str b)) = false := by
  subst h
  rw [decide_eq_true rfl]
  rfl
end GG

set_option maxHeartbeats 4000000
/-! ### sorted(t), t a tuple of ints -/
namespace PySem.GX
open PySem PySem.Spec PyProof.Rows
section
variable {prog : Program} {w : World} {A : Around} {E : Value → Shared → Prop} {s : Shared}
theorem collect_tup {tp : Addr} {zs : List Value} {Q : List Value → Shared → Prop} (hl : s.heap.IsTuple tp zs.toArray) (few : zs.length ≤ sizeLine)
    (h : Q zs { s with heap := (s.heap.push (seqObj "list" #[] 0)).update s.heap.objs.size (Obj.mapSeq (· ++ zs.toArray)) }) : wpAny (model prog w) A (collect (.ref tp)) Q E s := by
  obtain ⟨o, at_, ct, n, dt⟩ := hl
  unfold collect
  apply wpAny_bind
  apply wpAny_runValue
  apply codeAny_builtin entry_proto_collect'
  show wpAny _ _ (do again (.builtin "list.__iadd__" ⟨[← newList [], .ref tp], []⟩)) _ _ s
  apply wpAny_bind
  refine wpAny_newList ?_
  apply wpAny_pure
  refine ⟨Code.quiet_builtin _ (by decide +kernel), codeAny_builtin entry_list_iadd' ?_⟩
  show wpAny _ _ (Builtin.List.listExtendWith (.ref s.heap.objs.size) (.ref tp) (.ref s.heap.objs.size)) _ _ { s with heap := s.heap.push (seqObj "list" #[] 0) }
  unfold Builtin.List.listExtendWith
  have there : (s.heap.push (seqObj "list" #[] 0)).get? tp = some o := Heap.get?_push_of_some _ at_
  have mine : (s.heap.push (seqObj "list" #[] 0)).get? s.heap.objs.size = some (seqObj "list" #[] 0) := Heap.get?_push_size _ rfl
  apply wpAny_bind
  refine wpAny_typeOf (T := "tuple") ⟨o, there, ct⟩ ?_
  rw [if_pos (by simp)]
  apply wpAny_bind
  refine listItems_at there dt ?_
  apply wpAny_bind
  refine listItems_at (xs := #[]) (n := 0) mine rfl ?_
  rw [if_neg (by simp)]
  apply wpAny_bind
  refine listUpdate_at (xs := #[]) (n := 0) mine rfl ?_ (Nat.zero_le _) ?_
  · apply wpAny_pure
    show wpAny (model prog w) A (do
        let o ← load s.heap.objs.size
        match o.data with
        | .seq xs _ => pure xs.toList
        | _ => unsupported "internal:collect") Q E { s with heap := (s.heap.push (seqObj "list" #[] 0)).update s.heap.objs.size (Obj.mapSeq (· ++ zs.toArray)) }
    apply wpAny_bind
    refine wpAny_load (get?_update_seq mine _) ?_
    show wpAny _ _ (pure ((#[] : Array Value) ++ zs.toArray).toList) Q E _
    have e : ((#[] : Array Value) ++ zs.toArray).toList = zs := by simp
    rw [e]
    exact wpAny_pure h
  · show (#[] ++ zs.toArray).size ≤ sizeLine + 1
    simp only [Array.size_append, List.size_toArray, List.length_nil]
    omega
theorem sorted_tup {tp : Addr} {zs : List Value} {ltv : Value → Value → Bool} {Q : Value → Shared → Prop} (O : SrtO.Swo ltv) (hl : s.heap.IsTuple tp zs.toArray) (few : zs.length ≤ sizeLine)
    (hS : 2 ≤ zs.length → ∀ (h₁ : Heap) (a : Addr), h₁.get? a = some (seqObj "list" zs.toArray 0) → (∀ b o, s.heap.get? b = some o → b ≠ a ∧ h₁.get? b = some o) → SrtO.SortableO prog w A.in1.in1 { s with heap := h₁ } a zs ltv)
    (h : ∀ out : List Value, SrtO.Srtd ltv out → SrtO.Stb ltv out zs → Q (.ref (s.heap.objs.size + 1)) { s with heap := sortedAll s.heap zs out.toArray }) :
    wpAny (model prog w) A (call (.builtin "sorted") [.ref tp]) Q E s := by
  apply Calls.call_function_entry kind_sorted plain_sorted entry_sorted (args_sorted1 _)
  unfold Builtin.«sorted»
  refine wpAny_bind (m := checkCount "sorted" 1 1 _) (wpAny_pure ?_)
  apply wpAny_bind
  refine collect_tup hl few ?_
  apply wpAny_bind
  refine wpAny_newList ?_ few
  have size : ((s.heap.push (seqObj "list" #[] 0)).update s.heap.objs.size (Obj.mapSeq (· ++ zs.toArray))).objs.size = s.heap.objs.size + 1 := by
    rw [Heap.size_update, size_push']
  have made : (((s.heap.push (seqObj "list" #[] 0)).update s.heap.objs.size (Obj.mapSeq (· ++ zs.toArray))).push (seqObj "list" zs.toArray 0)).get? (s.heap.objs.size + 1) = some (seqObj "list" zs.toArray 0) := by
    rw [← size]
    exact Heap.get?_push_size _ rfl
  have old : ∀ b o, s.heap.get? b = some o → b ≠ s.heap.objs.size + 1 ∧ (((s.heap.push (seqObj "list" #[] 0)).update s.heap.objs.size (Obj.mapSeq (· ++ zs.toArray))).push (seqObj "list" zs.toArray 0)).get? b = some o := by
    intro b o q
    have lt : b < s.heap.objs.size := Heap.lt_size q
    refine ⟨Nat.ne_of_lt (Nat.lt_succ_of_lt lt), Heap.get?_push_of_some _ ?_⟩
    rw [Heap.get?_update_ne _ _ _ _ (Nat.ne_of_lt lt)]
    exact Heap.get?_push_of_some _ q
  show wpAny _ _ _ _ _ { s with heap := ((s.heap.push (seqObj "list" #[] 0)).update s.heap.objs.size (Obj.mapSeq (· ++ zs.toArray))).push (seqObj "list" zs.toArray 0) }
  rw [size]
  apply wpAny_bind
  apply wpAny_holding
  refine wpAny_call_entry slot_list_sort ⟨_, made, rfl⟩ entry_list_sort (SrtO.list_sort_ord O made few (fun h2 => hS h2 _ _ made old) fun out hs hb => ⟨_, rfl, ?_⟩) (args_list_sort _)
  exact wpAny_pure ⟨_, rfl, h out hs hb⟩
end
end PySem.GX
namespace GG
open PySem PySem.Spec PyProof.Rows L2
def rSortT (K : PySem.W.Frag) : List V → Hp → VK → Prop := fun vs H Q => ∃ (a : Addr) (ns : List Int), vs = [.ref a] ∧ SqT K H a (ns.map V.int) ∧
  ∀ (ns' : List Int) (p : Addr), ns'.Perm ns → ns'.Pairwise (· ≤ ·) → H p = none → Q (.ref p) (upd H p (.lst (ns'.map V.int)))
theorem cr_sortT {X : Cx} : CallR X (.builtin "sorted") (rSortT X.K) := by
  intro pins s σ H vs us Q I r ⟨a, ns, ev, hs, q⟩
  subst ev
  obtain ⟨u, rfl, ru⟩ := vals1 r
  cases (show u = Value.ref a from ru)
  obtain ⟨its, rv, hl, hz⟩ := I.tuple hs
  have hI := rv.ints
  refine PySem.GX.sorted_tup SrtO.swo_int hl (by rw [← rv.length]; exact hz) (fun h2 h₁ a' _ _ => SrtO.ints_sortable hI h2) fun out h1 h2 => ?_
  obtain ⟨k1, k2, k3⟩ := SrtO.ints_out hI h1 h2
  obtain ⟨ep, at_⟩ := PyProof.Rows.sortedAll_at s.heap its out.toArray
  have few : ((out.map SrtO.iv).map V.int).length ≤ sizeLine := by
    rw [List.length_map, k2.length_eq]
    rw [List.length_map] at hz
    exact hz
  exact ⟨.ref _, upd H (s.heap.objs.size + 1) (.lst ((out.map SrtO.iv).map V.int)),
    I.laid (t' := s.toks) (fun _ _ => PyProof.Rows.sortedAll_old) (Nat.le_succ _) ⟨few, out, ep, vals_of_ints k1, at_⟩, rfl, q _ _ k2 k3 (I.hok.fresh (Nat.le_succ _))⟩
end GG

set_option maxHeartbeats 8000000
namespace GG
open PySem PySem.Spec PyProof.Rows L2 RZ
theorem tyOf_same {K : PySem.W.Frag} {H H' : Hp} {v : V} {t : Value} (s : Same H H') (h : TyOf K H v t) : TyOf K H' v t := by
  cases h with
  | non => exact .non
  | bl x => exact .bl x
  | int i => exact .int i
  | str x => exact .str x
  | flt x => exact .flt x
  | lst e => exact .lst (s _ _ e)
  | frz e => exact .frz (s _ _ e)
  | tup e => exact .tup (s _ _ e)
  | dK e => exact .dK (s _ _ e)
  | dT e => exact .dT (s _ _ e)
  | ins e cl ha hn htk hm => exact .ins (s _ _ e) cl ha hn htk hm
theorem tyX_same {K : PySem.W.Frag} {H H' : Hp} {v : V} {t : Value} (s : Same H H') (h : TyX K H v t) : TyX K H' v t := by
  cases h with
  | base h => exact .base (tyOf_same s h)
  | byt b => exact .byt b
  | set e => exact .set (s _ _ e)
  | kList e c => exact .kList e c
  | kTuple e c => exact .kTuple e c
  | kDict e c => exact .kDict e c
  | fTuple e => exact .fTuple (s _ _ e)
  | fDict e => exact .fDict (s _ _ e)
theorem noInt_same {K : PySem.W.Frag} {H H' : Hp} {v : V} (s : Same H H') (h : NoInt K H v) : NoInt K H' v := by
  rcases h with ⟨b, rfl⟩ | ⟨t, ty, kb⟩
  · exact .inl ⟨b, rfl⟩
  · exact .inr ⟨t, tyX_same s ty, kb⟩
theorem sqT_same {K : PySem.W.Frag} {H H' : Hp} {a : Addr} {xs : List V} (s : Same H H') (h : SqT K H a xs) : SqT K H' a xs := by
  rcases h with (h | ⟨o, h⟩) | h
  · exact .inl (.inl (s _ _ h))
  · exact .inl (.inr ⟨o, s _ _ h⟩)
  · exact .inr h
theorem walk_zipT {K : PySem.W.Frag} {a b : Addr} {xs ys : List V} {n : Nat} (hn : n = min xs.length ys.length) : Walk (ItzT K a b) n (fun H => SqT K H a xs ∧ SqT K H b ys) (YPair (fun i => xs[i]?) (fun i => ys[i]?)) := by
  refine ⟨fun i H hi g => ?_, fun H g => ⟨xs, ys, g.1, g.2, by omega⟩, fun i H v H' _ g y => ?_⟩
  · have l1 : i < xs.length := by omega
    have l2 : i < ys.length := by omega
    exact ⟨xs, ys, xs[i], ys[i], g.1, g.2, List.getElem?_eq_getElem l1, List.getElem?_eq_getElem l2⟩
  · obtain ⟨T, x, z, e1, e2, e3, e4, e5⟩ := y
    exact ⟨T, x, z, e1, e2, e3, e4 xs g.1, e5 ys g.2⟩
/-- what is_within answers of an item: 0 to many - 1 -/
def inM (many : Int) : V → Bool
  | .int n => inOk 0 (many - 1) n
  | _ => false
theorem inM_no {K : PySem.W.Frag} {H : Hp} {v : V} {many : Int} (h : NoInt K H v) : inM many v = false := by
  rcases h with ⟨b, rfl⟩ | ⟨t, ty, kb⟩
  · rfl
  · cases v with
    | int n =>
      cases ty with
      | base ty =>
        cases ty
        exact absurd kb (by decide +kernel)
    | _ => rfl
/-- ascending, told of ints -/
def ascI (ns : List Int) : Bool := (List.range (ns.length - 1)).all fun i => decide (ns.getD i 0 < ns.getD (i + 1) 0)
end GG
namespace GG
open PySem PySem.Spec PyProof.Rows L2
def inI : V → Bool
  | .int n => intOk n
  | _ => false
theorem inI_no {K : PySem.W.Frag} {H : Hp} {v : V} (h : NoInt K H v) : inI v = false := by
  rcases h with ⟨b, rfl⟩ | ⟨t, ty, kb⟩
  · rfl
  · cases v with
    | int n =>
      cases ty with
      | base ty =>
        cases ty
        exact absurd kb (by decide +kernel)
    | _ => rfl
theorem ints_flat : ∀ fs : List Int, PyData.depthAll (fs.map PyData.int) = 0 ∧ PyData.canLayAll0 (fs.map PyData.int) = true
  | [] => ⟨rfl, rfl⟩
  | f :: r => by
    obtain ⟨a, b⟩ := ints_flat r
    refine ⟨?_, ?_⟩
    · rw [List.map_cons, PyData.depthAll, a]
      rfl
    · rw [List.map_cons, PyData.canLayAll0, b]
      rfl
theorem list_shaped (fs : List Int) : SeqAt.shaped (.list (fs.map PyData.int)) = true := by
  obtain ⟨a, b⟩ := ints_flat fs
  unfold SeqAt.shaped
  rw [PyData.canLay0, b, PyData.depth, a]
  rfl
theorem ints_eqv : ∀ fs gs : List Int, PyData.eqvAll (fs.map PyData.int) (gs.map PyData.int) = decide (fs = gs)
  | [], [] => rfl
  | [], _ :: _ => rfl
  | _ :: _, [] => rfl
  | f :: fs, g :: gs => by
    rw [List.map_cons, List.map_cons, PyData.eqvAll, ints_eqv fs gs, PyData.eqv]
    by_cases h : f = g
    · by_cases h2 : fs = gs
      · simp [h, h2]
      · simp [h, h2]
    · simp [h]
theorem dpAll_ints {K : PySem.W.Frag} {H : Hp} : ∀ fs : List Int, DpAll K H (fs.map V.int) (fs.map PyData.int)
  | [] => .nil
  | _ :: r => .cons (.int _) (dpAll_ints r)
/-- the places of a web of so many -/
def places (many : Int) : List Int := (List.range many.toNat).map fun (i : Nat) => (i : Int)
theorem places_sorted (many : Int) : (places many).Pairwise (· ≤ ·) := by
  unfold places
  rw [List.pairwise_map]
  exact List.Pairwise.imp (fun h => by omega) List.pairwise_lt_range
end GG

set_option maxHeartbeats 4000000
namespace GG
open PySem PySem.Spec PyProof.Rows L2
/-! ### repr of what was made in the law itself: dicts of one int to one int may lie within -/
mutual
inductive Rn (H : Hp) : V → PyData → Prop
  | non : Rn H .non .none
  | bl (b : Bool) : Rn H (.bl b) (.bool b)
  | int (i : Int) : Rn H (.int i) (.int i)
  | str (x : Str) : Rn H (.str x) (.str x)
  | lst {a : Addr} {xs : List V} {ds : List PyData} : H a = some (.lst xs) → RnAll H xs ds → Rn H (.ref a) (.list ds)
  | tup {a : Addr} {xs : List V} {ds : List PyData} : H a = some (.tup xs) → RnAll H xs ds → Rn H (.ref a) (.tuple ds)
  | dct0 {a : Addr} : H a = some (.dK []) → Rn H (.ref a) (.dict [])
  | dct {a : Addr} {i j : Int} : H a = some (.dK [(.inl i, .int j)]) → Rn H (.ref a) (.dict [(.int i, .int j)])
inductive RnAll (H : Hp) : List V → List PyData → Prop
  | nil : RnAll H [] []
  | cons {v : V} {vs : List V} {d : PyData} {ds : List PyData} : Rn H v d → RnAll H vs ds → RnAll H (v :: vs) (d :: ds)
end
section
variable {X : Cx} {pins : List (Addr × Obj)} {σ : L2.St} {H : Hp} {s : Shared}
/-- the table of modules is none of the tracked ones -/
theorem not_mods (I : Inv X pins σ H s) (sm : ∃ mm, X.base.Ns sysModules mm) {a : Addr} {o : HO} (h : H a = some o) : a ≠ sysModules := by
  intro z
  subst z
  obtain ⟨mm, ob, es, ep, e, _⟩ := sm
  rw [(I.bs _ _ e).2] at h
  cases h
mutual
theorem Rn.reads (I : Inv X pins σ H s) (sm : ∃ mm, X.base.Ns sysModules mm) : ∀ (d : PyData) (v : V) (u : Value), Rn H v d → RelV v u → ∃ as, Reads s.heap u d as ∧ sysModules ∉ as
  | .none, _, _, h, r => by
    cases h
    cases r
    exact ⟨_, .none, List.not_mem_nil⟩
  | .bool b, _, _, h, r => by
    cases h
    cases r
    exact ⟨_, .bool b, List.not_mem_nil⟩
  | .int i, _, _, h, r => by
    cases h
    obtain ⟨t, rfl⟩ := r
    exact ⟨_, .int i t, List.not_mem_nil⟩
  | .str x, _, _, h, r => by
    cases h
    obtain ⟨t, rfl⟩ := r
    exact ⟨_, .str x t, List.not_mem_nil⟩
  | .list ds, _, _, h, r => by
    cases h with
    | @lst a xs _ ha hd =>
      cases r
      obtain ⟨_, its, n, rv, e⟩ := (show ObjOk X.prog X.w H s.heap a (.lst xs) from I.hok a _ ha)
      obtain ⟨as, ra, na⟩ := Rn.readsAll I sm ds _ its hd rv
      refine ⟨_, .list e rfl rfl ra, fun z => ?_⟩
      rcases List.mem_cons.mp z with z | z
      · exact not_mods I sm ha z.symm
      · exact na z
  | .tuple ds, _, _, h, r => by
    cases h with
    | @tup a xs _ ha hd =>
      cases r
      obtain ⟨_, its, rv, o, e, hc, n, hdt⟩ := (show ObjOk X.prog X.w H s.heap a (.tup xs) from I.hok a _ ha)
      obtain ⟨as, ra, na⟩ := Rn.readsAll I sm ds _ its hd rv
      exact ⟨_, .tuple e hc hdt ra, na⟩
  | .dict kvs, _, _, h, r => by
    cases h with
    | @dct0 a ha =>
      cases r
      obtain ⟨_, _, vs, rk, o, es, ep, h1, h2, h3, _, h5, _⟩ := (show ObjOk X.prog X.w H s.heap a (.dK []) from I.hok a _ ha)
      cases rk
      cases hl : es.toList with
      | nil =>
        refine ⟨a :: ([] ++ []), .dict h1 h2.1 h3 ?_ ?_, fun z => ?_⟩
        · rw [hl]
          exact .nil
        · rw [hl]
          exact .nil
        · have z' : sysModules = a := by simpa using z
          exact not_mods I sm ha z'.symm
      | cons en r =>
        rw [hl] at h5
        cases h5
    | @dct a i j ha =>
      cases r
      obtain ⟨_, _, vs, rk, o, es, ep, h1, h2, h3, _, h5, _⟩ := (show ObjOk X.prog X.w H s.heap a (.dK [(.inl i, .int j)]) from I.hok a _ ha)
      cases rk with
      | cons r1 r2 =>
        cases r2
        obtain ⟨ek, ev⟩ := r1
        cases hl : es.toList with
        | nil =>
          rw [hl] at h5
          cases h5
        | cons en r =>
          rw [hl] at h5
          cases h5 with
          | cons p1 p2 p3 =>
            cases p3
            rw [← ek] at p1
            obtain ⟨i', t, e1, e2⟩ | ⟨x, t, e1, e2⟩ := keyIs_shape (k := Sum.inl i) (v := en.key) p1
            · cases e1
              obtain ⟨t2, e3⟩ := ev
              refine ⟨a :: ([] ++ []) ++ ([] ++ []), .dict h1 h2.1 h3 ?_ ?_, fun z => ?_⟩
              · rw [hl]
                show ReadsAll s.heap [en.key] [.int i] ([] ++ [])
                rw [e2]
                exact .cons (.int i t) .nil
              · rw [hl]
                show ReadsAll s.heap [en.val] [.int j] ([] ++ [])
                rw [p2, e3]
                exact .cons (.int j t2) .nil
              · have z' : sysModules = a := by simpa using z
                exact not_mods I sm ha z'.symm
            · cases e1
theorem Rn.readsAll (I : Inv X pins σ H s) (sm : ∃ mm, X.base.Ns sysModules mm) : ∀ (ds : List PyData) (vs : List V) (us : List Value), RnAll H vs ds → Vals vs us → ∃ as, ReadsAll s.heap us ds as ∧ sysModules ∉ as
  | [], _, _, h, r => by
    cases h
    cases r
    exact ⟨_, .nil, List.not_mem_nil⟩
  | d :: ds, _, _, h, r => by
    cases h with
    | cons h1 h2 =>
      cases r with
      | cons r1 r2 =>
        obtain ⟨as, q1, n1⟩ := Rn.reads I sm d _ _ h1 r1
        obtain ⟨bs, q2, n2⟩ := Rn.readsAll I sm ds _ _ h2 r2
        exact ⟨_, .cons q1 q2, fun z => (List.mem_append.mp z).elim n1 n2⟩
end
end
def rReprN : List V → Hp → VK → Prop := fun xs H Q => ∃ x d, xs = [x] ∧ Rn H x d ∧ d.showable = true ∧ d.depth ≤ 40 ∧ d.shown.length ≤ sizeLine ∧ Q (.str d.shown) H
/-- all but what call_reprU asks: where the value is a list, a tuple or a dict; scalars go by call_reprU -/
theorem call_reprN {X : Cx} (gd : X.A.guards = some []) (un : X.A.units + 64 < cLine) (sm : ∃ mm, X.base.Ns sysModules mm) : CallR X (.builtin "repr") rReprN := by
  intro pins s σ H xs us Q I r h
  obtain ⟨x, d, rfl, hd, sh, dp, sz, q⟩ := h
  have flat : Dp X.K H x d → d.hasDict = false → wpAny (model X.prog X.w) X.A (call (.builtin "repr") us) (EP X pins σ Q) X.xe s := fun h1 h2 =>
    call_reprU gd un pins s σ H _ us Q I r ⟨x, d, rfl, h1, ⟨sh, h2, dp, sz⟩, q⟩
  have deep : ∀ a, x = .ref a → wpAny (model X.prog X.w) X.A (call (.builtin "repr") us) (EP X pins σ Q) X.xe s := by
    rintro a rfl
    obtain ⟨u, rfl, ru⟩ := vals1 r
    cases (show u = Value.ref a from ru)
    obtain ⟨as, rd, na⟩ := Rn.reads I sm d _ _ hd rfl
    refine repr_of_reads' rd sh (fun _ => na) gd (by omega) (fun _ _ e => e) (fun h' u tk kept => ?_) sz
    exact ⟨.str _, H, I.kept kept, ⟨_, rfl⟩, q⟩
  cases hd with
  | non => exact flat .non rfl
  | bl b => exact flat (.bl b) rfl
  | int i => exact flat (.int i) rfl
  | str z => exact flat (.str z) rfl
  | lst h1 h2 => exact deep _ rfl
  | tup h1 h2 => exact deep _ rfl
  | dct0 h1 => exact deep _ rfl
  | dct h1 => exact deep _ rfl
end GG

set_option maxHeartbeats 4000000
namespace GG
open PySem PySem.Spec PyProof.Rows L2
/-! ### a tuple times 1 is itself -/
theorem tuple_mul1 (l : Addr) (items : Array Value) (n : Nat) (dd : Option Addr) (sl : Array (Option Value)) (u : Tok) :
    Meets (Builtin.«tuple.__mul__» ⟨[.ref l, .int 1 u], []⟩) (fun _ R s => s.heap.get? l = some { cls := .type "tuple", dict := dd, data := .seq items n, slots := sl } ∧
      R (.ok (.ret (Value.ref l))) s) :=
  .of_wp fun prog w A R s h => by
    obtain ⟨hp, g, d, tk, os⟩ := s
    obtain ⟨hl, h⟩ := h
    have f1 := AutoSeq1.idx_int
    wp_walk using wpAny_loadPart' hl
    exact ⟨_, rfl, h⟩
def rRepN (K : PySem.W.Frag) : R2 := fun x y H Q => ∃ l k xs, x = .ref l ∧ y = .int k ∧ SqT K H l xs ∧ xs ≠ [] ∧ 1 ≤ k ∧ k ≤ 1000 ∧ xs.length ≤ 1000 ∧ (k = 1 → Q (.ref l) H) ∧
  (k ≠ 1 → ∀ p, H p = none → Q (.ref p) (upd H p (.tup (List.replicate k.toNat xs).flatten)))
theorem op_repN {X : Cx} : OpR X (binaryOp .Mult) (rRepN X.K) := by
  intro pins s σ H x y v u Q I rx ry ⟨l, k, xs, ex, ey, hT, hne, k1, k2, few, q1, q2⟩
  by_cases e : k = 1
  · subst e
    subst ex ey
    cases rx
    obtain ⟨t, rfl⟩ := ry
    obtain ⟨vs, rv, ⟨⟨c, od, dt, so⟩, at_, hc, tk, hdt⟩, _⟩ := I.tuple hT
    simp only at hc hdt
    subst hc hdt
    refine wpAny_binaryOp_repeat_ref (T := "tuple") (U := "int") (by decide) ⟨_, at_, rfl⟩ (fun s' => typeIs_int s' 1 t) noFill_tuple_mul F.fills_int_mul F.slot_int_rmul repeat_tuple F.slot_int_index.lookup
      (call_meets F.slot_int_rmul (typeIs_int s 1 t) F.entry_int_rmul (F.args_int_rmul_2 _ _) (int_rmul_tuple 1 t l vs.toArray tk od so)
        ⟨at_, rfl, ⟨_, at_, rfl⟩, call_meets F.slot_tuple_mul ⟨_, at_, rfl⟩ F.entry_tuple_mul (F.args_tuple_mul_2 _ _)
          (tuple_mul1 l vs.toArray tk od so t) ⟨at_, ?_⟩⟩)
    exact ⟨.ref l, _, I, rfl, q1 rfl⟩
  · exact op_repT pins s σ H x y v u Q I rx ry ⟨l, k, xs, ex, ey, hT, hne, by omega, k2, few, q2 e⟩
end GG
namespace GG
open PySem PySem.Spec PyProof.Rows L2
/-! ### t + u, any tuples -/
def rCatN (K : PySem.W.Frag) : R2 := fun x y H Q => ∃ a b xs ys, x = .ref a ∧ y = .ref b ∧ SqT K H a xs ∧ SqT K H b ys ∧ xs.length + ys.length ≤ sizeLine ∧ ∀ r H', Same H H' → SqT K H' r (xs ++ ys) → Q (.ref r) H'
theorem op_catN {X : Cx} : OpR X (binaryOp .Add) (rCatN X.K) := by
  intro pins s σ H x y v u Q I rx ry h
  obtain ⟨a, b, xs, ys, rfl, rfl, ha, hb, hz, q⟩ := h
  by_cases hx : xs = []
  · subst hx
    cases rx
    cases ry
    obtain ⟨its, r1, p1, _⟩ := I.tuple ha
    obtain ⟨its2, r2, p2, _⟩ := I.tuple hb
    obtain ⟨⟨cls, dd, data, sl⟩, ho, hc, n, hd⟩ := id p1
    obtain ⟨⟨cls2, dd2, data2, sl2⟩, ho2, hc2, n2, hd2⟩ := id p2
    simp only at hc hd hc2 hd2
    subst hc hd hc2 hd2
    cases r1
    exact concat_meets ⟨_, ho, rfl⟩ ⟨_, ho2, rfl⟩ noFill_tuple_add seq_tuple_add PySem.F.slot_tuple_add PySem.F.entry_tuple_add (PySem.F.args_tuple_add_2 _ _)
      (tuple_addW0 a b _ its2.toArray n n2 dd dd2 sl sl2 (by rfl)) ⟨ho, ho2, ⟨.ref b, H, I, rfl, q b H (.refl H) hb⟩⟩
  · exact op_catT pins s σ H _ _ v u Q I rx ry ⟨a, b, xs, ys, rfl, rfl, ha, hb, hx, hz, fun e => q a H (.refl H) (by subst e; rw [List.append_nil]; exact ha), fun e p np => q p _ (fun c o z => by rw [upd_ne (ne_of_none z np)]; exact z) (.of upd_same)⟩
end GG
namespace GG
open PySem PySem.Spec PyProof.Rows L2
/-! ### t[a:b], any tuple -/
def rSlN (K : PySem.W.Frag) : V → Option Int → Option Int → Hp → VK → Prop := fun x lo hi H Q => ∃ a xs, x = .ref a ∧ SqT K H a xs ∧ ∀ r H', Same H H' → SqT K H' r (cutV xs lo hi) → Q (.ref r) H'
theorem sl_tupN {X : Cx} : SlR X (rSlN X.K) := by
  intro pins s σ H x v vl vu lo hi sl Q I rx hs pl pu h
  obtain ⟨a, xs, ex, hx, q⟩ := h
  refine sl_tupA pins s σ H x v vl vu lo hi sl Q I rx hs pl pu ⟨a, xs, ex, hx, fun w => q a H (.refl H) ?_, fun w p np => q p _ (fun c o z => by rw [upd_ne (ne_of_none z np)]; exact z) (.of upd_same)⟩
  have e : cutV xs lo hi = xs := by
    unfold cutV
    rw [w.1, w.2]
    simp
  rw [e]
  exact hx
theorem cutV_from1 {xs : List V} : cutV xs (some 1) none = xs.drop 1 := by
  unfold cutV
  show (xs.drop (min (1 : Int).toNat xs.length)).take (xs.length - min (1 : Int).toNat xs.length) = _
  have e : (1 : Int).toNat = 1 := rfl
  rw [e]
  cases xs with
  | nil => rfl
  | cons x r =>
    have : min 1 (x :: r).length = 1 := by
      rw [List.length_cons]
      omega
    rw [this, List.take_of_length_le (by rw [List.length_drop]; exact Nat.le_refl _)]
end GG

set_option maxHeartbeats 4000000
/-! ### own classes with __contains__, __getitem__, __len__ -/
namespace GG
open PySem PySem.Spec PyProof.Rows L2
section
variable {X : Cx} {CX : CXT} {k : Nat} {f C a dx : Addr} {fs : List (Str × V)} {fd : FuncData} {ps : List Str} {sp : Sp} {E : XK} {pins : List (Addr × Obj)} {σ : L2.St} {H : Hp} {s : Shared}
theorem ins_inst (I : Inv X pins σ H s) (e : H a = some (.ins C dx fs)) : ∃ ox od, PySem.W.InstAt s.heap a ox C od := by
  obtain ⟨_, _, _, at_, mA, ns1, _, _⟩ := (show ObjOk X.prog X.w H s.heap a (.ins C dx fs) from I.hok a _ e)
  obtain ⟨od, ho, _⟩ := lookIn_ns ns1
  exact ⟨_, some od, at_, rfl, rfl, ho⟩
theorem inv_fr (I : Inv X pins σ H s) : ∃ m, Fr X.base X.env.locals s.heap m := by
  obtain ⟨m, ns, _⟩ := I.loc
  exact ⟨m, ns, fun b o e => (I.bs b o e).1, Nat.le_trans I.ok.bsz I.ok.above⟩
/-- the method's call, in the same place or one in -/
theorem run_in {us : List Value} {vs : List V} {Q : VK} {R : Value → Shared → Prop} (A : Around) (hA : A = X.A ∨ A = X.A.in1) (F : FnOk X.prog X.w X.K X.mg X.base CX k f fd ps sp) (hr : Room (k + 1) X.A) (bd : L2.Binds X.K fd ps []) (pass : Passes CX X E)
    (I : Inv X pins σ H s) (r : Vals vs us) (h : sp vs H Q E) (hQ : ∀ v H' u s', Inv X pins σ H' s' → RelV v u → Q v H' → R u s') :
    wpAny (model X.prog X.w) A (call (.ref f) us) R X.xe s := by
  have ln : (us ++ []).length = ps.length := by
    rw [List.append_nil, ← r.length]
    exact F.len _ _ _ _ h
  have bu := bd s us I.kIn ln
  rw [List.append_nil] at bu
  have en : Env0 X.prog X.w X.K X.mg X.base A X.stack s H ∧ Room k A := by
    rcases hA with rfl | rfl
    · exact ⟨I.env0, hr.mono (Nat.le_succ k)⟩
    · exact ⟨I.env0.in1, hr.in1⟩
  refine wpAny_call (codeAny_mono (F.run A X.stack s H ⟨us, []⟩ us vs Q E en.2 en.1 bu r h) ?_)
  intro res s2 z
  cases res with
  | error e => exact pass pins σ H s e s2 I z
  | ok fl =>
    cases fl with
    | ret u =>
      obtain ⟨v, H', I2, rv, q⟩ := I.after z
      exact hQ v H' u s2 I2 rv q
    | next => exact z.elim
    | brk => exact z.elim
    | cont => exact z.elim
/-- e in o, e not in o -/
def rInO (C : Addr) (sp : Sp) (E : XK) (neg : Bool) : R2 := fun x y H Q => ∃ (a dx : Addr) (fs : List (Str × V)), y = .ref a ∧ H a = some (.ins C dx fs) ∧ sp [.ref a, x] H (fun r H' => ∃ b, r = .bl b ∧ Q (.bl (xor neg b)) H') E
theorem op_inO (m : Meth X.K C "__contains__" f) (F : FnOk X.prog X.w X.K X.mg X.base CX k f fd ps sp) (hr : Room (k + 1) X.A) (bd : L2.Binds X.K fd ps []) (pass : Passes CX X E) : OpR X (compareOp .In) (rInO C sp E false) := by
  intro pins s σ H x y v u Q I rx ry ⟨a, dx, fs, ey, ea, q⟩
  subst ey
  cases (show u = Value.ref a from ry)
  obtain ⟨ox, od, at_⟩ := ins_inst I ea
  obtain ⟨mm, fr⟩ := inv_fr I
  refine PySem.W.in_K fr I.ok.mod.kin at_ m.at_ m.fn (run_in X.A (.inl rfl) F hr bd pass I (vs := [.ref a, x]) (.cons rfl (.cons rx .nil)) q ?_)
  intro r H' u2 s2 I2 rr ⟨b, eb, q2⟩
  subst eb
  cases (show u2 = Value.bool b from rr)
  have e : (xor false b) = b := by cases b <;> rfl
  rw [e] at q2
  exact wpAny_pure ⟨.bl b, H', I2, rfl, q2⟩
theorem op_notInO (m : Meth X.K C "__contains__" f) (F : FnOk X.prog X.w X.K X.mg X.base CX k f fd ps sp) (hr : Room (k + 1) X.A) (bd : L2.Binds X.K fd ps []) (pass : Passes CX X E) : OpR X (compareOp .NotIn) (rInO C sp E true) := by
  intro pins s σ H x y v u Q I rx ry ⟨a, dx, fs, ey, ea, q⟩
  subst ey
  cases (show u = Value.ref a from ry)
  obtain ⟨ox, od, at_⟩ := ins_inst I ea
  obtain ⟨mm, fr⟩ := inv_fr I
  refine PySem.W.notIn_K fr I.ok.mod.kin at_ m.at_ m.fn (run_in X.A (.inl rfl) F hr bd pass I (vs := [.ref a, x]) (.cons rfl (.cons rx .nil)) q ?_)
  intro r H' u2 s2 I2 rr ⟨b, eb, q2⟩
  subst eb
  cases (show u2 = Value.bool b from rr)
  have e : (xor true b) = !b := by cases b <;> rfl
  rw [e] at q2
  exact wpAny_pure ⟨.bl (!b), H', I2, rfl, q2⟩
/-- len(o) -/
def rLenO (C : Addr) (sp : Sp) (E : XK) : List V → Hp → VK → Prop := fun xs H Q => ∃ (a dx : Addr) (fs : List (Str × V)), xs = [.ref a] ∧ H a = some (.ins C dx fs) ∧ sp [.ref a] H (fun r H' => ∃ n : Int, r = .int n ∧ (0 ≤ n ∧ n < 2 ^ 63) ∧ Q (.int n) H') E
theorem call_lenO (m : Meth X.K C "__len__" f) (F : FnOk X.prog X.w X.K X.mg X.base CX k f fd ps sp) (hr : Room (k + 1) X.A) (bd : L2.Binds X.K fd ps []) (pass : Passes CX X E) : CallR X (.builtin "len") (rLenO C sp E) := by
  intro pins s σ H xs us Q I r ⟨a, dx, fs, ex, ea, q⟩
  subst ex
  obtain ⟨u, rfl, ru⟩ := vals1 r
  cases (show u = Value.ref a from ru)
  obtain ⟨ox, od, at_⟩ := ins_inst I ea
  obtain ⟨mm, fr⟩ := inv_fr I
  refine PySem.W.len_K fr I.ok.mod.kin at_ m.at_ m.fn (run_in X.A.in1 (.inr rfl) F hr bd pass I (vs := [.ref a]) (.cons rfl .nil) q ?_)
  intro r2 H' u2 s2 I2 rr ⟨n, en, hn, q2⟩
  subst en
  obtain ⟨t, rfl⟩ := rr
  exact ⟨hn, .int n, H', I2.tok _, ⟨_, rfl⟩, q2⟩
/-- o[i] -/
def rIxO (C : Addr) (sp : Sp) (E : XK) : R2 := fun x y H Q => ∃ (a dx : Addr) (fs : List (Str × V)), x = .ref a ∧ H a = some (.ins C dx fs) ∧ sp [.ref a, y] H Q E
theorem pe_ixO {va vb : Expr} {ta tb : TE} {pos : Pos} (m : Meth X.K C "__getitem__" f) (fn : PySem.W.fnIn X.K f = true) (F : FnOk X.prog X.w X.K X.mg X.base CX k f fd ps sp) (hr : Room (k + 1) X.A) (bd : L2.Binds X.K fd ps []) (pass : Passes CX X E)
    (ha : PE X va ta) (hb : PE X vb tb) (hsl : ∀ (a : Addr) (i : Value), subscripted vb true (.ref a) i = runValue (.builtin "lifetime.subscript" ⟨[.ref a, i], []⟩) := by intro _ _; with_unfolding_all rfl) :
    PE X (.Subscript va vb pos) (tOp (rIxO C sp E) ta tb) := by
  constructor
  intro pins s σ H Q I h
  refine Subscript_ (binT ha hb I h ?_)
  intro v u s2 x y H2 I2 rx ry ⟨a, dx, fs, ex, ea, q⟩
  subst ex
  cases (show v = Value.ref a from rx)
  obtain ⟨ox, od, at_⟩ := ins_inst I2 ea
  obtain ⟨mm, fr⟩ := inv_fr I2
  exact PySem.W.sub_K fr I2.ok.mod.kin at_ m.at_ fn m.fn (run_in X.A.in1 (.inr rfl) F hr bd pass I2 (vs := [.ref a, y]) (.cons rfl (.cons ry .nil)) q fun r H' u2 s3 I3 rr q2 => ⟨r, H', I3, rr, q2⟩) (hsl a u)
end
end GG

set_option maxHeartbeats 4000000
/-! ### own classes with __eq__: == and != -/
namespace PySem.W
open PySem PySem.Calls PyProof.Rows
section
variable {prog : Program} {w : World} {A : Around} {E : Value → Shared → Prop} {s : Shared} {K : Frag} {x C L f : Addr} {h₀ : Heap} {m : Str → Option Value} {ox : Obj} {od : Option Obj} {b tb : Value}
theorem ifBound_KB {M : Model} {args : List Value} {Q : Option Value → Shared → Prop} (X : K.In s.heap) (I : InstAt s.heap x ox C od) (hs : findIn K (.ref C) "__ne__" = some (some (.builtin "object.__ne__")))
    (h : wpAny M A (call (.builtin "object.__ne__") (.ref x :: args)) (fun v => Q (some v)) E s) : wpAny M A (callSpecialIfBound? (.ref x) "__ne__" args) Q E s := by
  simp only [callSpecialIfBound?, bindSpecialIfBound?]
  refine wpAny_holding (wpAny_bind (wpAny_bind (wpAny_bind (I.type.here ((looks_findIn X hs).here ?_)))))
  simp only [PySem.F.cmp_object.ne.bind]
  refine wpAny_bind (wpAny_askSetting (wpAny_ite ?_))
  have fin : wpAny M A (call (.builtin "object.__ne__") ([.ref x] ++ args) >>= fun v => pure (some v)) Q E s := wpAny_bind (wpAny_mono h (fun v s' h' => wpAny_pure h') fun _ _ h' => h')
  split
  · exact wpAny_bind (wpAny_pure (wpAny_pure fin))
  · exact wpAny_tryCatch (wpAny_bind (wpAny_pure (wpAny_pure fin)))
/-- x != b, by __eq__ at f -/
theorem ne_K {Q : Value → Shared → Prop} (hu : A.units + 1 < cLine) (F : Fr h₀ L s.heap m) (X₀ : K.In h₀) (I : InstAt s.heap x ox C od) (hb : Looks (model prog w) s.heap (typeOf b) tb) (hn : notFirst K C tb = true)
    (hne : findIn K (.ref C) "__ne__" = some (some (.builtin "object.__ne__"))) (ho : subIn K (.ref C) (.type "object") = some true)
    (hs : findIn K (.ref C) "__eq__" = some (some (.ref f))) (hf : isFn K (.ref f) = true)
    (h : wpAny (model prog w) A.in1 (call (.ref f) [.ref x, b]) (fun v s' => ∃ c, v = .bool c ∧ Q (.bool (!c)) s') E s) : wpAny (model prog w) A (richCompare .NotEq (.ref x) b) Q E s := by
  have X := X₀.keeps F.keep
  have one : wpAny (model prog w) A (tryCompare (.ref x) "__ne__" b) (fun r s' => ∃ v, r = some v ∧ Q v s') E s := by
    unfold tryCompare
    refine wpAny_bind (ifBound_KB X I hne (wpAny_call (codeAny_call_builtin PySem.F.cmp_object.ne.plain PySem.F.cmpEntry_ne (check_slot PySem.F.cmpKind_ne PySem.F.cmpSplit_ne (I.type.andThen (looks_subIn X ho)) (PySem.F.cmpArgs_ne _ _) ?_))))
    unfold Builtin.«object.__ne__»
    repeat (first
      | with_reducible refine wpAny_cRoomFor (A := A.in1) (show A.in1.units < cLine from hu) ?_
      | (refine wpAny_bind (m := callSpecialIfBound? (.ref x) (Str.ofString "__eq__") [b])
          (ifBound_K X I hs hf (wpAny_mono h (fun r s' hr => by
            obtain ⟨c, rfl, hq⟩ := hr
            repeat (first | exact ⟨_, rfl, hq⟩ | exact wpAny_pure ⟨_, rfl, hq⟩ | exact wpAny_truthy_bool ⟨_, rfl, hq⟩ | (refine wpAny_bind (m := truthy (.bool _)) (wpAny_truthy_bool ?_)) | wp_step)) fun _ _ e => e)))
      | wp_step)
  unfold richCompare
  simp only [oneThing_ref]
  refine wpAny_holding (wpAny_bind (wpAny_cRoomFor (by omega) ?_))
  refine wpAny_bind (I.type.here (wpAny_bind (hb.here ?_)))
  have fin : wpAny (model prog w) A (tryCompare (.ref x) "__ne__" b) (fun r s' => ∃ v, r = some v ∧ Q v s') E s := one
  split
  · rename_i q
    have e : subIn K tb (.ref C) = some false := by
      rcases Bool.or_eq_true_iff.mp hn with e | e
      · rw [beq_iff_eq.mp e] at q; simp at q
      · exact beq_iff_eq.mp e
    refine wpAny_bind ((looks_subIn X e).here ?_)
    simp only [Bool.false_eq_true, if_false]
    refine wpAny_bind (wpAny_mono one (fun r s' z => ?_) fun _ _ e => e)
    obtain ⟨v, rfl, hq⟩ := z
    exact wpAny_pure hq
  · refine wpAny_bind (wpAny_pure ?_)
    simp only [Bool.false_eq_true, if_false]
    refine wpAny_bind (wpAny_mono one (fun r s' z => ?_) fun _ _ e => e)
    obtain ⟨v, rfl, hq⟩ := z
    exact wpAny_pure hq
end
end PySem.W
namespace GG
open PySem PySem.Spec PyProof.Rows L2
section
variable {X : Cx} {CX : CXT} {k : Nat} {f C a dx : Addr} {fs : List (Str × V)} {fd : FuncData} {ps : List Str} {sp : Sp} {E : XK} {pins : List (Addr × Obj)} {σ : L2.St} {H : Hp} {s : Shared}
theorem tyX_looks {y : V} {u t : Value} (I : Inv X pins σ H s) (ty : TyX X.K H y t) (ry : RelV y u) : PySem.W.Looks (model X.prog X.w) s.heap (typeOf u) t := by
  obtain ⟨P, k, hp, _⟩ := kit_of I ry ty
  exact k.ty _ _ I.kIn hp
/-- o == e: the values on the right whose class is not below C -/
def rEqO (K : PySem.W.Frag) (C : Addr) (sp : Sp) (E : XK) (neg : Bool) : R2 := fun x y H Q => ∃ (a dx : Addr) (fs : List (Str × V)) (t : Value), x = .ref a ∧ H a = some (.ins C dx fs) ∧
  TyX K H y t ∧ PySem.W.notFirst K C t = true ∧ sp [.ref a, y] H (fun r H' => ∃ b, r = .bl b ∧ Q (.bl (xor neg b)) H') E
theorem op_eqO (m : Meth X.K C "__eq__" f) (F : FnOk X.prog X.w X.K X.mg X.base CX k f fd ps sp) (hr : Room (k + 1) X.A) (bd : L2.Binds X.K fd ps []) (pass : Passes CX X E) : OpR X (compareOp .Eq) (rEqO X.K C sp E false) := by
  intro pins s σ H x y v u Q I rx ry ⟨a, dx, fs, t, ex, ea, ty, nf, q⟩
  subst ex
  cases (show v = Value.ref a from rx)
  obtain ⟨ox, od, at_⟩ := ins_inst I ea
  obtain ⟨mm, fr⟩ := inv_fr I
  refine PySem.W.cmp_ofEq (PySem.W.cmp_K (op := .Eq) (by have := hr.un; omega) fr I.ok.mod.kin at_ (tyX_looks I ty ry) nf m.at_ m.fn (run_in X.A (.inl rfl) F hr bd pass I (vs := [.ref a, y]) (.cons rfl (.cons ry .nil)) q ?_))
  intro r H' u2 s2 I2 rr ⟨b, eb, q2⟩
  subst eb
  cases (show u2 = Value.bool b from rr)
  have e : (xor false b) = b := by cases b <;> rfl
  rw [e] at q2
  exact ⟨.bl b, H', I2, rfl, q2⟩
theorem op_neO (m : Meth X.K C "__eq__" f) (hne : PySem.W.findIn X.K (.ref C) "__ne__" = some (some (.builtin "object.__ne__"))) (ho : PySem.W.subIn X.K (.ref C) (.type "object") = some true)
    (F : FnOk X.prog X.w X.K X.mg X.base CX k f fd ps sp) (hr : Room (k + 1) X.A) (bd : L2.Binds X.K fd ps []) (pass : Passes CX X E) : OpR X (compareOp .NotEq) (rEqO X.K C sp E true) := by
  intro pins s σ H x y v u Q I rx ry ⟨a, dx, fs, t, ex, ea, ty, nf, q⟩
  subst ex
  cases (show v = Value.ref a from rx)
  obtain ⟨ox, od, at_⟩ := ins_inst I ea
  obtain ⟨mm, fr⟩ := inv_fr I
  refine PySem.W.cmp_ofNotEq (PySem.W.ne_K (by have := hr.un; omega) fr I.ok.mod.kin at_ (tyX_looks I ty ry) nf hne ho m.at_ m.fn (run_in X.A.in1 (.inr rfl) F hr bd pass I (vs := [.ref a, y]) (.cons rfl (.cons ry .nil)) q ?_))
  intro r H' u2 s2 I2 rr ⟨b, eb, q2⟩
  subst eb
  cases (show u2 = Value.bool b from rr)
  have e : (xor true b) = !b := by cases b <;> rfl
  rw [e] at q2
  exact ⟨b, rfl, .bl (!b), H', I2, rfl, q2⟩
end
end GG

set_option maxHeartbeats 8000000
/-! ### webs: rows of natural numbers, the class Web -/
namespace GG
open PySem PySem.Spec PyProof.Rows L2
abbrev vN (k : Nat) : V := .int k
def clsBody : PySem.Stmt → List PySem.Stmt
  | .ClassDef _ _ _ b _ _ _ _ _ _ _ => b
  | _ => []
theorem vint_inj {a b : Int} (h : V.int a = V.int b) : a = b := by cases h; rfl
theorem vN_inj {a b : Nat} (h : vN a = vN b) : a = b := by
  have := vint_inj h
  omega
theorem mapN (xs : List Nat) : xs.map vN = (xs.map fun k : Nat => (k : Int)).map V.int := by
  rw [List.map_map]
  rfl
theorem sqT_ty {K : PySem.W.Frag} {H : Hp} {a : Addr} {xs : List V} (h : SqT K H a xs) : TyX K H (.ref a) (.type "tuple") := by
  rcases h with (h | ⟨o, h⟩) | ⟨o, its, n, hk, hc, _⟩
  · exact .base (.tup h)
  · exact .fTuple h
  · exact .kTuple hk hc
theorem seqL_same {K : PySem.W.Frag} {H H' : Hp} {a : Addr} {xs : List V} (s : Same H H') (h : SqL K H a xs) : SqL K H' a xs := by
  rcases h with (h | ⟨o, h⟩) | h
  · exact .inl (.inl (s _ _ h))
  · exact .inl (.inr ⟨o, s _ _ h⟩)
  · exact .inr h
/-- a tuple at r of tuples of natural numbers -/
structure RowsT (K : PySem.W.Frag) (H : Hp) (r : Addr) (as : List Addr) (rows : List (List Nat)) : Prop where
  seq : SqT K H r (as.map V.ref)
  len : as.length = rows.length
  row : ∀ (i : Nat) (a : Addr) (row : List Nat), as[i]? = some a → rows[i]? = some row → SqT K H a (row.map vN)
theorem RowsT.same {K : PySem.W.Frag} {H H' : Hp} {r : Addr} {as : List Addr} {rows : List (List Nat)} (h : RowsT K H r as rows) (s : Same H H') : RowsT K H' r as rows :=
  ⟨sqT_same s h.seq, h.len, fun i a row h1 h2 => sqT_same s (h.row i a row h1 h2)⟩
/-! ### as data -/
abbrev natsD (row : List Nat) : PyData := .tuple (row.map fun k : Nat => .int (k : Int))
abbrev tupsD (rows : List (List Nat)) : List PyData := rows.map natsD
theorem nats_dp {K : PySem.W.Frag} {H : Hp} : ∀ row : List Nat, DpAll K H (row.map vN) (row.map fun k : Nat => .int (k : Int))
  | [] => .nil
  | _ :: r => .cons (.int _) (nats_dp r)
theorem natsD_dp {K : PySem.W.Frag} {H : Hp} {a : Addr} {row : List Nat} (h : SqT K H a (row.map vN)) : Dp K H (.ref a) (natsD row) := .tup h (nats_dp row)
theorem nats_flat : ∀ row : List Nat, PyData.depthAll (row.map fun k : Nat => .int (k : Int)) = 0 ∧ PyData.canLayAll0 (row.map fun k : Nat => .int (k : Int)) = true
  | [] => ⟨rfl, rfl⟩
  | f :: r => by
    obtain ⟨a, b⟩ := nats_flat r
    refine ⟨?_, ?_⟩
    · rw [List.map_cons, PyData.depthAll, a]
      rfl
    · rw [List.map_cons, PyData.canLayAll0, b]
      rfl
theorem natsD_shaped (row : List Nat) : SeqAt.shaped (natsD row) = true := by
  obtain ⟨a, b⟩ := nats_flat row
  unfold SeqAt.shaped
  rw [PyData.canLay0, b, PyData.depth, a]
  rfl
theorem nats_eqv : ∀ fs gs : List Nat, PyData.eqvAll (fs.map fun k : Nat => .int (k : Int)) (gs.map fun k : Nat => .int (k : Int)) = decide (fs = gs)
  | [], [] => rfl
  | [], _ :: _ => rfl
  | _ :: _, [] => rfl
  | f :: r, g :: t => by
    rw [List.map_cons, List.map_cons, PyData.eqvAll, nats_eqv r t, PyData.eqv]
    by_cases h : f = g
    · subst h
      by_cases e : r = t <;> simp [e]
    · have : ((f : Int) == (g : Int)) = false := by simpa using fun z => h (by omega)
      rw [this, Bool.false_and]
      simp [h]
theorem natsD_eqv (a b : List Nat) : PyData.eqv (natsD a) (natsD b) = decide (a = b) := by
  rw [PyData.eqv, nats_eqv]
theorem tupsD_flat : ∀ rows : List (List Nat), PyData.depthAll (tupsD rows) ≤ 1 ∧ PyData.canLayAll0 (tupsD rows) = true
  | [] => ⟨Nat.zero_le _, rfl⟩
  | f :: r => by
    obtain ⟨a, b⟩ := tupsD_flat r
    obtain ⟨c, d⟩ := nats_flat f
    refine ⟨?_, ?_⟩
    · rw [tupsD, List.map_cons, PyData.depthAll, PyData.depth, c]
      exact Nat.max_le.mpr ⟨by decide, a⟩
    · rw [tupsD, List.map_cons, PyData.canLayAll0, PyData.canLay0, d]
      exact b
theorem tupsD_shaped (rows : List (List Nat)) : SeqAt.shaped (.tuple (tupsD rows)) = true ∧ SeqAt.shaped (.list (tupsD rows)) = true := by
  obtain ⟨a, b⟩ := tupsD_flat rows
  refine ⟨?_, ?_⟩
  · unfold SeqAt.shaped
    rw [PyData.canLay0, b, PyData.depth]
    exact decide_eq_true (by omega)
  · unfold SeqAt.shaped
    rw [PyData.canLay0, b, PyData.depth]
    exact decide_eq_true (by omega)
theorem tupsD_eqv : ∀ fs gs : List (List Nat), PyData.eqvAll (tupsD fs) (tupsD gs) = decide (fs = gs)
  | [], [] => rfl
  | [], _ :: _ => rfl
  | _ :: _, [] => rfl
  | f :: r, g :: t => by
    rw [tupsD, tupsD, List.map_cons, List.map_cons, PyData.eqvAll, natsD_eqv]
    have := tupsD_eqv r t
    rw [show List.map natsD r = tupsD r from rfl, show List.map natsD t = tupsD t from rfl, this]
    by_cases h : f = g
    · subst h
      by_cases e : r = t <;> simp [e]
    · simp [h]
theorem tupsD_dp {K : PySem.W.Frag} {H : Hp} : ∀ (as : List Addr) (rows : List (List Nat)), as.length = rows.length → (∀ (i : Nat) (a : Addr) (row : List Nat), as[i]? = some a → rows[i]? = some row → SqT K H a (row.map vN)) →
    DpAll K H (as.map V.ref) (tupsD rows)
  | [], [], _, _ => .nil
  | [], _ :: _, h, _ => by cases h
  | _ :: _, [], h, _ => by cases h
  | a :: as, row :: rows, h, hr => .cons (natsD_dp (hr 0 a row rfl rfl)) (tupsD_dp as rows (by simpa using h) fun i b r h1 h2 => hr (i + 1) b r h1 h2)
theorem RowsT.dp {K : PySem.W.Frag} {H : Hp} {r : Addr} {as : List Addr} {rows : List (List Nat)} (h : RowsT K H r as rows) : Dp K H (.ref r) (.tuple (tupsD rows)) := .tup h.seq (tupsD_dp as rows h.len h.row)
/-- a list at r of tuples of natural numbers -/
structure RowsL (K : PySem.W.Frag) (H : Hp) (r : Addr) (as : List Addr) (rows : List (List Nat)) : Prop where
  seq : SqL K H r (as.map V.ref)
  len : as.length = rows.length
  row : ∀ (i : Nat) (a : Addr) (row : List Nat), as[i]? = some a → rows[i]? = some row → SqT K H a (row.map vN)
theorem RowsL.same {K : PySem.W.Frag} {H H' : Hp} {r : Addr} {as : List Addr} {rows : List (List Nat)} (h : RowsL K H r as rows) (s : Same H H') : RowsL K H' r as rows :=
  ⟨seqL_same s h.seq, h.len, fun i a row h1 h2 => sqT_same s (h.row i a row h1 h2)⟩
theorem RowsL.dp {K : PySem.W.Frag} {H : Hp} {r : Addr} {as : List Addr} {rows : List (List Nat)} (h : RowsL K H r as rows) : Dp K H (.ref r) (.list (tupsD rows)) := .lst h.seq (tupsD_dp as rows h.len h.row)
/-- addresses of tuples of natural numbers -/
def Tups (K : PySem.W.Frag) (H : Hp) (as : List Addr) (rows : List (List Nat)) : Prop := as.length = rows.length ∧ ∀ (i : Nat) (a : Addr) (row : List Nat), as[i]? = some a → rows[i]? = some row → SqT K H a (row.map vN)
theorem Tups.nil {K : PySem.W.Frag} {H : Hp} : Tups K H [] [] := ⟨rfl, fun i a row h => by cases h⟩
theorem Tups.same {K : PySem.W.Frag} {H H' : Hp} {as : List Addr} {rows : List (List Nat)} (t : Tups K H as rows) (s : Same H H') : Tups K H' as rows := ⟨t.1, fun i a row h1 h2 => sqT_same s (t.2 i a row h1 h2)⟩
theorem sqT_lst {K : PySem.W.Frag} {H : Hp} {a D : Addr} {xs ys : List V} {o : HO} (h : SqT K H a xs) (hD : H D = some (.lst ys)) : SqT K (upd H D o) a xs := by
  rcases h with (h | ⟨u, h⟩) | h
  · exact .inl (.inl (by rw [upd_ne (fun e => by rw [e, hD] at h; cases h)]; exact h))
  · exact .inl (.inr ⟨u, by rw [upd_ne (fun e => by rw [e, hD] at h; cases h)]; exact h⟩)
  · exact .inr h
theorem Tups.lst {K : PySem.W.Frag} {H : Hp} {D : Addr} {ys : List V} {o : HO} {as : List Addr} {rows : List (List Nat)} (t : Tups K H as rows) (hD : H D = some (.lst ys)) : Tups K (upd H D o) as rows :=
  ⟨t.1, fun i a row h1 h2 => sqT_lst (t.2 i a row h1 h2) hD⟩
theorem Tups.snoc {K : PySem.W.Frag} {H : Hp} {q : Addr} {row : List Nat} {as : List Addr} {rows : List (List Nat)} (t : Tups K H as rows) (hq : SqT K H q (row.map vN)) : Tups K H (as ++ [q]) (rows ++ [row]) := by
  refine ⟨by rw [List.length_append, List.length_append, t.1]; rfl, fun i a r h1 h2 => ?_⟩
  by_cases il : i < as.length
  · rw [List.getElem?_append_left il] at h1
    rw [List.getElem?_append_left (by rw [← t.1]; exact il)] at h2
    exact t.2 i a r h1 h2
  · have b := (List.getElem?_eq_some_iff.mp h1).1
    rw [List.length_append, List.length_singleton] at b
    have e : i = as.length := by omega
    subst e
    rw [List.getElem?_append_right (Nat.le_refl _), Nat.sub_self] at h1
    rw [t.1, List.getElem?_append_right (Nat.le_refl _), Nat.sub_self] at h2
    cases h1
    cases h2
    exact hq
theorem Tups.rowsT {K : PySem.W.Frag} {H : Hp} {r : Addr} {as : List Addr} {rows : List (List Nat)} (t : Tups K H as rows) (h : SqT K H r (as.map V.ref)) : RowsT K H r as rows := ⟨h, t.1, t.2⟩
theorem Tups.rowsL {K : PySem.W.Frag} {H : Hp} {r : Addr} {as : List Addr} {rows : List (List Nat)} (t : Tups K H as rows) (h : SqL K H r (as.map V.ref)) : RowsL K H r as rows := ⟨h, t.1, t.2⟩
theorem RowsT.tups {K : PySem.W.Frag} {H : Hp} {r : Addr} {as : List Addr} {rows : List (List Nat)} (h : RowsT K H r as rows) : Tups K H as rows := ⟨h.len, h.row⟩
/-- the rows of a web -/
structure WebOk (rows : List (List Nat)) : Prop where
  some_ : 1 ≤ rows.length
  few : rows.length ≤ 256
  inn : ∀ row ∈ rows, ∀ x ∈ row, x < rows.length
  asc : ∀ row ∈ rows, row.Pairwise (· < ·)
theorem asc_len {many : Nat} : ∀ {row : List Nat} {lo : Nat}, row.Pairwise (· < ·) → (∀ x ∈ row, lo ≤ x ∧ x < many) → row.length + lo ≤ max lo many
  | [], lo, _, _ => by
    show 0 + lo ≤ _
    omega
  | x :: r, lo, h, hb => by
    obtain ⟨h1, h2⟩ := List.pairwise_cons.mp h
    have b := hb x List.mem_cons_self
    have := asc_len (row := r) (lo := x + 1) h2 (fun y hy => ⟨h1 y hy, (hb y (List.mem_cons_of_mem _ hy)).2⟩)
    rw [List.length_cons]
    omega
theorem WebOk.rowLen {rows : List (List Nat)} (h : WebOk rows) {row : List Nat} (m : row ∈ rows) : row.length ≤ 256 := by
  have := asc_len (lo := 0) (h.asc row m) (fun x hx => ⟨Nat.zero_le _, h.inn row m x hx⟩)
  have := h.few
  omega
theorem ascI_of {row : List Nat} (h : row.Pairwise (· < ·)) : ascI (row.map fun k : Nat => (k : Int)) = true := by
  unfold ascI
  rw [List.all_eq_true]
  intro i hi
  have hi := List.mem_range.mp hi
  rw [List.length_map] at hi
  have h1 : i < row.length := by omega
  have h2 : i + 1 < row.length := by omega
  refine decide_eq_true ?_
  rw [List.getD_eq_getElem?_getD, List.getD_eq_getElem?_getD, List.getElem?_map, List.getElem?_map, List.getElem?_eq_getElem h1, List.getElem?_eq_getElem h2]
  have := List.pairwise_iff_getElem.mp h i (i + 1) h1 h2 (Nat.lt_succ_self i)
  show ((row[i] : Nat) : Int) < ((row[i + 1] : Nat) : Int)
  omega
/-- a web of these rows at w; ld: what it keeps of its depth -/
def WebAt (K : PySem.W.Frag) (H : Hp) (C w : Addr) (rows : List (List Nat)) : Prop :=
  ∃ dx r as ld, H w = some (.ins C dx [("_rows", .ref r), ("_lone_depth", ld)]) ∧ RowsT K H r as rows
theorem WebAt.same {K : PySem.W.Frag} {H H' : Hp} {C w : Addr} {rows : List (List Nat)} (h : WebAt K H C w rows) (s : Same H H') : WebAt K H' C w rows := by
  obtain ⟨dx, r, as, ld, h1, h2⟩ := h
  exact ⟨dx, r, as, ld, s _ _ h1, h2.same s⟩
/-- what the head's text says of the class Web -/
structure WebC (K : PySem.W.Frag) (C : Addr) : Prop where
  c : Cls K C
  no : NoAttr K C "_rows"
  no2 : NoAttr K C "_lone_depth"
theorem lk_rows {r ld : V} : List.lookup ("_rows" : Str) [(("_rows" : Str), r), ("_lone_depth", ld)] = some r := by rfl
/-! ### word webs -/
def wordRows (d k : Nat) : List (List Nat) := (List.range (d ^ k)).map fun p => (List.range d).map fun c => p * d % d ^ k + c
theorem wordRows_len (d k : Nat) : (wordRows d k).length = d ^ k := by
  unfold wordRows
  rw [List.length_map, List.length_range]
theorem word_fit {d k p c : Nat} (hk : 1 ≤ k) (hp : p < d ^ k) (hc : c < d) : p * d % d ^ k + c < d ^ k := by
  obtain ⟨m, rfl⟩ : ∃ m, k = m + 1 := ⟨k - 1, by omega⟩
  rw [Nat.pow_succ, Nat.mul_mod_mul_right]
  have d0 : 0 < d := by omega
  have hm : 0 < d ^ m := Nat.pow_pos d0
  have h1 := Nat.mod_lt p hm
  have h2 : (p % d ^ m + 1) * d ≤ d ^ m * d := Nat.mul_le_mul_right d h1
  rw [Nat.add_mul, Nat.one_mul] at h2
  omega
theorem range_asc (s d : Nat) : ((List.range d).map fun c => s + c).Pairwise (· < ·) := by
  rw [List.pairwise_map]
  exact List.pairwise_lt_range.imp fun h => by omega
theorem wordRows_ok {d k : Nat} (hd : 1 ≤ d) (hk : 1 ≤ k) (h : d ^ k ≤ 256) : WebOk (wordRows d k) := by
  refine ⟨?_, ?_, fun row hr x hx => ?_, fun row hr => ?_⟩
  · rw [wordRows_len]
    exact Nat.pow_pos hd
  · rw [wordRows_len]
    exact h
  · rw [wordRows_len]
    obtain ⟨p, hp, rfl⟩ := List.mem_map.mp hr
    obtain ⟨c, hc, rfl⟩ := List.mem_map.mp hx
    exact word_fit hk (List.mem_range.mp hp) (List.mem_range.mp hc)
  · obtain ⟨p, hp, rfl⟩ := List.mem_map.mp hr
    exact range_asc _ _
def allRows (n : Nat) : List (List Nat) := List.replicate n (List.range n)
theorem allRows_ok {n : Nat} (h1 : 1 ≤ n) (h2 : n ≤ 256) : WebOk (allRows n) := by
  refine ⟨by rw [allRows, List.length_replicate]; exact h1, by rw [allRows, List.length_replicate]; exact h2, fun row hr x hx => ?_, fun row hr => ?_⟩
  · obtain ⟨_, rfl⟩ := List.mem_replicate.mp hr
    rw [allRows, List.length_replicate]
    exact List.mem_range.mp hx
  · obtain ⟨_, rfl⟩ := List.mem_replicate.mp hr
    exact List.pairwise_lt_range
theorem allRows_word {n : Nat} : wordRows n 1 = allRows n := by
  unfold wordRows allRows
  rw [Nat.pow_one]
  refine List.ext_getElem (by rw [List.length_map, List.length_range, List.length_replicate]) fun i h1 h2 => ?_
  rw [List.getElem_map, List.getElem_range, List.getElem_replicate, Nat.mul_mod_left]
  simp
theorem rgV_nat (a b : Nat) : rgV (a : Int) ((a + b : Nat) : Int) = ((List.range b).map fun c => a + c).map vN := by
  unfold rgV
  rw [List.map_map, show (((a + b : Nat) : Int) - (a : Int)).toNat = b by omega]
  rfl
end GG

set_option maxHeartbeats 4000000
namespace GG
open PySem PySem.Spec PyProof.Rows L2
/-! ### values of written shape: of numbers, texts, lists, tuples, empty dicts; F: where its objects may stand -/
mutual
inductive Dv (F : Addr → Prop) (H : Hp) : V → PyData → Prop
  | non : Dv F H .non .none
  | bl (b : Bool) : Dv F H (.bl b) (.bool b)
  | int (i : Int) : Dv F H (.int i) (.int i)
  | str (x : Str) : Dv F H (.str x) (.str x)
  | lst {a : Addr} {xs : List V} {ds : List PyData} : F a → H a = some (.lst xs) → DvAll F H xs ds → Dv F H (.ref a) (.list ds)
  | tup {a : Addr} {xs : List V} {ds : List PyData} : F a → H a = some (.tup xs) → DvAll F H xs ds → Dv F H (.ref a) (.tuple ds)
  | dct0 {a : Addr} : F a → H a = some (.dK []) → Dv F H (.ref a) (.dict [])
inductive DvAll (F : Addr → Prop) (H : Hp) : List V → List PyData → Prop
  | nil : DvAll F H [] []
  | cons {v : V} {vs : List V} {d : PyData} {ds : List PyData} : Dv F H v d → DvAll F H vs ds → DvAll F H (v :: vs) (d :: ds)
end
mutual
theorem Dv.move {F F' : Addr → Prop} {H H' : Hp} (hF : ∀ a o, F a → H a = some o → F' a) (hH : ∀ a o, F a → (∀ ps, o ≠ .tbl ps) → H a = some o → H' a = some o) : ∀ (d : PyData) (v : V), Dv F H v d → Dv F' H' v d
  | .none, _, h => by cases h; exact .non
  | .bool b, _, h => by cases h; exact .bl b
  | .int i, _, h => by cases h; exact .int i
  | .str x, _, h => by cases h; exact .str x
  | .list ds, _, h => by
    cases h with
    | lst f e r => exact .lst (hF _ _ f e) (hH _ _ f (fun ps z => by cases z) e) (DvAll.move hF hH ds _ r)
  | .tuple ds, _, h => by
    cases h with
    | tup f e r => exact .tup (hF _ _ f e) (hH _ _ f (fun ps z => by cases z) e) (DvAll.move hF hH ds _ r)
  | .dict kvs, _, h => by
    cases h with
    | dct0 f e => exact .dct0 (hF _ _ f e) (hH _ _ f (fun ps z => by cases z) e)
theorem DvAll.move {F F' : Addr → Prop} {H H' : Hp} (hF : ∀ a o, F a → H a = some o → F' a) (hH : ∀ a o, F a → (∀ ps, o ≠ .tbl ps) → H a = some o → H' a = some o) : ∀ (ds : List PyData) (vs : List V), DvAll F H vs ds → DvAll F' H' vs ds
  | [], _, h => by cases h; exact .nil
  | d :: ds, _, h => by
    cases h with
    | cons h1 h2 => exact .cons (Dv.move hF hH d _ h1) (DvAll.move hF hH ds _ h2)
end
mutual
theorem Dv.rn {F : Addr → Prop} {H : Hp} : ∀ (d : PyData) (v : V), Dv F H v d → Rn H v d
  | .none, _, h => by cases h; exact .non
  | .bool b, _, h => by cases h; exact .bl b
  | .int i, _, h => by cases h; exact .int i
  | .str x, _, h => by cases h; exact .str x
  | .list ds, _, h => by
    cases h with
    | lst f e r => exact .lst e (DvAll.rn ds _ r)
  | .tuple ds, _, h => by
    cases h with
    | tup f e r => exact .tup e (DvAll.rn ds _ r)
  | .dict kvs, _, h => by
    cases h with
    | dct0 f e => exact .dct0 e
theorem DvAll.rn {F : Addr → Prop} {H : Hp} : ∀ (ds : List PyData) (vs : List V), DvAll F H vs ds → RnAll H vs ds
  | [], _, h => by cases h; exact .nil
  | d :: ds, _, h => by
    cases h with
    | cons h1 h2 => exact .cons (Dv.rn d _ h1) (DvAll.rn ds _ h2)
end
theorem DvAll.len {F : Addr → Prop} {H : Hp} : ∀ {vs : List V} {ds : List PyData}, DvAll F H vs ds → vs.length = ds.length
  | [], [], _ => rfl
  | _ :: _, [], h => by cases h
  | [], _ :: _, h => by cases h
  | _ :: _, _ :: _, h => by
    cases h with
    | cons _ h2 => rw [List.length_cons, List.length_cons, h2.len]
theorem DvAll.get {F : Addr → Prop} {H : Hp} : ∀ {vs : List V} {ds : List PyData}, DvAll F H vs ds → ∀ {i : Nat} {v : V}, vs[i]? = some v → ∃ d, ds[i]? = some d ∧ Dv F H v d
  | [], _, h, i, v, e => by simp at e
  | x :: xs, _, h, i, v, e => by
    cases h with
    | cons h1 h2 =>
      cases i with
      | zero =>
        cases e
        exact ⟨_, rfl, h1⟩
      | succ i => exact h2.get e
theorem DvAll.append {F : Addr → Prop} {H : Hp} : ∀ {vs ws : List V} {ds es : List PyData}, DvAll F H vs ds → DvAll F H ws es → DvAll F H (vs ++ ws) (ds ++ es)
  | [], _, _, _, h, g => by cases h; exact g
  | _ :: _, _, _, _, h, g => by
    cases h with
    | cons h1 h2 => exact .cons h1 (h2.append g)
theorem DvAll.rep {F : Addr → Prop} {H : Hp} {vs : List V} {ds : List PyData} (h : DvAll F H vs ds) : ∀ n : Nat, DvAll F H (List.replicate n vs).flatten (List.replicate n ds).flatten
  | 0 => .nil
  | n + 1 => by
    rw [List.replicate_succ, List.replicate_succ, List.flatten_cons, List.flatten_cons]
    exact h.append (h.rep n)
theorem Dv.same {F : Addr → Prop} {H H' : Hp} {v : V} {d : PyData} (h : Dv F H v d) (s : Same H H') : Dv F H' v d := Dv.move (fun _ _ f _ => f) (fun a o _ _ e => s a o e) d v h
theorem DvAll.same {F : Addr → Prop} {H H' : Hp} {vs : List V} {ds : List PyData} (h : DvAll F H vs ds) (s : Same H H') : DvAll F H' vs ds := DvAll.move (fun _ _ f _ => f) (fun a o _ _ e => s a o e) ds vs h
theorem Dv.but {l : Addr} {H H' : Hp} {v : V} {d : PyData} (h : Dv (· ≠ l) H v d) (b : But l H H') : Dv (· ≠ l) H' v d := Dv.move (fun _ _ f _ => f) (fun a o f _ e => b a o f e) d v h
theorem DvAll.but {l : Addr} {H H' : Hp} {vs : List V} {ds : List PyData} (h : DvAll (· ≠ l) H vs ds) (b : But l H H') : DvAll (· ≠ l) H' vs ds := DvAll.move (fun _ _ f _ => f) (fun a o f _ e => b a o f e) ds vs h
/-! ### their kinds -/
def kindD : PyData → String
  | .none => "NoneType"
  | .bool _ => "bool"
  | .int _ => "int"
  | .str _ => "str"
  | .list _ => "list"
  | .tuple _ => "tuple"
  | .dict _ => "dict"
theorem Dv.ty {K : PySem.W.Frag} {F : Addr → Prop} {H : Hp} {v : V} {d : PyData} (h : Dv F H v d) : TyX K H v (.type (kindD d)) := by
  cases h with
  | non => exact .base .non
  | bl b => exact .base (.bl b)
  | int i => exact .base (.int i)
  | str x => exact .base (.str x)
  | lst f e r => exact .base (.lst e)
  | tup f e r => exact .base (.tup e)
  | dct0 f e => exact .base (.dK e)
theorem kit_tuple : ∀ d : PyData, kitB (kindD d) "tuple" = some (match d with | .tuple _ => true | _ => false)
  | .none => show kitB "NoneType" "tuple" = some false by decide +kernel
  | .bool _ => show kitB "bool" "tuple" = some false by decide +kernel
  | .int _ => show kitB "int" "tuple" = some false by decide +kernel
  | .str _ => show kitB "str" "tuple" = some false by decide +kernel
  | .list _ => show kitB "list" "tuple" = some false by decide +kernel
  | .tuple _ => show kitB "tuple" "tuple" = some true by decide +kernel
  | .dict _ => show kitB "dict" "tuple" = some false by decide +kernel
theorem Dv.int_or {K : PySem.W.Frag} {F : Addr → Prop} {H : Hp} {v : V} {d : PyData} (h : Dv F H v d) : (∃ n, v = .int n ∧ d = .int n) ∨ (NoInt K H v ∧ ∀ n, d ≠ .int n) := by
  cases h with
  | non => exact .inr ⟨.inr ⟨_, .base .non, by decide +kernel⟩, fun n z => by cases z⟩
  | bl b => exact .inr ⟨.inl ⟨b, rfl⟩, fun n z => by cases z⟩
  | int i => exact .inl ⟨i, rfl, rfl⟩
  | str x => exact .inr ⟨.inr ⟨_, .base (.str x), by decide +kernel⟩, fun n z => by cases z⟩
  | lst f e r => exact .inr ⟨.inr ⟨_, .base (.lst e), by decide +kernel⟩, fun n z => by cases z⟩
  | tup f e r => exact .inr ⟨.inr ⟨_, .base (.tup e), by decide +kernel⟩, fun n z => by cases z⟩
  | dct0 f e => exact .inr ⟨.inr ⟨_, .base (.dK e), by decide +kernel⟩, fun n z => by cases z⟩
/-! ### literals -/
theorem PE.imp {X : Cx} {e : Expr} {t t' : TE} (h : PE X e t) (f : ∀ σ H Q, t' σ H Q → t σ H Q) : PE X e t' := ⟨fun pins s σ H Q I q => h.run pins s σ H Q I (f _ _ _ q)⟩
theorem PA.imp {X : Cx} {es : List Expr} {t t' : TA} (h : PA X es t) (f : ∀ σ H Q, t' σ H Q → t σ H Q) : PA X es t' := ⟨fun pos pins s σ H Q I q => h.run pos pins s σ H Q I (f _ _ _ q)⟩
mutual
def litD : Expr → Option PyData
  | .Constant (.int i) _ _ => some (.int i)
  | .Constant (.str x) _ _ => some (.str x)
  | .Constant (.bool b) _ _ => some (.bool b)
  | .Constant .none _ _ => some .none
  | .UnaryOp .USub (.Constant (.int i) _ _) _ => some (.int (-i))
  | .BinOp (.Constant (.int i) _ _) .Pow (.Constant (.int j) _ _) _ => if 0 ≤ j ∧ j ≤ 1000 ∧ i.natAbs ≤ 1000 then some (.int (i ^ j.toNat)) else none
  | .BinOp (.Tuple es _ _) .Mult (.Constant (.int k) _ _) _ => if es.length ≤ 1000 ∧ 2 ≤ k ∧ k ≤ 1000 ∧ es ≠ [] then (litDs es).map fun ds => .tuple (List.replicate k.toNat ds).flatten else none
  | .List es _ => if es.length ≤ 1000 then (litDs es).map .list else none
  | .Tuple es _ _ => if es.length ≤ 1000 then (litDs es).map .tuple else none
  | .Dict [] [] _ => some (.dict [])
  | _ => none
def litDs : List Expr → Option (List PyData)
  | [] => some []
  | e :: es => match litD e with
    | some d => (litDs es).map (d :: ·)
    | none => none
end
def tLit (d : PyData) : TE := fun _ H Q => ∀ v H', Same H H' → Dv (fun a => H a = none) H' v d → Q v H'
def tLits (ds : List PyData) : TA := fun _ H Q => ∀ vs H', Same H H' → DvAll (fun a => H a = none) H' vs ds → Q vs H'
theorem fresh_same {H H1 : Hp} (s : Same H H1) {a : Addr} (h : H1 a = none) : H a = none := by
  rcases e : H a with _ | o
  · rfl
  · rw [s a o e] at h
    cases h
theorem litD_starred {e : Expr} {p : Pos} : litD (.Starred e p) = none := rfl
theorem lit_star {X : Cx} {e : Expr} {es : List Expr} {d : PyData} (h : litD e = some d) : starEach (e :: es) X.env = (false, eval e X.env) :: starEach es X.env := by
  cases e with
  | Starred e p => cases h
  | _ => rfl
set_option maxHeartbeats 1000000 in
mutual
theorem pe_lit {X : Cx} : ∀ (e : Expr) (d : PyData), litD e = some d → PE X e (tLit d)
  | .Constant c j p, d, h => by
    cases c with
    | int i =>
      cases h
      exact PE.imp pe_int fun σ H Q q => q _ H (Same.refl H) (.int i)
    | str x =>
      cases h
      exact PE.imp pe_str fun σ H Q q => q _ H (Same.refl H) (.str x)
    | bool b =>
      cases h
      exact PE.imp pe_bl fun σ H Q q => q _ H (Same.refl H) (.bl b)
    | none =>
      cases h
      exact PE.imp pe_non fun σ H Q q => q _ H (Same.refl H) .non
    | _ => cases h
  | .UnaryOp op a p, d, h => by
    cases op with
    | USub =>
      cases a with
      | Constant c j p2 =>
        cases c with
        | int i =>
          cases h
          exact PE.imp (pe_un un_neg pe_int) fun σ H Q q => ⟨_, rfl, q _ H (Same.refl H) (.int _)⟩
        | _ => cases h
      | _ => cases h
    | _ => cases h
  | .BinOp (.Constant c j p2) op b p, d, h => by
    cases c with
    | int i =>
      cases op with
      | Pow =>
        cases b with
        | Constant c2 j2 p3 =>
          cases c2 with
          | int k =>
            rw [litD] at h
            split at h
            · rename_i g
              cases h
              exact PE.imp (pe_op op_pow pe_int pe_int) fun σ H Q q => ⟨i, k, rfl, rfl, ⟨g.1, by omega, by omega⟩, q _ H (Same.refl H) (.int _)⟩
            · cases h
          | _ => cases h
        | _ => cases h
      | _ => cases h
    | _ => cases h
  | .BinOp (.Tuple es x tp) op b p, d, h => by
    cases op with
    | Mult =>
      cases b with
      | Constant c2 j2 p3 =>
        cases c2 with
        | int k =>
          rw [litD] at h
          split at h
          · rename_i g
            rcases e : litDs es with _ | ds
            · rw [e] at h
              cases h
            · rw [e] at h
              cases h
              refine PE.imp (pe_op op_repN (pe_tup (pa_lit es ds e)) pe_int) fun σ H Q q vs H1 s r => ?_
              have l := r.len
              have l2 := litDs_len es ds e
              refine ⟨by have := small1000 (show vs.length ≤ 1000 by omega); omega, fun a na => ?_⟩
              have s2 : Same H1 (upd H1 a (.tup vs)) := sameUpd na
              refine ⟨a, k, vs, rfl, rfl, .inl (.inl upd_same), fun z => ?_, by omega, by omega, by omega, fun z => by omega, fun _ p np => ?_⟩
              · rw [z] at l
                exact g.2.2.2 (List.length_eq_zero_iff.mp (by rw [← l2, ← l]; rfl))
              · have s3 : Same (upd H1 a (.tup vs)) (upd (upd H1 a (.tup vs)) p (.tup (List.replicate k.toNat vs).flatten)) := sameUpd np
                exact q _ _ ((s.trans s2).trans s3) (.tup (fresh_same (s.trans s2) np) upd_same (DvAll.rep (DvAll.same (DvAll.same r s2) s3) _))
          · cases h
        | _ => cases h
      | _ => cases h
    | _ => cases h
  | .List es p, d, h => by
    rw [litD] at h
    split at h
    · rename_i g
      rcases e : litDs es with _ | ds
      · rw [e] at h
        cases h
      · rw [e] at h
        cases h
        refine PE.imp (pe_lst (pa_lit es ds e)) fun σ H Q q vs H1 s r => ?_
        have l := r.len
        have l2 := litDs_len es ds e
        refine ⟨by have := small1000 (show vs.length ≤ 1000 by omega); omega, fun a na => ?_⟩
        have s2 : Same H1 (upd H1 a (.lst vs)) := sameUpd na
        refine q _ _ (s.trans s2) (.lst (fresh_same s na) upd_same (DvAll.same r s2))
    · cases h
  | .Tuple es x p, d, h => by
    rw [litD] at h
    split at h
    · rename_i g
      rcases e : litDs es with _ | ds
      · rw [e] at h
        cases h
      · rw [e] at h
        cases h
        refine PE.imp (pe_tup (pa_lit es ds e)) fun σ H Q q vs H1 s r => ?_
        have l := r.len
        have l2 := litDs_len es ds e
        refine ⟨by have := small1000 (show vs.length ≤ 1000 by omega); omega, fun a na => ?_⟩
        have s2 : Same H1 (upd H1 a (.tup vs)) := sameUpd na
        refine q _ _ (s.trans s2) (.tup (fresh_same s na) upd_same (DvAll.same r s2))
    · cases h
  | .Dict ks vs p, d, h => by
    cases ks with
    | nil =>
      cases vs with
      | nil =>
        cases h
        exact PE.imp pe_dnewK fun σ H Q q a na => q _ _ (sameUpd na) (.dct0 na upd_same)
      | cons _ _ => cases h
    | cons _ _ => cases h
  | .BinOp (.BoolOp ..) _ _ _, _, h => by cases h
  | .BinOp (.NamedExpr ..) _ _ _, _, h => by cases h
  | .BinOp (.BinOp ..) _ _ _, _, h => by cases h
  | .BinOp (.UnaryOp ..) _ _ _, _, h => by cases h
  | .BinOp (.Lambda ..) _ _ _, _, h => by cases h
  | .BinOp (.IfExp ..) _ _ _, _, h => by cases h
  | .BinOp (.Dict ..) _ _ _, _, h => by cases h
  | .BinOp (.Set ..) _ _ _, _, h => by cases h
  | .BinOp (.ListComp ..) _ _ _, _, h => by cases h
  | .BinOp (.SetComp ..) _ _ _, _, h => by cases h
  | .BinOp (.DictComp ..) _ _ _, _, h => by cases h
  | .BinOp (.GeneratorExp ..) _ _ _, _, h => by cases h
  | .BinOp (.Await ..) _ _ _, _, h => by cases h
  | .BinOp (.Yield ..) _ _ _, _, h => by cases h
  | .BinOp (.YieldFrom ..) _ _ _, _, h => by cases h
  | .BinOp (.Compare ..) _ _ _, _, h => by cases h
  | .BinOp (.Call ..) _ _ _, _, h => by cases h
  | .BinOp (.FormattedValue ..) _ _ _, _, h => by cases h
  | .BinOp (.JoinedStr ..) _ _ _, _, h => by cases h
  | .BinOp (.Attribute ..) _ _ _, _, h => by cases h
  | .BinOp (.Subscript ..) _ _ _, _, h => by cases h
  | .BinOp (.Starred ..) _ _ _, _, h => by cases h
  | .BinOp (.Name ..) _ _ _, _, h => by cases h
  | .BinOp (.List ..) _ _ _, _, h => by cases h
  | .BinOp (.Slice ..) _ _ _, _, h => by cases h
  | .BoolOp .., _, h => by cases h
  | .NamedExpr .., _, h => by cases h
  | .Lambda .., _, h => by cases h
  | .IfExp .., _, h => by cases h
  | .Set .., _, h => by cases h
  | .ListComp .., _, h => by cases h
  | .SetComp .., _, h => by cases h
  | .DictComp .., _, h => by cases h
  | .GeneratorExp .., _, h => by cases h
  | .Await .., _, h => by cases h
  | .Yield .., _, h => by cases h
  | .YieldFrom .., _, h => by cases h
  | .Compare .., _, h => by cases h
  | .Call .., _, h => by cases h
  | .FormattedValue .., _, h => by cases h
  | .JoinedStr .., _, h => by cases h
  | .Attribute .., _, h => by cases h
  | .Subscript .., _, h => by cases h
  | .Starred .., _, h => by cases h
  | .Name .., _, h => by cases h
  | .Slice .., _, h => by cases h
theorem pa_lit {X : Cx} : ∀ (es : List Expr) (ds : List PyData), litDs es = some ds → PA X es (tLits ds)
  | [], ds, h => by
    cases h
    exact PA.imp pa_nil fun σ H Q q => q _ H (Same.refl H) .nil
  | e :: es, ds, h => by
    rw [litDs] at h
    rcases he : litD e with _ | d
    · rw [he] at h
      cases h
    · rw [he] at h
      rcases hes : litDs es with _ | ds2
      · rw [hes] at h
        cases h
      · rw [hes] at h
        cases h
        refine PA.imp (pa_cons (pe_lit e d he) (pa_lit es ds2 hes) (lit_star he)) fun σ H Q q => ?_
        refine fun v H1 s1 r1 vs H2 s2 r2 => q _ _ (s1.trans s2) (.cons (r1.same s2) (DvAll.move (fun _ _ f _ => fresh_same s1 f) (fun _ _ _ _ e => e) ds2 vs r2))
theorem litDs_len : ∀ (es : List Expr) (ds : List PyData), litDs es = some ds → ds.length = es.length
  | [], ds, h => by
    cases h
    rfl
  | e :: es, ds, h => by
    rw [litDs] at h
    rcases he : litD e with _ | d
    · rw [he] at h
      cases h
    · rw [he] at h
      rcases hes : litDs es with _ | ds2
      · rw [hes] at h
        cases h
      · rw [hes] at h
        cases h
        rw [List.length_cons, List.length_cons, litDs_len es ds2 hes]
end
/-! ### what is answered of them -/
def toI : PyData → Int
  | .int n => n
  | _ => 0
def inD (many : Int) : PyData → Bool
  | .int n => inOk 0 (many - 1) n
  | _ => false
def intD : PyData → Bool
  | .int n => intOk n
  | _ => false
/-- a row -/
def rowB (many : Int) : PyData → Bool
  | .tuple ds => ds.all (inD many) && ascI (ds.map toI)
  | _ => false
def rowsB : PyData → Bool
  | .tuple ds => decide (1 ≤ ds.length) && (decide (ds.length ≤ 256) && ds.all (rowB ds.length))
  | _ => false
theorem inOk_iff {many n : Int} (h : inOk 0 (many - 1) n = true) : 0 ≤ n ∧ n < many := by
  unfold inOk at h
  simp only [Bool.and_eq_true, decide_eq_true_eq] at h
  omega
theorem DvAll.ints {F : Addr → Prop} {H : Hp} {many : Int} : ∀ {vs : List V} {ds : List PyData}, DvAll F H vs ds → ds.all (inD many) = true → vs = (ds.map toI).map V.int ∧ ∀ n ∈ ds.map toI, 0 ≤ n ∧ n < many
  | [], _, h, _ => by
    cases h
    exact ⟨rfl, fun n z => absurd z List.not_mem_nil⟩
  | v :: vs, _, h, g => by
    cases h with
    | @cons _ _ d ds h1 h2 =>
      rw [List.all_cons, Bool.and_eq_true] at g
      obtain ⟨e, r⟩ := h2.ints g.2
      cases d with
      | int n =>
        cases h1
        refine ⟨by rw [e]; rfl, fun m hm => ?_⟩
        rw [List.map_cons] at hm
        rcases List.mem_cons.mp hm with rfl | hm
        · exact inOk_iff g.1
        · exact r m hm
      | _ => cases g.1
theorem DvAll.intsOk {F : Addr → Prop} {H : Hp} : ∀ {vs : List V} {ds : List PyData}, DvAll F H vs ds → ds.all intD = true → vs = (ds.map toI).map V.int ∧ ∀ n ∈ ds.map toI, intOk n = true
  | [], _, h, _ => by
    cases h
    exact ⟨rfl, fun n z => absurd z List.not_mem_nil⟩
  | v :: vs, _, h, g => by
    cases h with
    | @cons _ _ d ds h1 h2 =>
      rw [List.all_cons, Bool.and_eq_true] at g
      obtain ⟨e, r⟩ := h2.intsOk g.2
      cases d with
      | int n =>
        cases h1
        refine ⟨by rw [e]; rfl, fun m hm => ?_⟩
        rw [List.map_cons] at hm
        rcases List.mem_cons.mp hm with rfl | hm
        · exact g.1
        · exact r m hm
      | _ => cases g.1
theorem DvAll.items {K : PySem.W.Frag} {F : Addr → Prop} {H : Hp} : ∀ {vs : List V} {ds : List PyData}, DvAll F H vs ds → ∀ x ∈ vs, (∃ n, x = .int n) ∨ NoInt K H x
  | [], _, _, x, hx => absurd hx List.not_mem_nil
  | v :: vs, _, h, x, hx => by
    cases h with
    | cons h1 h2 =>
      rcases List.mem_cons.mp hx with rfl | hx
      · rcases h1.int_or (K := K) with ⟨n, e, _⟩ | ⟨no, _⟩
        · exact .inl ⟨n, e⟩
        · exact .inr no
      · exact h2.items x hx
theorem Dv.inM {F : Addr → Prop} {H : Hp} {many : Int} {v : V} {d : PyData} (h : Dv F H v d) : inM many v = inD many d := by
  cases h <;> rfl
theorem Dv.inI {F : Addr → Prop} {H : Hp} {v : V} {d : PyData} (h : Dv F H v d) : inI v = intD d := by
  cases h <;> rfl
theorem DvAll.bad {F : Addr → Prop} {H : Hp} {many : Int} : ∀ {vs : List V} {ds : List PyData}, DvAll F H vs ds → ds.all (inD many) = false → ∃ x ∈ vs, GG.inM many x = false
  | [], _, h, g => by
    cases h
    cases g
  | v :: vs, _, h, g => by
    cases h with
    | @cons _ _ d ds h1 h2 =>
      rw [List.all_cons] at g
      rcases e : inD many d with _ | _
      · exact ⟨v, List.mem_cons_self, by rw [h1.inM, e]⟩
      · rw [e, Bool.true_and] at g
        obtain ⟨x, hx, q⟩ := h2.bad g
        exact ⟨x, List.mem_cons_of_mem _ hx, q⟩
theorem DvAll.badI {F : Addr → Prop} {H : Hp} : ∀ {vs : List V} {ds : List PyData}, DvAll F H vs ds → ds.all intD = false → ∃ x ∈ vs, GG.inI x = false
  | [], _, h, g => by
    cases h
    cases g
  | v :: vs, _, h, g => by
    cases h with
    | @cons _ _ d ds h1 h2 =>
      rw [List.all_cons] at g
      rcases e : intD d with _ | _
      · exact ⟨v, List.mem_cons_self, by rw [h1.inI, e]⟩
      · rw [e, Bool.true_and] at g
        obtain ⟨x, hx, q⟩ := h2.badI g
        exact ⟨x, List.mem_cons_of_mem _ hx, q⟩
end GG

set_option maxHeartbeats 4000000
/-! ### rules whose readings name the outer K: for blocks and suites -/
namespace GG
open PySem PySem.Spec PyProof.Rows L2
section
variable {X : Cx} {K : PySem.W.Frag}
theorem tupleK (h : X.K = K) : CallR X (.type "tuple") (fun xs H Q => ∃ p ys, xs = [V.ref p] ∧ ((SqL K H p ys ∧ ∀ l, H l = none → Q (.ref l) (upd H l (.tup ys))) ∨ SqT K H p ys ∧ Q (.ref p) H)) := by
  subst h
  exact call_tuple_of
theorem listK (h : X.K = K) : CallR X (.type "list") (fun xs H Q => ∃ p ys, xs = [V.ref p] ∧ (SqL K H p ys ∨ SqT K H p ys) ∧ ∀ l, H l = none → Q (.ref l) (upd H l (.lst ys))) := by
  subst h
  exact call_list_of
theorem sortedK (h : X.K = K) : CallR X (.builtin "sorted") (rSortedI K) := by
  subst h
  exact cr_sortedI
theorem catK (h : X.K = K) : OpR X (binaryOp .Add) (rCatN K) := by
  subst h
  exact op_catN
theorem slK (h : X.K = K) : SlR X (rSlN K) := by
  subst h
  exact sl_tupN
theorem inSeqK (h : X.K = K) : OpR X (compareOp .In) (rIn K false) := by
  subst h
  exact op_in_seq
theorem notInSeqK (h : X.K = K) : OpR X (compareOp .NotIn) (rIn K true) := by
  subst h
  exact op_notIn_seq
theorem ixTupK (h : X.K = K) : IxR X (fun x y H Q => ∃ a xs i v, x = .ref a ∧ y = .int i ∧ SqT K H a xs ∧ atI xs i = some v ∧ Q v H) := by
  subst h
  exact ix_tup
theorem ixLstK (h : X.K = K) : IxR X (fun x y H Q => ∃ a xs i v, x = .ref a ∧ y = .int i ∧ SqL K H a xs ∧ atI xs i = some v ∧ Q v H) := by
  subst h
  exact ix_list
end
/-- sorted, told of natural numbers that are so already -/
theorem sorted_nats {ns' : List Int} {xs : List Nat} (p : ns'.Perm (xs.map fun k : Nat => (k : Int))) (s : ns'.Pairwise (· ≤ ·)) (h : xs.Pairwise (· < ·)) : ns' = xs.map fun k : Nat => (k : Int) := by
  refine List.Perm.eq_of_pairwise (fun x y _ _ h1 h2 => Int.le_antisymm h1 h2) s ?_ p
  rw [List.pairwise_map]
  exact h.imp fun h => by omega
end GG

/-! Terms: letters and `*` with two terms behind it; pure mathematics. -/
namespace MT
inductive Trm where
  | let_ (c : Nat)
  | mul (l r : Trm)
deriving DecidableEq, Inhabited
open Trm
def isL (c : Nat) : Bool := decide (97 ≤ c ∧ c ≤ 122)
def flat : Trm → List Nat
  | let_ c => [c]
  | mul l r => 42 :: (flat l ++ flat r)
def size : Trm → Nat
  | let_ _ => 1
  | mul l r => size l + size r
def Ok : Trm → Prop
  | let_ c => isL c = true
  | mul l r => Ok l ∧ Ok r
instance okDec : ∀ t, Decidable (Ok t)
  | let_ c => inferInstanceAs (Decidable (isL c = true))
  | mul l r => @instDecidableAnd _ _ (okDec l) (okDec r)
theorem size_pos : ∀ t, 1 ≤ size t
  | let_ _ => Nat.le_refl _
  | mul l r => by have := size_pos l; rw [size]; omega
theorem flat_len : ∀ t, (flat t).length + 1 = 2 * size t
  | let_ _ => rfl
  | mul l r => by
    have a := flat_len l
    have b := flat_len r
    rw [flat, size, List.length_cons, List.length_append]
    omega
theorem flat_pos (t : Trm) : 1 ≤ (flat t).length := by
  have := flat_len t
  have := size_pos t
  omega
theorem flat_ne (t : Trm) : flat t ≠ [] := fun h => by
  have := flat_pos t
  rw [h] at this
  cases this
theorem isL_ne {c : Nat} (h : isL c = true) : c ≠ 42 := by
  intro e
  subst e
  exact absurd h (by decide)
/-! ### the forward scan -/
def scan : List Nat → Nat → Bool
  | [], m => m == 0
  | _ :: _, 0 => false
  | c :: cs, m + 1 => if c = 42 then scan cs (m + 2) else if isL c then scan cs m else false
theorem scan_flat : ∀ (t : Trm) (cs : List Nat) (m : Nat), Ok t → scan (flat t ++ cs) (m + 1) = scan cs m
  | let_ c, cs, m, h => by
    have h' : isL c = true := h
    show scan (c :: cs) (m + 1) = _
    rw [scan, if_neg (isL_ne h'), if_pos h']
  | mul l r, cs, m, h => by
    show scan (42 :: (flat l ++ flat r ++ cs)) (m + 1) = _
    rw [scan, if_pos rfl, List.append_assoc, scan_flat l _ _ h.1, scan_flat r _ _ h.2]
/-- a right scan is that of so many terms -/
theorem scan_terms : ∀ (cs : List Nat) (m : Nat), scan cs m = true → ∃ ts : List Trm, ts.length = m ∧ (ts.map flat).flatten = cs ∧ ∀ t ∈ ts, Ok t
  | [], m, h => by
    have : m = 0 := by simpa [scan] using h
    subst this
    exact ⟨[], rfl, rfl, fun _ h => by cases h⟩
  | c :: cs, 0, h => by simp [scan] at h
  | c :: cs, m + 1, h => by
    rw [scan] at h
    by_cases e : c = 42
    · rw [if_pos e] at h
      obtain ⟨ts, hl, hf, ho⟩ := scan_terms cs (m + 2) h
      match ts, hl with
      | l :: r :: ts, hl =>
        refine ⟨mul l r :: ts, by simpa using hl, ?_, ?_⟩
        · subst e
          rw [← hf]
          simp [flat]
        · intro t ht
          rcases List.mem_cons.mp ht with rfl | ht
          · exact ⟨ho l (by simp), ho r (by simp)⟩
          · exact ho t (by simp [ht])
    · rw [if_neg e] at h
      by_cases f : isL c = true
      · rw [if_pos f] at h
        obtain ⟨ts, hl, hf, ho⟩ := scan_terms cs m h
        refine ⟨let_ c :: ts, by simp [hl], ?_, ?_⟩
        · rw [← hf]
          simp [flat]
        · intro t ht
          rcases List.mem_cons.mp ht with rfl | ht
          · exact f
          · exact ho t ht
      · rw [if_neg f] at h
        cases h
theorem scan_one {cs : List Nat} (h : scan cs 1 = true) : ∃ t, flat t = cs ∧ Ok t := by
  obtain ⟨ts, hl, hf, ho⟩ := scan_terms cs 1 h
  match ts, hl with
  | [t], _ => exact ⟨t, by simpa using hf, ho t (by simp)⟩
theorem scan_term {t : Trm} (h : Ok t) : scan (flat t) 1 = true := by
  have := scan_flat t [] 0 h
  rw [List.append_nil] at this
  rw [this]
  rfl
/-- a term is told by its text -/
theorem flat_inj' : ∀ (t u : Trm) (as bs : List Nat), Ok t → Ok u → flat t ++ as = flat u ++ bs → t = u ∧ as = bs
  | let_ c, let_ d, as, bs, _, _, h => by
    have : c :: as = d :: bs := h
    cases this
    exact ⟨rfl, rfl⟩
  | let_ c, mul l r, as, bs, h1, _, h => by
    have e : c :: as = 42 :: (flat l ++ flat r ++ bs) := h
    cases e
    exact absurd (show isL 42 = true from h1) (by decide)
  | mul l r, let_ c, as, bs, _, h2, h => by
    have e : 42 :: (flat l ++ flat r ++ as) = c :: bs := h
    cases e
    exact absurd (show isL 42 = true from h2) (by decide)
  | mul l r, mul l' r', as, bs, h1, h2, h => by
    have e : 42 :: (flat l ++ flat r ++ as) = 42 :: (flat l' ++ flat r' ++ bs) := h
    have e2 : flat l ++ (flat r ++ as) = flat l' ++ (flat r' ++ bs) := by
      have := List.cons.inj e |>.2
      simpa using this
    obtain ⟨rfl, e3⟩ := flat_inj' l l' _ _ h1.1 h2.1 e2
    obtain ⟨rfl, e4⟩ := flat_inj' r r' _ _ h1.2 h2.2 e3
    exact ⟨rfl, e4⟩
theorem flat_inj {t u : Trm} (h1 : Ok t) (h2 : Ok u) (h : flat t = flat u) : t = u :=
  (flat_inj' t u [] [] h1 h2 (by rw [h])).1
/-! ### parts -/
def subs : Trm → List Trm
  | let_ c => [let_ c]
  | mul l r => mul l r :: (subs l ++ subs r)
theorem subs_len : ∀ t, (subs t).length = (flat t).length
  | let_ _ => rfl
  | mul l r => by rw [subs, flat, List.length_cons, List.length_cons, List.length_append, List.length_append, subs_len l, subs_len r]
theorem subs_ok : ∀ (t : Trm), Ok t → ∀ u ∈ subs t, Ok u
  | let_ c, h, u, hu => by
    have : u = let_ c := by simpa [subs] using hu
    rw [this]
    exact h
  | mul l r, h, u, hu => by
    rcases List.mem_cons.mp hu with rfl | hu
    · exact h
    · rcases List.mem_append.mp hu with hu | hu
      · exact subs_ok l h.1 u hu
      · exact subs_ok r h.2 u hu
/-- the part that begins at i, what stands ahead and behind, and another term in its place -/
theorem ctx : ∀ (t : Trm) (i : Nat), i < (flat t).length → ∃ u pre post, (subs t)[i]? = some u ∧ pre.length = i ∧ flat t = pre ++ (flat u ++ post) ∧
    ∀ v, ∃ t', flat t' = pre ++ (flat v ++ post) ∧ size t' + size u = size t + size v ∧ (Ok t → Ok v → Ok t')
  | let_ c, i, h => by
    have : i = 0 := by simpa [flat] using h
    subst this
    exact ⟨let_ c, [], [], rfl, rfl, rfl, fun v => ⟨v, by simp, by rw [Nat.add_comm], fun _ h => h⟩⟩
  | mul l r, 0, _ => ⟨mul l r, [], [], rfl, rfl, by simp, fun v => ⟨v, by simp, by rw [Nat.add_comm], fun _ h => h⟩⟩
  | mul l r, i + 1, h => by
    have hl : i < (flat l).length + (flat r).length := by
      rw [flat, List.length_cons, List.length_append] at h
      omega
    by_cases hi : i < (flat l).length
    · obtain ⟨u, pre, post, h1, h2, h3, h4⟩ := ctx l i hi
      refine ⟨u, 42 :: pre, post ++ flat r, ?_, by simp [h2], ?_, fun v => ?_⟩
      · show (subs l ++ subs r)[i]? = _
        rw [List.getElem?_append_left (by rw [subs_len]; exact hi), h1]
      · rw [flat, h3]
        simp
      · obtain ⟨t', e1, e2, e3⟩ := h4 v
        refine ⟨mul t' r, ?_, ?_, fun a b => ⟨e3 a.1 b, a.2⟩⟩
        · rw [flat, e1]
          simp
        · rw [size, size]
          omega
    · obtain ⟨u, pre, post, h1, h2, h3, h4⟩ := ctx r (i - (flat l).length) (by omega)
      refine ⟨u, 42 :: (flat l ++ pre), post, ?_, by simp [h2]; omega, ?_, fun v => ?_⟩
      · show (subs l ++ subs r)[i]? = _
        rw [List.getElem?_append_right (by rw [subs_len]; omega), subs_len, h1]
      · rw [flat, h3]
        simp
      · obtain ⟨t', e1, e2, e3⟩ := h4 v
        refine ⟨mul l t', ?_, ?_, fun a b => ⟨a.1, e3 a.2 b⟩⟩
        · rw [flat, e1]
          simp
        · rw [size, size]
          omega
/-! ### how far the first part goes -/
def cut : List Nat → Nat → Nat
  | [], _ => 0
  | _ :: _, 0 => 0
  | c :: cs, w + 1 => 1 + cut cs (if c = 42 then w + 2 else w)
theorem cut0 : ∀ cs, cut cs 0 = 0
  | [] => rfl
  | _ :: _ => rfl
theorem cut_flat : ∀ (t : Trm) (cs : List Nat) (w : Nat), Ok t → cut (flat t ++ cs) (w + 1) = (flat t).length + cut cs w
  | let_ c, cs, w, h => by
    have h' : isL c = true := h
    show cut (c :: cs) (w + 1) = _
    rw [cut, if_neg (isL_ne h')]
    rfl
  | mul l r, cs, w, h => by
    show cut (42 :: (flat l ++ flat r ++ cs)) (w + 1) = _
    rw [cut, if_pos rfl, List.append_assoc, cut_flat l _ _ h.1, cut_flat r _ _ h.2, flat, List.length_cons, List.length_append]
    omega
/-! ### reading from the end with a stack -/
/-- from the stack ts, the text rs (backwards) leads to fin by way of the heads hs -/
inductive Run : List Nat → List Trm → List Trm → List Trm → Prop
  | nil (ts : List Trm) : Run [] ts [] ts
  | star {rs : List Nat} {ts hs fin : List Trm} {l r : Trm} : Run rs (mul l r :: ts) hs fin → Run (42 :: rs) (l :: r :: ts) (mul l r :: hs) fin
  | letr {rs : List Nat} {ts hs fin : List Trm} {c : Nat} : isL c = true → Run rs (let_ c :: ts) hs fin → Run (c :: rs) ts (let_ c :: hs) fin
theorem run_flat : ∀ (t : Trm) {rs : List Nat} {ts hs fin : List Trm}, Ok t → Run rs (t :: ts) hs fin → Run ((flat t).reverse ++ rs) ts ((subs t).reverse ++ hs) fin
  | let_ c, rs, ts, hs, fin, h, R => .letr h R
  | mul l r, rs, ts, hs, fin, h, R => by
    have R1 : Run (42 :: rs) (l :: r :: ts) (mul l r :: hs) fin := .star R
    have R2 := run_flat l h.1 R1
    have R3 := run_flat r h.2 R2
    have e1 : (flat (mul l r)).reverse ++ rs = (flat r).reverse ++ ((flat l).reverse ++ 42 :: rs) := by simp [flat]
    have e2 : (subs (mul l r)).reverse ++ hs = (subs r).reverse ++ ((subs l).reverse ++ mul l r :: hs) := by simp [subs]
    rw [e1, e2]
    exact R3
theorem run_term {t : Trm} (h : Ok t) : Run (flat t).reverse [] (subs t).reverse [t] := by
  have := run_flat t (ts := []) h (.nil [t])
  rw [List.append_nil, List.append_nil] at this
  exact this
/-! ### the three rules -/
def r1 : Trm → Trm → List (Nat × Trm)
  | mul _ b, mul b' _ => if flat b = flat b' then [(1, b)] else []
  | _, _ => []
def r2 : Trm → Trm → List (Nat × Trm)
  | l, mul (mul x y) _ => if flat x = flat l then [(2, mul x y)] else []
  | _, _ => []
def r3 : Trm → Trm → List (Nat × Trm)
  | mul _ (mul x y), r => if flat y = flat r then [(3, mul x y)] else []
  | _, _ => []
def rules : Trm → List (Nat × Trm)
  | let_ _ => []
  | mul l r => r1 l r ++ (r2 l r ++ r3 l r)
theorem ite_mem {α : Type} {p : Prop} [Decidable p] {x y : α} (h : x ∈ (if p then [y] else [])) : x = y := by
  by_cases e : p
  · rw [if_pos e] at h
    simpa using h
  · rw [if_neg e] at h
    cases h
theorem rules_ok {u : Trm} : ∀ kv ∈ rules u, (Ok u → Ok kv.2) ∧ size kv.2 < size u := by
  intro kv hk
  cases u with
  | let_ c => cases hk
  | mul l r =>
    have hl := size_pos l
    have hr := size_pos r
    rcases List.mem_append.mp hk with hk | hk
    · cases l with
      | let_ c => cases hk
      | mul a b =>
        cases r with
        | let_ c => cases hk
        | mul c d =>
          have e := ite_mem hk
          subst e
          refine ⟨fun h => h.1.2, ?_⟩
          show size b < size a + size b + (size c + size d)
          have := size_pos a
          omega
    · rcases List.mem_append.mp hk with hk | hk
      · cases r with
        | let_ c => cases l <;> cases hk
        | mul c d =>
          cases c with
          | let_ c => cases l <;> cases hk
          | mul x y =>
            have e : kv = (2, mul x y) := by cases l <;> exact ite_mem hk
            subst e
            refine ⟨fun h => h.2.1, ?_⟩
            show size (mul x y) < size l + (size (mul x y) + size d)
            omega
      · cases l with
        | let_ c => cases hk
        | mul c d =>
          cases d with
          | let_ c => cases hk
          | mul x y =>
            have e := ite_mem hk
            subst e
            refine ⟨fun h => h.1.2, ?_⟩
            show size (mul x y) < size c + size (mul x y) + size r
            omega
/-- the steps at the part u with the index i of a text cs -/
def stepsAt (cs : List Nat) (i : Nat) (u : Trm) : List (Nat × Nat × List Nat) :=
  (rules u).map fun kv => (i, kv.1, cs.take i ++ (flat kv.2 ++ cs.drop (i + (flat u).length)))
def stepsFrom (cs : List Nat) : Nat → List Trm → List (Nat × Nat × List Nat)
  | _, [] => []
  | i, u :: us => stepsAt cs i u ++ stepsFrom cs (i + 1) us
def steps (t : Trm) : List (Nat × Nat × List Nat) := stepsFrom (flat t) 0 (subs t)
theorem stepsFrom_mem {cs : List Nat} : ∀ (us : List Trm) (i : Nat) (s : Nat × Nat × List Nat), s ∈ stepsFrom cs i us → ∃ j u, us[j]? = some u ∧ s ∈ stepsAt cs (i + j) u
  | [], _, _, h => by cases h
  | u :: us, i, s, h => by
    rcases List.mem_append.mp h with h | h
    · exact ⟨0, u, rfl, h⟩
    · obtain ⟨j, v, h1, h2⟩ := stepsFrom_mem us (i + 1) s h
      exact ⟨j + 1, v, h1, by rw [show i + (j + 1) = i + 1 + j by omega]; exact h2⟩
theorem steps_ok {t : Trm} (h : Ok t) : ∀ s ∈ steps t, ∃ t', flat t' = s.2.2 ∧ Ok t' ∧ size t' < size t := by
  intro s hs
  obtain ⟨j, u, hj, hu⟩ := stepsFrom_mem _ _ _ hs
  obtain ⟨kv, hk, rfl⟩ := List.mem_map.mp hu
  have jl : j < (flat t).length := by
    rw [← subs_len]
    exact (List.getElem?_eq_some_iff.mp hj).1
  obtain ⟨u', pre, post, h1, h2, h3, h4⟩ := ctx t j jl
  have eu : u' = u := Option.some.inj (h1.symm.trans hj)
  subst eu
  have ou : Ok u' := subs_ok t h u' (List.mem_of_getElem? hj)
  obtain ⟨ov, sv⟩ := rules_ok kv hk
  have ov := ov ou
  obtain ⟨t', e1, e2, e3⟩ := h4 kv.2
  refine ⟨t', ?_, e3 h ov, by omega⟩
  rw [e1, h3, Nat.zero_add]
  show pre ++ (flat kv.2 ++ post) = (pre ++ (flat u' ++ post)).take j ++ (flat kv.2 ++ (pre ++ (flat u' ++ post)).drop (j + (flat u').length))
  rw [List.take_append_of_le_length (by omega), List.take_of_length_le (by omega), List.drop_append, ← h2, List.drop_of_length_le (by omega), List.nil_append,
    show pre.length + (flat u').length - pre.length = (flat u').length by omega, List.drop_append, List.drop_of_length_le (Nat.le_refl _), Nat.sub_self, List.drop_zero, List.nil_append]
/-! ### forms -/
def red (l r : Trm) : Trm := match rules (mul l r) with
  | [] => mul l r
  | kv :: _ => kv.2
def nf : Trm → Trm
  | let_ c => let_ c
  | mul l r => red (nf l) (nf r)
theorem red_size (l r : Trm) : size (red l r) ≤ size l + size r := by
  unfold red
  split
  · exact Nat.le_refl _
  · rename_i kv ks e
    have := (rules_ok kv (by rw [e]; simp)).2
    rw [size] at this
    omega
theorem red_ok {l r : Trm} (a : Ok l) (b : Ok r) : Ok (red l r) := by
  unfold red
  split
  · exact ⟨a, b⟩
  · rename_i kv ks e
    exact (rules_ok (u := mul l r) kv (by rw [e]; simp)).1 ⟨a, b⟩
theorem nf_size : ∀ t, size (nf t) ≤ size t
  | let_ _ => Nat.le_refl _
  | mul l r => by
    have a := nf_size l
    have b := nf_size r
    have c := red_size (nf l) (nf r)
    rw [nf, size]
    omega
theorem nf_ok : ∀ {t}, Ok t → Ok (nf t)
  | let_ _, h => h
  | mul l r, h => red_ok (nf_ok h.1) (nf_ok h.2)
/-- no step down -/
def Fm (t : Trm) : Prop := ∀ u ∈ subs t, rules u = []
theorem fm_mul {l r : Trm} : Fm (mul l r) ↔ rules (mul l r) = [] ∧ Fm l ∧ Fm r := by
  unfold Fm
  rw [subs]
  constructor
  · intro h
    exact ⟨h _ (by simp), fun u hu => h u (by simp [hu]), fun u hu => h u (by simp [hu])⟩
  · rintro ⟨a, b, c⟩ u hu
    rcases List.mem_cons.mp hu with rfl | hu
    · exact a
    · rcases List.mem_append.mp hu with hu | hu
      · exact b u hu
      · exact c u hu
theorem nf_of_fm : ∀ {t}, Fm t → nf t = t
  | let_ _, _ => rfl
  | mul l r, h => by
    obtain ⟨a, b, c⟩ := fm_mul.mp h
    rw [nf, nf_of_fm b, nf_of_fm c]
    unfold red
    rw [a]
theorem nf_or : ∀ t, Fm t ∨ size (nf t) < size t
  | let_ c => .inl fun u hu => by
    have : u = let_ c := by simpa [subs] using hu
    rw [this]
    rfl
  | mul l r => by
    have sl := nf_size l
    have sr := nf_size r
    have c := red_size (nf l) (nf r)
    rcases nf_or l with a | a
    · rcases nf_or r with b | b
      · rcases e : rules (mul l r) with _ | ⟨kv, ks⟩
        · exact .inl (fm_mul.mpr ⟨e, a, b⟩)
        · right
          rw [nf, nf_of_fm a, nf_of_fm b]
          unfold red
          rw [e]
          exact (rules_ok kv (by rw [e]; simp)).2
      · right
        rw [nf, size]
        omega
    · right
      rw [nf, size]
      omega
theorem nf_iff {t : Trm} : nf t = t ↔ Fm t := by
  constructor
  · intro h
    rcases nf_or t with a | a
    · exact a
    · rw [h] at a
      omega
  · exact nf_of_fm
theorem stepsFrom_nil {cs : List Nat} : ∀ (us : List Trm) (i : Nat), stepsFrom cs i us = [] ↔ ∀ u ∈ us, rules u = []
  | [], _ => ⟨fun _ _ h => (by cases h), fun _ => rfl⟩
  | u :: us, i => by
    rw [stepsFrom, List.append_eq_nil_iff, stepsFrom_nil us (i + 1), stepsAt, List.map_eq_nil_iff]
    simp
theorem steps_nil {t : Trm} : steps t = [] ↔ nf t = t := by
  rw [nf_iff]
  exact stepsFrom_nil _ _
end MT

set_option maxHeartbeats 8000000
/-! ### texts as lists of signs; backwards; lists of values told one by one -/
namespace GG
open PySem PySem.Spec PyProof.Rows L2
abbrev S (cs : List Nat) : Str := ⟨cs.toArray⟩
theorem S_len (cs : List Nat) : (S cs).length = cs.length := List.size_toArray
theorem S_add (a b : List Nat) : S a ++ S b = S (a ++ b) := by
  show Str.mk (a.toArray ++ b.toArray) = _
  rw [List.append_toArray]
theorem S_inj {a b : List Nat} (h : S a = S b) : a = b := by
  have := congrArg (fun z : Str => z.cps.toList) h
  exact this
theorem eqS (a b : List Nat) : decide (V.str (S a) = V.str (S b)) = decide (a = b) := by
  by_cases h : a = b
  · subst h
    simp
  · rw [decide_eq_false h, decide_eq_false]
    intro e
    exact h (S_inj (V.str.inj e))
def tRevS (te : TE) : TE := fun σ H Q => te σ H fun x H1 => ∃ cs, x = .str (S cs) ∧ cs.length ≤ sizeLine ∧ Q (.str (S cs.reverse)) H1
theorem revIx (n : Nat) : Builtin.Str.strSliceIndices none none (-1) n = (List.range n).reverse := by
  have e : Builtin.Str.strSliceIndices none none (-1) n = sliceRange ((n : Int) - 1) (-1) (-1) := by
    first
    | rfl
    | simp [Builtin.Str.strSliceIndices]
  rw [e, PySem.W.krv_sliceRange, PySem.W.krv_range]
theorem pe_revS {X : Cx} {e : Expr} {te : TE} {k : Nat} {p1 p2 p3 pos : Pos} (he : PE X e te) : PE X (.Subscript e (.Slice none none (some (.UnaryOp .USub (.Constant (.int 1) k p1) p2)) p3) pos) (tRevS te) := by
  refine ⟨fun pins s σ H Q I h => ?_⟩
  refine Subscript_ (thn (he.run pins s σ H _ I h) fun v s1 ⟨x, H1, I1, r1, q1⟩ => ?_)
  obtain ⟨cs, ex, hx, q⟩ := q1
  subst ex
  obtain ⟨t, rfl⟩ := r1
  have hst : PO X (some (.UnaryOp .USub (.Constant (.int 1) k p1) p2)) (tPart (tUn (rU fun i => .int (-i)) (tC (.int 1)))) := po_some (pe_un un_neg pe_int)
  refine wpAny_Slice (thn (po_none.run pins s1 σ H1 (fun o H2 => o = none ∧ H2 = H1) I1 ⟨rfl, rfl⟩) fun vl s2 ⟨l, H2, I2, pl, el, e2⟩ => ?_)
  subst el e2
  refine thn (po_none.run pins s2 σ H2 (fun o H3 => o = none ∧ H3 = H2) I2 ⟨rfl, rfl⟩) fun vu s3 ⟨u, H3, I3, pu, eu, e3⟩ => ?_
  subst eu e3
  refine thn (hst.run pins s3 σ H3 (fun o H4 => o = some (-1) ∧ H4 = H3) I3 ⟨1, rfl, -1, rfl, rfl, rfl⟩) fun vs s4 ⟨o, H4, I4, ps, eo, e4⟩ => ?_
  subst eo e4
  have I5 : Inv X pins σ H4 { s4 with heap := s4.heap.push { cls := .type "slice", data := .fields #[vl, vu, vs] } } := I4.kept (t' := s4.toks) fun b ob q => Heap.get?_push_of_some _ q
  obtain ⟨l, rfl, hl0⟩ := IsPart.raw pl
  obtain ⟨u, rfl, hu0⟩ := IsPart.raw pu
  obtain ⟨st, rfl, hs0⟩ := IsPart.raw ps
  show wpAny (model X.prog X.w) X.A (subscriptTail e (.Slice none none (some (.UnaryOp .USub (.Constant (.int 1) k p1) p2)) p3) (.str (S cs) t) (.ref s4.heap.objs.size)) (EP X pins σ Q) X.xe { s4 with heap := s4.heap.push { cls := .type "slice", data := .fields #[partValue l, partValue u, partValue st] } }
  refine tail_any (ops := _) (typeIs_str _ _ _) (F.slot_str_getitem.lookup) ?_ (by with_unfolding_all rfl)
  have e1 : (st.map (·.1)).getD 1 = -1 := by rw [hs0]; rfl
  refine wpAny_getItem_str_slice (l := l) (u := u) (st := st) ⟨_, Heap.get?_push_size _ rfl, rfl, rfl⟩ (by rw [e1]; rfl) ?_
  unfold sliceMade slicePicked
  rw [e1, hl0, hu0, revIx]
  show Made.post (.str _) _ _
  have e2 : ((List.range (S cs).length).reverse.filterMap ((S cs).cps[·]?)).toArray = cs.reverse.toArray := by
    rw [List.filterMap_reverse]
    have := PySem.W.krv_all (S cs).cps
    rw [show (S cs).length = (S cs).cps.size from rfl, this]
  rw [e2]
  exact ⟨by rw [S_len, List.length_reverse]; exact hx, .str _, _, I5.tok _, ⟨_, rfl⟩, q⟩
/-! ### text * int -/
theorem fold_rep (cs : List Nat) : ∀ (n : Nat) (a : List Nat), (List.replicate n cs.toArray).foldl (· ++ ·) a.toArray = (a ++ (List.replicate n cs).flatten).toArray
  | 0, a => by simp
  | n + 1, a => by
    rw [List.replicate_succ, List.foldl_cons, List.append_toArray, fold_rep cs n (a ++ cs), List.replicate_succ, List.flatten_cons, List.append_assoc]
def rStrM : R2 := fun x y H Q => ∃ (cs : List Nat) (n : Int), x = .str (S cs) ∧ y = .int n ∧ 2 ≤ n ∧ n ≤ 1000 ∧ 1 ≤ cs.length ∧ cs.length ≤ 1000 ∧ Q (.str (S (List.replicate n.toNat cs).flatten)) H
theorem op_strM {X : Cx} : OpR X (binaryOp .Mult) rStrM := by
  intro pins s σ H x y v u Q I rx ry ⟨cs, n, ex, ey, n1, n2, c1, c2, q⟩
  subst ex ey
  obtain ⟨t, rfl⟩ := rx
  obtain ⟨t2, rfl⟩ := ry
  have hl := S_len cs
  have sl := sizeLine_eq
  have hle : (S cs).length * n.toNat ≤ 1000 * 1000 := by
    rw [hl]
    exact Nat.mul_le_mul c2 (by omega)
  have hq : (n == 1 || (S cs).length == 0) = false := by
    rw [Bool.or_eq_false_iff]
    exact ⟨by simpa using (show n ≠ 1 by omega), by rw [hl]; simpa using (show cs.length ≠ 0 by omega)⟩
  refine P.mul_str ?_ (fun _ _ => ?_) (fun _ _ => ?_) ?_
  · rw [decide_eq_false (by omega), decide_eq_false (by omega)]
    rfl
  · have h1 : (1000 : Int) ≤ (2 ^ 63 - 1) / n := (Int.le_ediv_iff_mul_le (by omega)).mpr (by omega)
    rw [hl]
    omega
  · unfold Builtin.Str.tooLong
    exact decide_eq_false (by omega)
  · rw [if_neg (by omega), hq, if_neg (by decide)]
    have e : (List.replicate n.toNat (S cs).cps).foldl (· ++ ·) #[] = (List.replicate n.toNat cs).flatten.toArray := by
      have := fold_rep cs n.toNat []
      rw [List.nil_append] at this
      exact this
    rw [e]
    refine ⟨?_, .str _, H, I.tok _, ⟨_, rfl⟩, q⟩
    show (S _).length ≤ _
    rw [S_len, List.length_flatten, List.map_replicate, List.sum_replicate_nat]
    rw [hl] at hle
    have := Nat.mul_comm cs.length n.toNat
    omega
/-! ### slices of a text -/
theorem cutS_S (cs : List Nat) (lo hi : Option Int) : cutS (S cs) lo hi = S ((cs.drop (HT.sIx cs.length 0 lo)).take (HT.sIx cs.length cs.length hi - HT.sIx cs.length 0 lo)) := by
  unfold cutS
  rw [S_len]
theorem cut_from {cs : List Nat} {a : Nat} (h : a ≤ cs.length) : cutS (S cs) (some (a : Int)) none = S (cs.drop a) := by
  rw [cutS_S, HT.sIx_nat, HT.sIx_none, Nat.min_eq_left h, List.take_of_length_le (by rw [List.length_drop]; exact Nat.le_refl _)]
theorem cut_to {cs : List Nat} {b : Nat} (h : b ≤ cs.length) : cutS (S cs) none (some (b : Int)) = S (cs.take b) := by
  rw [cutS_S, HT.sIx_nat, HT.sIx_none, Nat.min_eq_left h, List.drop_zero, Nat.sub_zero]
theorem cut_mid {cs : List Nat} {a b : Nat} (ha : a ≤ cs.length) (hb : b ≤ cs.length) : cutS (S cs) (some (a : Int)) (some (b : Int)) = S ((cs.drop a).take (b - a)) := by
  rw [cutS_S, HT.sIx_nat, HT.sIx_nat, Nat.min_eq_left ha, Nat.min_eq_left hb]
/-! ### lists of values told one by one -/
def All2 {α : Type} (R : α → V → Prop) : List α → List V → Prop
  | [], [] => True
  | x :: xs, v :: vs => R x v ∧ All2 R xs vs
  | _, _ => False
theorem All2.len {α : Type} {R : α → V → Prop} : ∀ {xs : List α} {vs : List V}, All2 R xs vs → xs.length = vs.length
  | [], [], _ => rfl
  | _ :: _, _ :: _, h => by rw [List.length_cons, List.length_cons, All2.len h.2]
  | [], _ :: _, h => h.elim
  | _ :: _, [], h => h.elim
theorem All2.imp {α : Type} {R R' : α → V → Prop} : ∀ {xs : List α} {vs : List V}, (∀ x ∈ xs, ∀ v, R x v → R' x v) → All2 R xs vs → All2 R' xs vs
  | [], [], _, _ => trivial
  | _ :: _, _ :: _, g, h => ⟨g _ (by simp) _ h.1, All2.imp (fun x hx => g x (by simp [hx])) h.2⟩
  | [], _ :: _, _, h => h.elim
  | _ :: _, [], _, h => h.elim
theorem All2.append {α : Type} {R : α → V → Prop} : ∀ {xs : List α} {vs : List V} {ys : List α} {us : List V}, All2 R xs vs → All2 R ys us → All2 R (xs ++ ys) (vs ++ us)
  | [], [], _, _, _, h => h
  | _ :: _, _ :: _, _, _, h, g => ⟨h.1, All2.append h.2 g⟩
  | [], _ :: _, _, _, h, _ => h.elim
  | _ :: _, [], _, _, h, _ => h.elim
theorem All2.snoc {α : Type} {R : α → V → Prop} {xs : List α} {vs : List V} {x : α} {v : V} (h : All2 R xs vs) (g : R x v) : All2 R (xs ++ [x]) (vs ++ [v]) := h.append ⟨g, trivial⟩
theorem All2.rev {α : Type} {R : α → V → Prop} : ∀ {xs : List α} {vs : List V}, All2 R xs vs → All2 R xs.reverse vs.reverse
  | [], [], _ => trivial
  | x :: xs, v :: vs, h => by
    rw [List.reverse_cons, List.reverse_cons]
    exact (All2.rev h.2).snoc h.1
  | [], _ :: _, h => h.elim
  | _ :: _, [], h => h.elim
theorem All2.get {α : Type} {R : α → V → Prop} : ∀ {xs : List α} {vs : List V}, All2 R xs vs → ∀ (i : Nat) (v : V), vs[i]? = some v → ∃ x, xs[i]? = some x ∧ R x v
  | [], [], _, i, v, h => by simp at h
  | x :: xs, u :: vs, h, 0, v, e => ⟨x, rfl, by
    have : u = v := by simpa using e
    rw [← this]
    exact h.1⟩
  | x :: xs, u :: vs, h, i + 1, v, e => by
    obtain ⟨y, h1, h2⟩ := All2.get h.2 i v (by simpa using e)
    exact ⟨y, by simpa using h1, h2⟩
  | [], _ :: _, h, _, _, _ => h.elim
  | _ :: _, [], h, _, _, _ => h.elim
theorem All2.get' {α : Type} {R : α → V → Prop} {xs : List α} {vs : List V} (h : All2 R xs vs) (i : Nat) (x : α) (e : xs[i]? = some x) : ∃ v, vs[i]? = some v ∧ R x v := by
  have hi := (List.getElem?_eq_some_iff.mp e).1
  have hl := h.len
  obtain ⟨y, h1, h2⟩ := h.get i (vs[i]'(by omega)) (List.getElem?_eq_getElem (by omega))
  rw [e] at h1
  cases h1
  exact ⟨_, List.getElem?_eq_getElem (by omega), h2⟩
end GG

set_option maxHeartbeats 8000000
/-! ### tuple[::-1] -/
namespace GG
open PySem PySem.Spec PyProof.Rows L2 HT
theorem adj_rev (n : Nat) : Builtin.Slice.sliceAdjust none none (-1) (n : Int) = ((n : Int) - 1, -1) := by
  first
  | rfl
  | simp [Builtin.Slice.sliceAdjust]
theorem plc_rev (n : Nat) : Builtin.Slice.slicePlaces ((n : Int) - 1) (-1) (-1) = n := by
  unfold Builtin.Slice.slicePlaces
  rw [if_neg (by decide)]
  by_cases h : n = 0
  · subst h
    decide
  · rw [if_pos (by omega), show (- -1 : Int) = 1 by decide, Int.ediv_one]
    omega
section
variable {prog : Program} {w : World} {A : Around} {E : Value → Shared → Prop} {s : Shared}
theorem sliceApplied_rev {sl : Addr} {vl vu vs : Value} {n : Nat} {Q : Int × Int × Nat → Shared → Prop} (hs : s.heap.IsSliceOf sl vl vu vs) (pl : IsPart vl none) (pu : IsPart vu none) (ps : IsPart vs (some (-1)))
    (h : Q ((n : Int) - 1, -1, n) s) : wpAny (model prog w) A (Builtin.Slice.sliceApplied (.ref sl) (pure (n : Int))) Q E s := by
  obtain ⟨os, hos, hcs, hds⟩ := id hs
  unfold Builtin.Slice.sliceApplied Builtin.Slice.sliceFields
  refine wpAny_bind (wpAny_bind (wpAny_field hos hds (x := vl) rfl (wpAny_bind (wpAny_field hos hds (x := vu) rfl (wpAny_bind (wpAny_field hos hds (x := vs) rfl (wpAny_pure ?_)))))))
  refine wpAny_bind (slicePart_ ps ?_)
  show wpAny _ _ (if ((-1 : Int) == 0) = true then _ else _) _ _ s
  rw [if_neg (by decide)]
  refine wpAny_bind (slicePart_ pl (wpAny_bind (slicePart_ pu (wpAny_bind (wpAny_pure ?_)))))
  show wpAny _ _ (match Builtin.Slice.sliceAdjust none none (-1) (n : Int) with | (lo, hi) => pure (lo, (-1 : Int), Builtin.Slice.slicePlaces lo hi (-1))) _ _ s
  rw [adj_rev n]
  show wpAny _ _ (pure ((n : Int) - 1, (-1 : Int), Builtin.Slice.slicePlaces ((n : Int) - 1) (-1) (-1))) _ _ s
  rw [plc_rev]
  exact wpAny_pure h
theorem pick_rev (xs : Array Value) : ((List.range xs.size).filterMap fun (m : Nat) => xs[((xs.size : Int) - 1 + (m : Int) * -1).toNat]?).toArray = xs.toList.reverse.toArray := by
  have e : (List.range xs.size).filterMap (fun (m : Nat) => xs[((xs.size : Int) - 1 + (m : Int) * -1).toNat]?) = ((List.range xs.size).map fun k => xs.size - 1 - k).filterMap (xs[·]?) := by
    rw [List.filterMap_map]
    have g : ∀ l : List Nat, (∀ m ∈ l, m < xs.size) → l.filterMap (fun (m : Nat) => xs[((xs.size : Int) - 1 + (m : Int) * -1).toNat]?) = l.filterMap ((fun x => xs[x]?) ∘ fun k => xs.size - 1 - k) := by
      intro l
      induction l with
      | nil => intro _; rfl
      | cons m l ih =>
        intro h
        have hm := h m (by simp)
        have e : xs[((xs.size : Int) - 1 + (m : Int) * -1).toNat]? = ((fun x => xs[x]?) ∘ fun k => xs.size - 1 - k) m := by
          show _ = xs[xs.size - 1 - m]?
          rw [show ((xs.size : Int) - 1 + (m : Int) * -1).toNat = xs.size - 1 - m by omega]
        rw [List.filterMap_cons, List.filterMap_cons, e, ih fun k hk => h k (by simp [hk])]
    exact g _ fun m hm => List.mem_range.mp hm
  rw [e, PySem.W.krv_range, List.filterMap_reverse, PySem.W.krv_all]
theorem getItem_tuple_rev {t sl : Addr} {items : Array Value} {vl vu vs : Value} {Q : Value → Shared → Prop} (ht : IsTup s.heap t items) (hs : s.heap.IsSliceOf sl vl vu vs) (pl : IsPart vl none) (pu : IsPart vu none) (ps : IsPart vs (some (-1)))
    (h : Q (.ref s.heap.objs.size) { s with heap := s.heap.push { cls := .type "tuple", data := .seq items.toList.reverse.toArray } })
    (hsz : items.size ≤ sizeLine) : wpAny (model prog w) A (getItem (.ref t) (.ref sl)) Q E s := by
  have htake : sizeOk (.seq items.toList.reverse.toArray) := by
    show items.toList.reverse.toArray.size ≤ sizeLine
    rw [List.size_toArray, List.length_reverse, Array.length_toList]
    exact hsz
  obtain ⟨os, hos, hcs, hds⟩ := id hs
  have hTs : s.TypeIs (.ref sl) "slice" := ⟨os, hos, hcs⟩
  unfold getItem
  try with_reducible refine wpAny_holding ?_
  first | refine wpAny_bind (wpAny_pure ?_) | skip
  refine wpAny_bind (wpAny_sequenceKey ht.typeIs (by decide) ?_)
  refine wpAny_bind (wpAny_callSpecial?_slot (name := Str.ofString "__getitem__") ht.typeIs PyProof.Rows.slot_tuple_getitem
    (wpAny_call_entry PyProof.Rows.slot_tuple_getitem ht.typeIs entry_tuple_getitem ?_ (args_tuple_getitem _ _)))
  show wpAny _ _ (Builtin.Tuple.tupleItemsOf (.ref t) >>= _) _ _ s
  refine wpAny_bind (tupleItemsOf_ ht ?_)
  refine wpAny_bind (wpAny_typeOf hTs ?_)
  rw [if_pos (by decide)]
  refine wpAny_bind (sliceApplied_rev hs pl pu ps ?_)
  have hno : ¬ ((((items.size : Int) - 1) == 0 && (-1 : Int) == 1 && items.size == items.size) = true) := by
    rw [show ((-1 : Int) == 1) = false from rfl, Bool.and_false, Bool.false_and]
    exact Bool.false_ne_true
  show wpAny _ _ (if (((items.size : Int) - 1) == 0 && (-1 : Int) == 1 && items.size == items.size) = true then _ else _) _ _ s
  rw [if_neg hno, pick_rev]
  first
    | exact wpAny_bind (m := Builtin.Tuple.tupleExact _) (wpAny_newObj_type (wpAny_pure ⟨_, rfl, wpAny_pure h⟩) htake)
    | exact wpAny_bind (m := Builtin.Tuple.tupleExact _) (wpAny_newObj_type (wpAny_bind (wpAny_pure (wpAny_pure ⟨_, rfl, wpAny_pure h⟩))) htake)
    | exact wpAny_bind (wpAny_bind (m := Builtin.Tuple.tupleExact _) (wpAny_newObj_type (wpAny_pure (wpAny_pure ⟨_, rfl, wpAny_pure h⟩)) htake))
    | exact wpAny_bind (wpAny_bind (m := Builtin.Tuple.tupleExact _) (wpAny_newObj_type (wpAny_pure ⟨_, rfl, wpAny_pure h⟩) htake))
end
def tRevT (K : PySem.W.Frag) (te : TE) : TE := fun σ H Q => te σ H fun x H1 => ∃ a xs, x = .ref a ∧ SqT K H1 a xs ∧ ∀ p, H1 p = none → Q (.ref p) (upd H1 p (.tup xs.reverse))
theorem pe_revT {X : Cx} {e : Expr} {te : TE} {k : Nat} {p1 p2 p3 pos : Pos} (he : PE X e te) : PE X (.Subscript e (.Slice none none (some (.UnaryOp .USub (.Constant (.int 1) k p1) p2)) p3) pos) (tRevT X.K te) := by
  refine ⟨fun pins s σ H Q I h => ?_⟩
  refine Subscript_ (thn (he.run pins s σ H _ I h) fun v s1 ⟨x, H1, I1, r1, q1⟩ => ?_)
  obtain ⟨a, xs, ex, hx, q⟩ := q1
  subst ex
  cases r1
  have hst : PO X (some (.UnaryOp .USub (.Constant (.int 1) k p1) p2)) (tPart (tUn (rU fun i => .int (-i)) (tC (.int 1)))) := po_some (pe_un un_neg pe_int)
  refine wpAny_Slice (thn (po_none.run pins s1 σ H1 (fun o H2 => o = none ∧ H2 = H1) I1 ⟨rfl, rfl⟩) fun vl s2 ⟨l, H2, I2, pl, el, e2⟩ => ?_)
  subst el e2
  refine thn (po_none.run pins s2 σ H2 (fun o H3 => o = none ∧ H3 = H2) I2 ⟨rfl, rfl⟩) fun vu s3 ⟨u, H3, I3, pu, eu, e3⟩ => ?_
  subst eu e3
  refine thn (hst.run pins s3 σ H3 (fun o H4 => o = some (-1) ∧ H4 = H3) I3 ⟨1, rfl, -1, rfl, rfl, rfl⟩) fun vs s4 ⟨o, H4, I4, ps, eo, e4⟩ => ?_
  subst eo e4
  have I5 : Inv X pins σ H4 { s4 with heap := s4.heap.push { cls := .type "slice", data := .fields #[vl, vu, vs] } } := I4.kept (t' := s4.toks) fun b ob q => Heap.get?_push_of_some _ q
  obtain ⟨its, r, ht, hz⟩ := I5.tuple hx
  show wpAny (model X.prog X.w) X.A (subscriptTail e (.Slice none none (some (.UnaryOp .USub (.Constant (.int 1) k p1) p2)) p3) (.ref a) (.ref s4.heap.objs.size)) (EP X pins σ Q) X.xe { s4 with heap := s4.heap.push { cls := .type "slice", data := .fields #[vl, vu, vs] } }
  refine tail_any (ops := _) ht.typeIs (PyProof.Rows.slot_tuple_getitem.lookup) ?_ (by with_unfolding_all rfl)
  have hlen : its.toArray.size = xs.length := by rw [List.size_toArray]; exact r.length.symm
  refine getItem_tuple_rev ht (Heap.IsSliceOf.new _ vl vu vs) pl pu ps ?_ (by rw [hlen]; exact hz)
  refine ⟨.ref _, _, I5.laid (t' := s4.toks) (o := .tup xs.reverse) (fun b ob q => Heap.get?_push_of_some _ q) (Nat.le_refl _) ?_, rfl, q _ (I5.hok.fresh (Nat.le_refl _))⟩
  exact ⟨by rw [List.length_reverse]; exact hz, _, r.reverse, IsTup.new _ _⟩
end GG

set_option maxHeartbeats 8000000
/-! ### list(text); text.count(sign) -/
namespace GG
open PySem PySem.Spec PyProof.Rows L2
theorem call_list_S {X : Cx} (hc : X.calm = true) : CallR X (.type "list") (fun xs H Q => ∃ cs : List Nat, xs = [.str (S cs)] ∧ cs.length ≤ sizeLine ∧ ∀ q, H q = none → Q (.ref q) (upd H q (.lst (cs.map fun c => V.str (S [c]))))) := by
  intro pins s σ H xs us Q I r h
  obtain ⟨cs, e, hl, q⟩ := h
  subst e
  obtain ⟨u, eu, rx⟩ := vals1 r
  subst eu
  obtain ⟨t, rfl⟩ := rx
  refine call_list_str (I.ok.hd hc) (S cs) t (fun h' tk acc c' hk e' hi => ?_) (by show (S cs).length ≤ _; rw [S_len]; exact hl)
  have hs : (S cs).cps.size = cs.length := S_len cs
  have hv : Vals (cs.map fun c => V.str (S [c])) acc.toList := by
    refine vals_of_at (by rw [List.length_map, ← hs, Array.length_toList]; exact hi.1.symm) fun j x w h1 h2 => ?_
    obtain ⟨c, u, hcj, hw⟩ := hi.2 j w (by rw [← Array.getElem?_toList]; exact h2)
    have hcj' : cs[j]? = some c := by simpa using hcj
    rw [List.getElem?_map, hcj'] at h1
    cases h1
    exact ⟨u, hw⟩
  refine ⟨.ref s.heap.objs.size, upd H s.heap.objs.size (.lst (cs.map fun c => V.str (S [c]))), I.laid hk (Nat.le_refl _) (show ObjOk X.prog X.w _ _ _ (.lst (cs.map fun c => V.str (S [c]))) from ⟨by rw [List.length_map]; exact hl, acc.toList, c', hv, ?_⟩), rfl, q _ (I.hok.fresh (Nat.le_refl _))⟩
  rw [Array.toArray_toList]
  exact e'
theorem occ_cnt (x : Str) (c hi limit : Nat) (hh : hi ≤ x.length) : ∀ (n i : Nat) (st : Array Nat × Nat), st.fst.size + n ≤ limit → st.snd ≤ i →
    (forIn (List.range' i n) st (PySem.StrLaws.occBody x ⟨#[c]⟩ hi limit)).run.fst.size = st.fst.size + (List.range' i n).countP fun j => decide (j + 1 ≤ hi ∧ x.cps[j]? = some c)
  | 0, i, st, _, _ => rfl
  | n + 1, i, st, h1, h2 => by
    rw [List.range'_succ, List.forIn_cons, List.countP_cons]
    unfold PySem.StrLaws.occBody
    have l1 : (⟨#[c]⟩ : Str).length = 1 := rfl
    have sb := PySem.StrLaws.subAt_one x c i
    rw [Array.getElem?_toList, l1] at sb
    by_cases e : i + 1 ≤ hi ∧ x.cps[i]? = some c
    · have cnd : ((st.fst.size < limit ∧ st.snd ≤ i) ∧ i + (⟨#[c]⟩ : Str).length ≤ hi) ∧ Builtin.Str.subAt x ⟨#[c]⟩ i = true := ⟨⟨⟨by omega, h2⟩, by rw [l1]; exact e.1⟩, (sb.mpr e.2).2⟩
      rw [if_pos cnd, decide_eq_true e, if_pos rfl]
      have ih := occ_cnt x c hi limit hh n (i + 1) (st.fst.push i, i + (⟨#[c]⟩ : Str).length) (by rw [Array.size_push]; omega) (by rw [l1]; exact Nat.le_refl _)
      rw [Array.size_push] at ih
      exact ih.trans (by omega)
    · have cnd : ¬ (((st.fst.size < limit ∧ st.snd ≤ i) ∧ i + (⟨#[c]⟩ : Str).length ≤ hi) ∧ Builtin.Str.subAt x ⟨#[c]⟩ i = true) := fun z => by
        have z1 := z.1.2
        rw [l1] at z1
        have z2 : x.cps[i]? = some c := by
          exact sb.mp ⟨Nat.le_trans z1 hh, z.2⟩
        exact e ⟨z1, z2⟩
      rw [if_neg cnd, decide_eq_false e, if_neg (by decide)]
      have ih := occ_cnt x c hi limit hh n (i + 1) (st.fst, st.snd) (by show st.fst.size + n ≤ limit; omega) (by show st.snd ≤ i + 1; omega)
      exact ih.trans (by show st.fst.size + _ = _; omega)
theorem cnt_S (cs : List Nat) (c : Nat) : (Txt.count (S cs) (S [c]) : Int) = ((cs.count c : Nat) : Int) := by
  unfold Txt.count
  rw [PySem.StrLaws.occ_eq]
  have h := occ_cnt (S cs) c (S cs).length ((S cs).length + 1) (Nat.le_refl _) ((S cs).length + 1 - 0) 0 ((#[] : Array Nat), 0) (by simp) (Nat.le_refl _)
  rw [Array.length_toList]
  show (((forIn (List.range' 0 ((S cs).length + 1 - 0)) ((#[] : Array Nat), 0) (PySem.StrLaws.occBody (S cs) ⟨#[c]⟩ (S cs).length ((S cs).length + 1))).run.fst.size : Nat) : Int) = _
  rw [h]
  congr 1
  show 0 + _ = _
  rw [Nat.zero_add, Nat.sub_zero, S_len, ← List.range_eq_range', List.range_succ, List.countP_append]
  have z : ([cs.length].countP fun j => decide (j + 1 ≤ cs.length ∧ (S cs).cps[j]? = some c)) = 0 := by
    rw [List.countP_cons, decide_eq_false (by omega)]
    rfl
  rw [z, Nat.add_zero]
  have e : cs = (List.range cs.length).map fun j => cs.getD j 0 := by
    apply List.ext_getElem
    · simp
    · intro i h1 h2
      rw [List.getElem_map, List.getElem_range, List.getD_eq_getElem?_getD, List.getElem?_eq_getElem h1]
      rfl
  have e2 : cs.count c = (List.range cs.length).countP fun j => cs.getD j 0 == c := by
    have : cs.count c = ((List.range cs.length).map fun j => cs.getD j 0).count c := congrArg (List.count c) e
    rw [this]
    unfold List.count
    rw [List.countP_map]
    rfl
  rw [e2]
  refine List.countP_congr fun j hj => ?_
  have hj := List.mem_range.mp hj
  have g : (S cs).cps[j]? = some (cs.getD j 0) := by
    show cs.toArray[j]? = _
    rw [List.getElem?_toArray, List.getD_eq_getElem?_getD, List.getElem?_eq_getElem hj]
    rfl
  rw [g]
  simp only [decide_eq_true_eq, beq_iff_eq, Option.some.injEq]
  exact ⟨fun z => z.2, fun z => ⟨by omega, z⟩⟩
end GG

/-! Forms of terms: whichever steps down are taken, the same form is reached. -/
namespace MT
open Trm
theorem red_of {l r : Trm} {kv : Nat × Trm} {ks : List (Nat × Trm)} (h : rules (mul l r) = kv :: ks) : red l r = kv.2 := by
  unfold red
  rw [h]
theorem red_no {l r : Trm} (h : rules (mul l r) = []) : red l r = mul l r := by
  unfold red
  rw [h]
theorem flat_size {t u : Trm} (h : flat t = flat u) : size t = size u := by
  have a := flat_len t
  have b := flat_len u
  rw [h] at a
  omega
/-- which rule, and what it says -/
theorem rules_cases {l r : Trm} (ol : Ok l) (or_ : Ok r) : rules (mul l r) = [] ∨
    (∃ x b y, l = mul x b ∧ r = mul b y ∧ rules (mul l r) = [(1, b)]) ∨
    (∃ y z, r = mul (mul l y) z ∧ rules (mul l r) = [(2, mul l y)]) ∨
    (∃ x y, l = mul x (mul y r) ∧ rules (mul l r) = [(3, mul y r)]) := by
  have e1 : r1 l r = [] ∨ ∃ x b y, l = mul x b ∧ r = mul b y ∧ r1 l r = [(1, b)] := by
    cases l with
    | let_ c => left; rfl
    | mul x b =>
      cases r with
      | let_ c => left; rfl
      | mul b' y =>
        by_cases e : flat b = flat b'
        · have := flat_inj ol.2 or_.1 e
          subst this
          exact .inr ⟨x, b, y, rfl, rfl, if_pos e⟩
        · exact .inl (if_neg e)
  have e2 : r2 l r = [] ∨ ∃ y z, r = mul (mul l y) z ∧ r2 l r = [(2, mul l y)] := by
    cases r with
    | let_ c => left; cases l <;> rfl
    | mul a z =>
      cases a with
      | let_ c => left; cases l <;> rfl
      | mul x y =>
        have d : r2 l (mul (mul x y) z) = if flat x = flat l then [(2, mul x y)] else [] := by cases l <;> rfl
        by_cases e : flat x = flat l
        · have := flat_inj or_.1.1 ol e
          subst this
          exact .inr ⟨y, z, rfl, by rw [d, if_pos e]⟩
        · exact .inl (by rw [d, if_neg e])
  have e3 : r3 l r = [] ∨ ∃ x y, l = mul x (mul y r) ∧ r3 l r = [(3, mul y r)] := by
    cases l with
    | let_ c => left; rfl
    | mul x a =>
      cases a with
      | let_ c => left; rfl
      | mul y z =>
        by_cases e : flat z = flat r
        · have := flat_inj ol.2.2 or_ e
          subst this
          exact .inr ⟨x, y, rfl, if_pos e⟩
        · exact .inl (if_neg e)
  rcases e1 with e1 | ⟨x, b, y, hl, hr, e1⟩
  · rcases e2 with e2 | ⟨y, z, hr, e2⟩
    · rcases e3 with e3 | ⟨x, y, hl, e3⟩
      · left
        rw [rules, e1, e2, e3]
        rfl
      · right; right; right
        exact ⟨x, y, hl, by rw [rules, e1, e2, e3]; rfl⟩
    · rcases e3 with e3 | ⟨x, y', hl, e3⟩
      · right; right; left
        exact ⟨y, z, hr, by rw [rules, e1, e2, e3]; rfl⟩
      · exfalso
        have s1 := congrArg size hl
        have s2 := congrArg size hr
        simp only [size] at s1 s2
        have := size_pos x
        have := size_pos y'
        omega
  · rcases e2 with e2 | ⟨y', z, hr', e2⟩
    · rcases e3 with e3 | ⟨x', y', hl', e3⟩
      · right; left
        exact ⟨x, b, y, hl, hr, by rw [rules, e1, e2, e3]; rfl⟩
      · exfalso
        rw [hl] at hl'
        have hb : b = mul y' r := by injection hl'
        have s1 := congrArg size hb
        have s2 := congrArg size hr
        simp only [size] at s1 s2
        have := size_pos y'
        omega
    · exfalso
      rw [hr] at hr'
      have hb : b = mul l y' := by injection hr'
      have s1 := congrArg size hb
      have s2 := congrArg size hl
      simp only [size] at s1 s2
      have := size_pos x
      omega
theorem red1 {x b y : Trm} (h : Ok (mul x b)) (h2 : Ok (mul b y)) : red (mul x b) (mul b y) = b := by
  rcases rules_cases h h2 with e | ⟨x', b', y', e1, e2, e⟩ | ⟨y', z, e1, e⟩ | ⟨x', y', e1, e⟩
  · exfalso
    have : r1 (mul x b) (mul b y) = [(1, b)] := if_pos rfl
    rw [rules, this] at e
    cases e
  · rw [red_of e]
    injection e1 with _ e1
    exact e1.symm
  · exfalso
    have : r1 (mul x b) (mul b y) = [(1, b)] := if_pos rfl
    rw [rules, this] at e
    cases e
  · exfalso
    have : r1 (mul x b) (mul b y) = [(1, b)] := if_pos rfl
    rw [rules, this] at e
    cases e
theorem red2 {a y z : Trm} (h : Ok a) (h2 : Ok (mul (mul a y) z)) : red a (mul (mul a y) z) = mul a y := by
  have m : (2, mul a y) ∈ rules (mul a (mul (mul a y) z)) := by
    rw [rules]
    have d : r2 a (mul (mul a y) z) = [(2, mul a y)] := by
      have : r2 a (mul (mul a y) z) = if flat a = flat a then [(2, mul a y)] else [] := by cases a <;> rfl
      rw [this, if_pos rfl]
    simp [d]
  rcases rules_cases h h2 with e | ⟨x', b', y', e1, e2, e⟩ | ⟨y', z', e1, e⟩ | ⟨x', y', e1, e⟩
  all_goals rw [e] at m
  · cases m
  · simp at m
  · rw [red_of e]
    have := List.mem_singleton.mp m
    injection this with _ this
    exact this.symm
  · simp at m
theorem red3 {x y c : Trm} (h : Ok (mul x (mul y c))) (h2 : Ok c) : red (mul x (mul y c)) c = mul y c := by
  have m : (3, mul y c) ∈ rules (mul (mul x (mul y c)) c) := by
    rw [rules]
    have d : r3 (mul x (mul y c)) c = [(3, mul y c)] := if_pos rfl
    simp [d]
  rcases rules_cases h h2 with e | ⟨x', b', y', e1, e2, e⟩ | ⟨y', z', e1, e⟩ | ⟨x', y', e1, e⟩
  all_goals rw [e] at m
  · cases m
  · simp at m
  · simp at m
  · rw [red_of e]
    have := List.mem_singleton.mp m
    injection this with _ this
    exact this.symm
/-- a product of forms is a form or comes from one of them -/
theorem red_left {l r : Trm} (ol : Ok l) (or_ : Ok r) : (∃ p, red l r = mul p r) ∨ ∃ y, r = mul (red l r) y := by
  rcases rules_cases ol or_ with e | ⟨x, b, y, e1, e2, e⟩ | ⟨y, z, e1, e⟩ | ⟨x, y, e1, e⟩
  · exact .inl ⟨l, red_no e⟩
  · exact .inr ⟨y, by rw [red_of e]; exact e2⟩
  · exact .inr ⟨z, by rw [red_of e]; exact e1⟩
  · exact .inl ⟨y, red_of e⟩
theorem red_right {l r : Trm} (ol : Ok l) (or_ : Ok r) : (∃ q, red l r = mul l q) ∨ ∃ x, l = mul x (red l r) := by
  rcases rules_cases ol or_ with e | ⟨x, b, y, e1, e2, e⟩ | ⟨y, z, e1, e⟩ | ⟨x, y, e1, e⟩
  · exact .inl ⟨r, red_no e⟩
  · exact .inr ⟨x, by rw [red_of e]; exact e1⟩
  · exact .inl ⟨y, red_of e⟩
  · exact .inr ⟨x, by rw [red_of e]; exact e1⟩
theorem red_fm {l r : Trm} (fl : Fm l) (fr : Fm r) (ol : Ok l) (or_ : Ok r) : Fm (red l r) := by
  rcases rules_cases ol or_ with e | ⟨x, b, y, e1, e2, e⟩ | ⟨y, z, e1, e⟩ | ⟨x, y, e1, e⟩
  · rw [red_no e]
    exact fm_mul.mpr ⟨e, fl, fr⟩
  · rw [red_of e]
    rw [e2] at fr
    exact (fm_mul.mp fr).2.1
  · rw [red_of e]
    rw [e1] at fr
    exact (fm_mul.mp fr).2.1
  · rw [red_of e]
    rw [e1] at fl
    exact (fm_mul.mp fl).2.2
theorem nf_fm : ∀ {t}, Ok t → Fm (nf t)
  | let_ c, _ => fun u hu => by
    have : u = let_ c := by simpa [nf, subs] using hu
    rw [this]
    rfl
  | mul l r, h => red_fm (nf_fm h.1) (nf_fm h.2) (nf_ok h.1) (nf_ok h.2)
theorem red_self {l r : Trm} (h : Fm (mul l r)) : red l r = mul l r := red_no (fm_mul.mp h).1
theorem claim1 {A B C : Trm} (fA : Fm A) (fB : Fm B) (fC : Fm C) (oA : Ok A) (oB : Ok B) (oC : Ok C) : red (red A B) (red B C) = B := by
  have oP := red_ok oA oB
  have oQ := red_ok oB oC
  rcases red_left oA oB with ⟨p, hp⟩ | ⟨y, hp⟩ <;> rcases red_right oB oC with ⟨q, hq⟩ | ⟨u, hq⟩
  · rw [hp] at oP ⊢
    rw [hq] at oQ ⊢
    exact red1 oP oQ
  · generalize red B C = Q at *
    rw [hp] at oP ⊢
    subst hq
    exact red3 oP oQ
  · generalize red A B = P at *
    rw [hq] at oQ ⊢
    subst hp
    exact red2 oP oQ
  · generalize red A B = P at *
    generalize red B C = Q at *
    subst hp
    injection hq with h1 h2
    subst h1 h2
    exact red_self fB
theorem claim2 {A B C : Trm} (fA : Fm A) (fB : Fm B) (fC : Fm C) (oA : Ok A) (oB : Ok B) (oC : Ok C) : red A (red (red A B) C) = red A B := by
  have fP := red_fm fA fB oA oB
  have oP := red_ok oA oB
  have rv := red_right oA oB
  generalize red A B = P at *
  have oR := red_ok oP oC
  have rr := red_right oP oC
  generalize red P C = R at *
  rcases rv with ⟨q, rfl⟩ | ⟨x, rfl⟩
  · rcases rr with ⟨s, rfl⟩ | ⟨x', h⟩
    · exact red2 oA oR
    · injection h with h1 h2
      subst h1 h2
      exact red_self fP
  · rcases rr with ⟨s, rfl⟩ | ⟨x', rfl⟩
    · exact red1 oA oR
    · exact red3 oA oR
theorem claim3 {A B C : Trm} (fA : Fm A) (fB : Fm B) (fC : Fm C) (oA : Ok A) (oB : Ok B) (oC : Ok C) : red (red A (red B C)) C = red B C := by
  have fP := red_fm fB fC oB oC
  have oP := red_ok oB oC
  have rv := red_left oB oC
  generalize red B C = P at *
  have oR := red_ok oA oP
  have rr := red_left oA oP
  generalize red A P = R at *
  rcases rv with ⟨p, rfl⟩ | ⟨y, rfl⟩
  · rcases rr with ⟨p', rfl⟩ | ⟨y', h⟩
    · exact red3 oR oC
    · injection h with h1 h2
      subst h1 h2
      exact red_self fP
  · rcases rr with ⟨p', rfl⟩ | ⟨y', rfl⟩
    · exact red1 oR oC
    · exact red2 oR oC
/-- a step at the root keeps the form -/
theorem nf_rule {u : Trm} (h : Ok u) (kv : Nat × Trm) (hk : kv ∈ rules u) : nf kv.2 = nf u := by
  cases u with
  | let_ c => cases hk
  | mul l r =>
    rcases rules_cases h.1 h.2 with e | ⟨x, b, y, e1, e2, e⟩ | ⟨y, z, e1, e⟩ | ⟨x, y, e1, e⟩
    all_goals rw [e] at hk
    · cases hk
    · have := List.mem_singleton.mp hk
      subst this e1 e2
      have hx := h.1.1
      have hb := h.1.2
      have hy := h.2.2
      show nf b = red (red (nf x) (nf b)) (red (nf b) (nf y))
      exact (claim1 (nf_fm hx) (nf_fm hb) (nf_fm hy) (nf_ok hx) (nf_ok hb) (nf_ok hy)).symm
    · have := List.mem_singleton.mp hk
      subst this e1
      have hl := h.1
      have hy := h.2.1.2
      have hz := h.2.2
      show red (nf l) (nf y) = red (nf l) (red (red (nf l) (nf y)) (nf z))
      exact (claim2 (nf_fm hl) (nf_fm hy) (nf_fm hz) (nf_ok hl) (nf_ok hy) (nf_ok hz)).symm
    · have := List.mem_singleton.mp hk
      subst this e1
      have hx := h.1.1
      have hy := h.1.2.1
      have hr := h.2
      show red (nf y) (nf r) = red (red (nf x) (red (nf y) (nf r))) (nf r)
      exact (claim3 (nf_fm hx) (nf_fm hy) (nf_fm hr) (nf_ok hx) (nf_ok hy) (nf_ok hr)).symm
/-- .. and anywhere -/
theorem ctxN : ∀ (t : Trm) (i : Nat), i < (flat t).length → ∃ u pre post, (subs t)[i]? = some u ∧ pre.length = i ∧ flat t = pre ++ (flat u ++ post) ∧
    ∀ v, ∃ t', flat t' = pre ++ (flat v ++ post) ∧ size t' + size u = size t + size v ∧ (Ok t → Ok v → Ok t') ∧ (nf v = nf u → nf t' = nf t)
  | let_ c, i, h => by
    have : i = 0 := by simpa [flat] using h
    subst this
    exact ⟨let_ c, [], [], rfl, rfl, rfl, fun v => ⟨v, by simp, by rw [Nat.add_comm], fun _ h => h, fun h => h⟩⟩
  | mul l r, 0, _ => ⟨mul l r, [], [], rfl, rfl, by simp, fun v => ⟨v, by simp, by rw [Nat.add_comm], fun _ h => h, fun h => h⟩⟩
  | mul l r, i + 1, h => by
    have hl : i < (flat l).length + (flat r).length := by
      rw [flat, List.length_cons, List.length_append] at h
      omega
    by_cases hi : i < (flat l).length
    · obtain ⟨u, pre, post, h1, h2, h3, h4⟩ := ctxN l i hi
      refine ⟨u, 42 :: pre, post ++ flat r, ?_, by simp [h2], ?_, fun v => ?_⟩
      · show (subs l ++ subs r)[i]? = _
        rw [List.getElem?_append_left (by rw [subs_len]; exact hi), h1]
      · rw [flat, h3]
        simp
      · obtain ⟨t', e1, e2, e3, e4⟩ := h4 v
        refine ⟨mul t' r, ?_, ?_, fun a b => ⟨e3 a.1 b, a.2⟩, fun h => ?_⟩
        · rw [flat, e1]
          simp
        · rw [size, size]
          omega
        · rw [nf, nf, e4 h]
    · obtain ⟨u, pre, post, h1, h2, h3, h4⟩ := ctxN r (i - (flat l).length) (by omega)
      refine ⟨u, 42 :: (flat l ++ pre), post, ?_, by simp [h2]; omega, ?_, fun v => ?_⟩
      · show (subs l ++ subs r)[i]? = _
        rw [List.getElem?_append_right (by rw [subs_len]; omega), subs_len, h1]
      · rw [flat, h3]
        simp
      · obtain ⟨t', e1, e2, e3, e4⟩ := h4 v
        refine ⟨mul l t', ?_, ?_, fun a b => ⟨a.1, e3 a.2 b⟩, fun h => ?_⟩
        · rw [flat, e1]
          simp
        · rw [size, size]
          omega
        · rw [nf, nf, e4 h]
theorem cut_at {pre mid post new : List Nat} : (pre ++ (mid ++ post)).take pre.length ++ (new ++ (pre ++ (mid ++ post)).drop (pre.length + mid.length)) = pre ++ (new ++ post) := by
  rw [List.take_append_of_le_length (Nat.le_refl _), List.take_of_length_le (Nat.le_refl _), List.drop_append, List.drop_of_length_le (by omega), List.nil_append,
    show pre.length + mid.length - pre.length = mid.length by omega, List.drop_append, List.drop_of_length_le (Nat.le_refl _), Nat.sub_self, List.drop_zero, List.nil_append]
/-- one step down -/
def Down (t t' : Trm) : Prop := ∃ s ∈ steps t, s.2.2 = flat t'
theorem steps_down {t : Trm} (h : Ok t) : ∀ s ∈ steps t, ∃ t', flat t' = s.2.2 ∧ Ok t' ∧ size t' < size t ∧ nf t' = nf t := by
  intro s hs
  obtain ⟨j, u, hj, hu⟩ := stepsFrom_mem _ _ _ hs
  obtain ⟨kv, hk, rfl⟩ := List.mem_map.mp hu
  have jl : j < (flat t).length := by
    rw [← subs_len]
    exact (List.getElem?_eq_some_iff.mp hj).1
  obtain ⟨u', pre, post, h1, h2, h3, h4⟩ := ctxN t j jl
  have eu : u' = u := Option.some.inj (h1.symm.trans hj)
  subst eu
  have ou : Ok u' := subs_ok t h u' (List.mem_of_getElem? hj)
  obtain ⟨ov, sv⟩ := rules_ok kv hk
  obtain ⟨t', e1, e2, e3, e4⟩ := h4 kv.2
  refine ⟨t', ?_, e3 h (ov ou), by omega, e4 (nf_rule ou kv hk)⟩
  rw [e1]
  show _ = (flat t).take (0 + j) ++ (flat kv.2 ++ (flat t).drop (0 + j + (flat u').length))
  rw [Nat.zero_add, h3, ← h2, cut_at]
theorem Down.of {t t' : Trm} (h : Ok t) (o : Ok t') (d : Down t t') : size t' < size t ∧ nf t' = nf t := by
  obtain ⟨s, hs, e⟩ := d
  obtain ⟨u, e1, o1, z, n⟩ := steps_down h s hs
  have := flat_inj o1 o (e1.trans e)
  subst this
  exact ⟨z, n⟩
/-! ### mirrors -/
def mir : Trm → Trm
  | let_ c => let_ c
  | mul l r => mul (mir r) (mir l)
theorem mir_ok : ∀ {t}, Ok t → Ok (mir t)
  | let_ _, h => h
  | mul _ _, h => ⟨mir_ok h.2, mir_ok h.1⟩
theorem mir_mir : ∀ t, mir (mir t) = t
  | let_ _ => rfl
  | mul l r => by rw [mir, mir, mir_mir l, mir_mir r]
theorem mir_size : ∀ t, size (mir t) = size t
  | let_ _ => rfl
  | mul l r => by rw [mir, size, size, mir_size l, mir_size r, Nat.add_comm]
theorem red_mir {l r : Trm} (ol : Ok l) (or_ : Ok r) : red (mir r) (mir l) = mir (red l r) := by
  rcases rules_cases ol or_ with e | ⟨x, b, y, e1, e2, e⟩ | ⟨y, z, e1, e⟩ | ⟨x, y, e1, e⟩
  · rw [red_no e]
    rcases rules_cases (mir_ok or_) (mir_ok ol) with f | ⟨x, b, y, f1, f2, f⟩ | ⟨y, z, f1, f⟩ | ⟨x, y, f1, f⟩
    · rw [red_no f]
      rfl
    · exfalso
      have a1 : l = mul (mir y) (mir b) := by rw [← mir_mir l, f2]; rfl
      have a2 : r = mul (mir b) (mir x) := by rw [← mir_mir r, f1]; rfl
      subst a1 a2
      have := red1 ol or_
      rw [red_no e] at this
      have := congrArg size this
      simp only [size, mir_size] at this
      have := size_pos y
      have := size_pos x
      omega
    · exfalso
      have a1 : l = mul (mir z) (mul (mir y) r) := by
        rw [← mir_mir l, f1]
        show mul _ (mul _ (mir (mir r))) = _
        rw [mir_mir]
      subst a1
      have := red3 ol or_
      rw [red_no e] at this
      have := congrArg size this
      simp only [size, mir_size] at this
      have := size_pos z
      have := size_pos y
      have := size_pos r
      omega
    · exfalso
      have a1 : r = mul (mul l (mir y)) (mir x) := by
        rw [← mir_mir r, f1]
        show mul (mul (mir (mir l)) _) _ = _
        rw [mir_mir]
      subst a1
      have := red2 ol or_
      rw [red_no e] at this
      have := congrArg size this
      simp only [size, mir_size] at this
      have := size_pos x
      have := size_pos y
      have := size_pos l
      omega
  · rw [red_of e]
    subst e1 e2
    exact red1 (mir_ok or_) (mir_ok ol)
  · rw [red_of e]
    subst e1
    exact red3 (mir_ok or_) (mir_ok ol)
  · rw [red_of e]
    subst e1
    exact red2 (mir_ok or_) (mir_ok ol)
theorem nf_mir : ∀ {t}, Ok t → nf (mir t) = mir (nf t)
  | let_ _, _ => rfl
  | mul l r, h => by
    rw [mir, nf, nf, nf_mir h.1, nf_mir h.2, red_mir (nf_ok h.1) (nf_ok h.2)]
theorem nf_mir_iff {t u : Trm} (ot : Ok t) (ou : Ok u) : nf (mir t) = nf (mir u) ↔ nf t = nf u := by
  rw [nf_mir ot, nf_mir ou]
  exact ⟨fun h => by rw [← mir_mir (nf t), h, mir_mir], fun h => by rw [h]⟩
end MT

set_option maxHeartbeats 16000000
namespace K78
def topS (i : Nat) : PySem.Stmt := PySem.Challenge.pw_onebetween_k78_whole_equality_papers_jud.main.body.getD i (.Pass ⟨0, 0, 0, 0⟩)
end K78
namespace K78
open PySem PySem.Spec PyProof.Rows L2 GG
abbrev sDice : Stmt := topS 26
abbrev sRoll : Stmt := topS 27
abbrev sPick : Stmt := topS 28
theorem scDice : FnScope ["script", "spot", "cell", "left"] ["script", "spot"] (defScope sDice) := ⟨rfl, rfl, rfl, by decide +kernel, rfl, by decide +kernel, by decide +kernel⟩
theorem scRoll : FnScope ["dice", "total", "found", "one", "two"] ["dice", "total"] (defScope sRoll) := ⟨rfl, rfl, rfl, by decide +kernel, rfl, by decide +kernel, by decide +kernel⟩
theorem scPick : FnScope ["dice", "items"] ["dice", "items"] (defScope sPick) := ⟨rfl, rfl, rfl, by decide +kernel, rfl, by decide +kernel, by decide +kernel⟩
section
variable {P : Program} {w : World} {K : PySem.W.Frag} {mg : Str → Option Value} {base : Heap}
theorem ok_dice {f : Addr} {fd : FuncData} {k : Nat} (F : Fun K "_law_dice" "_law_dice" sDice f fd)
    (ml : mg "len" = none) (mi : mg "int" = none) (mx : mg "max" = none) (ma : mg "abs" = none) :
    FnOk P w K mg base CX0 (k + 1) f fd ["script", "spot"] (spDice K) := by
  refine F.ok scDice (fun vs H Q E h => ?_) (fun cdv A outer s H vs Q E hr h => ?_)
  · obtain ⟨a, ns, spot, rfl, _⟩ := h
    rfl
  · obtain ⟨a, ns, spot, rfl, hS, hsp, q⟩ := h
    refine ⟨_, pss_cons (ps_set (i := 2) scDice.nd rfl (.inl rfl)
        (pe_ifExp (pt_cmpR op_lt (pv 1) (pe_callB call_len_seq (by rfl) ml PySem.boot_len (pa_cons (pv 0) pa_nil)) (nomark _))
          (pe_callTy call_int1 (by rfl) mi (by decide +kernel) (pa_cons (pe_ix ix_list (pv 0) (pv 1) (fun _ _ => rfl)) pa_nil))
          (pe_op op_add (pe_op op_mul pe_int (pv 1)) pe_int)))
      (pss_cons (ps_set (i := 3) scDice.nd rfl (.inl rfl)
        (pe_op op_mod (pe_callB (call_max2 rfl) (by rfl) mx (by decide +kernel) (pa_cons pe_int (pa_cons (pe_op op_sub (pe_callB call_abs (by rfl) ma (by decide +kernel) (pa_cons (pv 2) pa_nil)) (pe_op op_pow pe_int pe_int)) pa_nil)))
          (pe_op op_mulW (pe_op op_pow pe_int pe_int) (pe_op op_pow pe_int pe_int))))
      (pss_one (ps_ret (pe_lst (pa_cons (pv 3) (pa_cons
        (pe_op op_add (pe_op op_add (pe_op op_add (pe_op op_mul (pe_op op_mod (pe_callB call_abs (by rfl) ma (by decide +kernel) (pa_cons (pv 2) pa_nil)) pe_int) pe_int) (pe_op op_mul pe_int (pv 1)))
          (pe_op op_mul pe_int (pe_callTy call_int1 (by rfl) mi (by decide +kernel) (pa_cons (pe_cmpR op_lt (pv 2) pe_int (nomark _)) pa_nil)))) pe_int)
        (pa_cons pe_int pa_nil))))))), ?_⟩
    refine ⟨.int spot, rfl, .ref a, rfl, a, _, rfl, .inl hS, _, _, rfl, rfl, _, rfl, ite2 (fun e => ?_) (fun e => ?_)⟩
    · have e1 := of_decide_eq_true e
      rw [List.length_map] at e1
      have e2 : spot < ns.length := by omega
      have g : (ns.map V.int)[spot]? = some (.int ns[spot]) := by
        rw [List.getElem?_map, List.getElem?_eq_getElem e2]
        rfl
      refine ⟨.ref a, rfl, .int spot, rfl, a, _, spot, .int ns[spot], rfl, rfl, hS, atI_nat g, .inl ⟨_, rfl, ?_⟩⟩
      refine ⟨_, rfl, _, rfl, _, _, rfl, rfl, ⟨by decide, by decide, by decide⟩, _, _, rfl, rfl, _, _, rfl, _, _, rfl, rfl, ⟨by decide, by decide, by decide⟩, _, _, rfl, rfl, ⟨by decide, by decide, by decide⟩, _, _, rfl, rfl, mul60, _, _, rfl, rfl, pos60, ?_⟩
      refine ⟨_, rfl, _, rfl, _, rfl, _, _, rfl, rfl, (show (0 : Int) < 1152921504606846809 by decide), _, _, rfl, rfl, .inr (by decide), _, rfl, _, _, rfl, rfl, .inl (by decide), _, _, rfl, rfl, _, rfl, _, _, rfl, rfl, .inr ⟨_, rfl, _, _, rfl, rfl, .inl (by decide), _, _, rfl, rfl, _, _, rfl, rfl, (by show 3 ≤ sizeLine; decide), fun p np => ?_⟩⟩
      exact q _ p (sameUpd np) np ⟨_, _, _, upd_same, Int.emod_nonneg _ (by have := pos60; omega)⟩
    · refine ⟨_, rfl, _, _, rfl, rfl, .inl (by decide), _, _, rfl, rfl, ?_⟩
      refine ⟨_, rfl, _, rfl, _, _, rfl, rfl, ⟨by decide, by decide, by decide⟩, _, _, rfl, rfl, _, _, rfl, _, _, rfl, rfl, ⟨by decide, by decide, by decide⟩, _, _, rfl, rfl, ⟨by decide, by decide, by decide⟩, _, _, rfl, rfl, mul60, _, _, rfl, rfl, pos60, ?_⟩
      refine ⟨_, rfl, _, rfl, _, rfl, _, _, rfl, rfl, (show (0 : Int) < 1152921504606846809 by decide), _, _, rfl, rfl, .inr (by decide), _, rfl, _, _, rfl, rfl, .inl (by decide), _, _, rfl, rfl, _, rfl, _, _, rfl, rfl, .inr ⟨_, rfl, _, _, rfl, rfl, .inl (by decide), _, _, rfl, rfl, _, _, rfl, rfl, (by show 3 ≤ sizeLine; decide), fun p np => ?_⟩⟩
      exact q _ p (sameUpd np) np ⟨_, _, _, upd_same, Int.emod_nonneg _ (by have := pos60; omega)⟩
theorem ok_roll {f : Addr} {fd : FuncData} {k : Nat} (F : Fun K "_law_roll" "_law_roll" sRoll f fd) (mi : mg "int" = none) :
    FnOk P w K mg base CX0 (k + 1) f fd ["dice", "total"] spRoll := by
  refine F.ok scRoll (fun vs H Q E h => ?_) (fun cdv A outer s H vs Q E hr h => ?_)
  · obtain ⟨a, n, rfl, _⟩ := h
    rfl
  · obtain ⟨l, n, rfl, ⟨a, b, c, hd, ha⟩, h0, h1, q⟩ := h
    have at0 : atI [V.int a, .int b, .int c] 0 = some (.int a) := rfl
    have at1 : atI [V.int a, .int b, .int c] 1 = some (.int b) := rfl
    have at2 : atI [V.int a, .int b, .int c] 2 = some (.int c) := rfl
    refine ⟨_, pss_cons (ps_if (pt_cmpR op_gt (pe_ix ix_list (pv 0) pe_int (fun _ _ => rfl)) pe_int (nomark _))
        (pss_cons (ps_set (i := 2) scRoll.nd rfl (.inl rfl) (pe_op op_mod (pe_callTy call_int1 (by rfl) mi (by decide +kernel) (pa_cons (pe_ix ix_list (pv 0) pe_int (fun _ _ => rfl)) pa_nil)) (pv 1)))
        (pss_cons (ps_asg (pe_op op_fdiv (pe_ix ix_list (pv 0) pe_int (fun _ _ => rfl)) (pv 1)) (pg_sub (pv 0) pe_int set_list))
        (pss_one (ps_ret (pv 2))))) pss_nil)
      (pss_cons (ps_asg (pe_op op_add (pe_ix ix_list (pv 0) pe_int (fun _ _ => rfl)) pe_int) (pg_sub (pv 0) pe_int set_list))
      (pss_cons (ps_set (i := 3) scRoll.nd rfl (.inl rfl) (pe_op op_mod (pe_callTy call_int1 (by rfl) mi (by decide +kernel)
          (pa_cons (pe_op op_add (pe_ix ix_list (pv 0) pe_int (fun _ _ => rfl)) (pe_op op_mul pe_int (pe_ix ix_list (pv 0) pe_int (fun _ _ => rfl)))) pa_nil)) pe_int))
      (pss_cons (ps_set (i := 4) scRoll.nd rfl (.inl rfl) (pe_op op_add (pe_op op_mul (pe_op op_mod (pe_callTy call_int1 (by rfl) mi (by decide +kernel)
          (pa_cons (pe_op op_add (pe_op op_mul (pv 3) (pv 3)) (pe_op op_mul pe_int (pe_ix ix_list (pv 0) pe_int (fun _ _ => rfl)))) pa_nil)) pe_int) pe_int) (pv 3)))
      (pss_one (ps_ret (pe_op op_mod (pe_callTy call_int1 (by rfl) mi (by decide +kernel) (pa_cons (pe_op op_fdiv (pv 4) pe_int) pa_nil)) (pv 1))))))), ?_⟩
    refine ⟨.ref l, rfl, l, _, 0, _, rfl, rfl, .of hd, at0, a, 0, rfl, rfl, _, rfl, ite2 (fun e => ?_) (fun e => ?_)⟩
    · refine ⟨.ref l, rfl, l, _, 0, _, rfl, rfl, .of hd, at0, .inl ⟨a, rfl, .int n, rfl, a, n, rfl, rfl, h0, ?_⟩⟩
      refine ⟨.ref l, rfl, l, _, 0, _, rfl, rfl, .of hd, at0, .int n, rfl, a, n, rfl, rfl, ⟨h0, h1⟩, .ref l, rfl, l, _, 0, 0, rfl, rfl, hd, rfl, ?_⟩
      refine ⟨_, rfl, q _ _ .at ⟨a / n, b, c, upd_same, Int.ediv_nonneg ha (by omega)⟩ (Int.emod_nonneg _ (by omega)) (Int.emod_lt_of_pos _ h0)⟩
    · refine ⟨.ref l, rfl, l, _, 2, _, rfl, rfl, .of hd, at2, c, 1, rfl, rfl, .ref l, rfl, l, _, 2, 2, rfl, rfl, hd, rfl, ?_⟩
      have hd' : (upd H l (.lst [.int a, .int b, .int (c + 1)])) l = some (.lst [.int a, .int b, .int (c + 1)]) := upd_same
      have at1 : atI [V.int a, .int b, .int (c + 1)] 1 = some (.int b) := rfl
      have at2 : atI [V.int a, .int b, .int (c + 1)] 2 = some (.int (c + 1)) := rfl
      have p1 : (0 : Int) < 2305843009213693669 := by decide
      have p2 : (0 : Int) < 1152921504606846779 := by decide
      refine ⟨.ref l, rfl, l, _, 1, _, rfl, rfl, .of hd', at1, .ref l, rfl, l, _, 2, _, rfl, rfl, .of hd', at2, _, _, rfl, rfl, .inl (by decide), _, _, rfl, rfl, .inl ⟨_, rfl, _, _, rfl, rfl, p1, ?_⟩⟩
      have b0 := Int.emod_nonneg (b + 86028121 * (c + 1)) (show (2305843009213693669 : Int) ≠ 0 by decide)
      have b1 := Int.emod_lt_of_pos (b + 86028121 * (c + 1)) p1
      refine ⟨_, rfl, _, rfl, _, _, rfl, rfl, .inl ⟨Int.lt_of_lt_of_le (by decide) b0, Int.lt_trans b1 (by decide)⟩, .ref l, rfl, l, _, 2, _, rfl, rfl, .of hd', at2, _, _, rfl, rfl, .inl (by decide), _, _, rfl, rfl, .inl ⟨_, rfl, _, _, rfl, rfl, p2, ?_⟩⟩
      refine ⟨_, _, rfl, rfl, .inr (by decide), _, rfl, _, _, rfl, rfl, ?_⟩
      refine ⟨_, rfl, _, _, rfl, rfl, ⟨by decide, by decide⟩, .inl ⟨_, rfl, .int n, rfl, _, n, rfl, rfl, h0, ?_⟩⟩
      exact q _ _ .at ⟨a, b, c + 1, upd_same, ha⟩ (Int.emod_nonneg _ (by omega)) (Int.emod_lt_of_pos _ h0)
theorem ok_pick {f fR : Addr} {fd fdR : FuncData} (F : Fun K "_law_pick" "_law_pick" sPick f fd) (FR : Fun K "_law_roll" "_law_roll" sRoll fR fdR)
    (bR : Binds K fdR ["dice", "total"] []) (gR : mg "_law_roll" = some (.ref fR)) (ml : mg "len" = none) (mi : mg "int" = none) :
    FnOk P w K mg base CX0 2 f fd ["dice", "items"] (spPick K) := by
  have GR : FnOk P w K mg base CX0 1 fR fdR ["dice", "total"] spRoll := ok_roll FR mi
  refine F.ok scPick (fun vs H Q E h => ?_) (fun cdv A outer s H vs Q E hr h => ?_)
  · obtain ⟨l, a, xs, rfl, _⟩ := h
    rfl
  · obtain ⟨l, a, xs, rfl, hd, ne, hx, h0, h1, q⟩ := h
    refine ⟨_, pss_one (ps_ret (pe_ix ix_seq (pv 1) (pe_call GR hr (by rfl) gR FR.kp bR .nil pass0
      (pa_cons (pv 0) (pa_cons (pe_callB call_len_seq (by rfl) ml PySem.boot_len (pa_cons (pv 1) pa_nil)) pa_nil))) (fun _ _ => rfl))), ?_⟩
    refine ⟨.ref a, rfl, .ref l, rfl, .ref a, rfl, a, xs, rfl, hx, l, xs.length, rfl, hd, by omega, by omega, fun H' r bt hd' r0 r1 => ?_⟩
    have e : xs[r.toNat]? = some xs[r.toNat] := List.getElem?_eq_getElem (by omega)
    have e2 : atI xs r = some xs[r.toNat] := by
      have := atI_nat e
      rwa [show ((r.toNat : Nat) : Int) = r by omega] at this
    rcases hx with hx | hx
    · exact .inl ⟨a, xs, r, _, rfl, rfl, bt.seqL ne hx, e2, q H' r.toNat _ bt hd' e⟩
    · exact .inr (.inl ⟨a, xs, r, _, rfl, rfl, bt.seqT ne hx, e2, q H' r.toNat _ bt hd' e⟩)
end
end K78

set_option maxHeartbeats 16000000
namespace K78
open PySem PySem.Spec PyProof.Rows L2 GG MT
abbrev sLetter : Stmt := topS 1
abbrev sTerm : Stmt := topS 14
abbrev sCkTerm : Stmt := topS 15
theorem scLetter : FnScope ["value"] ["value"] (defScope sLetter) := ⟨rfl, rfl, rfl, by decide +kernel, rfl, by decide +kernel, by decide +kernel⟩
theorem scTerm : FnScope ["value", "missing", "sign"] ["value"] (defScope sTerm) := ⟨rfl, rfl, rfl, by decide +kernel, rfl, by decide +kernel, by decide +kernel⟩
theorem scCkTerm : FnScope ["value"] ["value"] (defScope sCkTerm) := ⟨rfl, rfl, rfl, by decide +kernel, rfl, by decide +kernel, by decide +kernel⟩
def spLetter1 : Sp := fun vs H Q _ => ∃ c : Nat, vs = [.str (S [c])] ∧ Q (.bl (isL c)) H
def isT (cs : List Nat) : Bool := decide (1 ≤ cs.length ∧ cs.length < 400) && scan cs 1
theorem isT_term {t : Trm} (h : Ok t) (n : size t ≤ 200) : isT (flat t) = true := by
  have := flat_len t
  have := flat_pos t
  unfold isT
  rw [scan_term h, decide_eq_true ⟨by omega, by omega⟩]
  rfl
/-- what is no text -/
def NoStr (K : PySem.W.Frag) (H : Hp) (v : V) : Prop := ∃ t, TyX K H v (.type t) ∧ kitB t "str" = some false
def spTerm (K : PySem.W.Frag) : Sp := fun vs H Q _ => ∃ v, vs = [v] ∧ ((∃ cs, v = .str (S cs) ∧ cs.length ≤ 100000 ∧ Q (.bl (isT cs)) H) ∨ (NoStr K H v ∧ Q (.bl false) H))
def spCkTerm : Sp := fun vs H Q _ => ∃ t : Trm, vs = [.str (S (flat t))] ∧ Ok t ∧ size t ≤ 200 ∧ Q .non H
theorem leA (c : Nat) : (!decide ((S [c]).cps.toList < (Str.ofString "a").cps.toList) && !decide ((Str.ofString "z").cps.toList < (S [c]).cps.toList)) = isL c := by
  have e1 : (Str.ofString "a").cps.toList = [97] := by decide +kernel
  have e2 : (Str.ofString "z").cps.toList = [122] := by decide +kernel
  rw [e1, e2]
  show (!decide ([c] < [97]) && !decide ([122] < [c])) = decide (97 ≤ c ∧ c ≤ 122)
  have f1 : decide ([c] < [97]) = decide (c < 97) := by
    apply decide_eq_decide.mpr
    simp [List.cons_lt_cons_iff]
  have f2 : decide ([122] < [c]) = decide (122 < c) := by
    apply decide_eq_decide.mpr
    simp [List.cons_lt_cons_iff]
  rw [f1, f2]
  by_cases h1 : c < 97 <;> by_cases h2 : 122 < c <;> simp [h1, h2] <;> omega
section
variable {P : Program} {w : World} {K : PySem.W.Frag} {mg : Str → Option Value} {base : Heap}
theorem ok_letter {f : Addr} {fd : FuncData} {k : Nat} (F : Fun K "is_letter" "is_letter" sLetter f fd)
    (mstr : mg "str" = none) (ml : mg "len" = none) (ms : mg "isinstance" = none) :
    FnOk P w K mg base CX0 (k + 1) f fd ["value"] spLetter1 := by
  refine F.ok scLetter (fun vs H Q E h => ?_) (fun cdv A outer s H vs Q E hr h => ?_)
  · obtain ⟨v, rfl, _⟩ := h
    rfl
  · obtain ⟨c, rfl, q⟩ := h
    refine ⟨_, pss_one (ps_ret (pe_and (pe_callB call_isi (by rfl) ms (by decide +kernel) (pa_cons (pv 0) (pa_cons (pe_bltn (v := .ty "str") (by rfl) mstr (by decide +kernel) rfl) pa_nil)))
      (pe_and (pe_cmpR op_eq (pe_callB call_len_str (by rfl) ml PySem.boot_len (pa_cons (pv 0) pa_nil)) pe_int (nomark _))
      (pe_one (pe_chain op_le_str op_le_str pe_str (pv 0) pe_str))))), ?_⟩
    refine ⟨_, rfl, _, _, _, _, true, rfl, .ty _, .base (.str (S [c])), kit_ty (by decide +kernel), true, rfl, iteT ?_⟩
    refine ⟨_, rfl, S [c], rfl, (by show 1 ≤ sizeLine; decide), rfl, true, rfl, iteT ?_⟩
    rw [← leA c] at q
    refine ⟨_, rfl, _, _, rfl, rfl, _, rfl, ite2 (fun e => ?_) (fun e => ?_)⟩
    · refine ⟨_, _, rfl, rfl, ?_⟩
      rw [e, Bool.true_and] at q
      exact q
    · rw [Bool.not_eq_true _ |>.mp e, Bool.false_and] at q
      exact q
theorem drop_get {α : Type} {cs : List α} {i : Nat} {c : α} (h : cs[i]? = some c) : cs.drop i = c :: cs.drop (i + 1) := by
  obtain ⟨h1, h2⟩ := List.getElem?_eq_some_iff.mp h
  rw [List.drop_eq_getElem_cons h1, h2]
theorem eq42 (c : Nat) : decide (V.str ⟨#[c]⟩ = V.str (Str.ofString "*")) = decide (c = 42) := by
  rw [show Str.ofString "*" = S [42] by decide +kernel]
  have := eqS [c] [42]
  rw [this]
  apply decide_eq_decide.mpr
  simp
theorem scan_start {cs : List Nat} (h : 1 ≤ cs.length) (h2 : cs.length < 400) {Q : VK} {H : Hp} (q : Q (.bl (isT cs)) H) : Q (.bl (scan cs 1)) H := by
  unfold isT at q
  rw [decide_eq_true ⟨h, h2⟩, Bool.true_and] at q
  exact q
theorem ok_term {f fL : Addr} {fd fdL : FuncData} {tM : Tok} (F : Fun K "is_term" "is_term" sTerm f fd) (bL : Binds K fdL ["value"] [])
    (GL : FnOk P w K mg base CX0 1 fL fdL ["value"] spLetter1) (gL : mg "is_letter" = some (.ref fL)) (kL : PySem.W.keepIn K (.ref fL) = true)
    (gM : mg "MAX_LETTERS" = some (.int 200 tM)) (mstr : mg "str" = none) (ml : mg "len" = none) (ms : mg "isinstance" = none) :
    FnOk P w K mg base CX0 2 f fd ["value"] (spTerm K) := by
  refine F.ok scTerm (fun vs H Q E h => ?_) (fun cdv A outer s H vs Q E hr h => ?_)
  · obtain ⟨v, rfl, _⟩ := h
    rfl
  · obtain ⟨v, rfl, h⟩ := h
    have N := scTerm.nd
    refine ⟨_, pss_cons (ps_if (PW.pt (pw_or (pt_not (pt_val (pe_callB call_isi (by rfl) ms (by decide +kernel) (pa_cons (pv 0) (pa_cons (pe_bltn (v := .ty "str") (by rfl) mstr (by decide +kernel) rfl) pa_nil)))))
        (pw_or1 (pt_not (pt_chain op_le op_lt pe_int (pe_callB call_len_str (by rfl) ml PySem.boot_len (pa_cons (pv 0) pa_nil)) (pe_op op_mul pe_int (pe_glob (v := .int 200) (by rfl) gM ⟨_, rfl⟩))))))) (pss_one (ps_ret pe_bl)) pss_nil)
      (pss_cons (ps_set (i := 1) N rfl (.inl rfl) pe_int)
      (pss_cons (ps_for PassesOwn.never rfl (pi_str (pv 0)) (pg_name (i := 2) N rfl (.inl rfl))
        (pss_cons (ps_if (pt_cmpR op_eq (pv 1) pe_int (nomark _)) (pss_one (ps_ret pe_bl)) pss_nil)
        (pss_one (ps_if (pt_cmpR op_eq (pv 2) pe_str (nomark _)) (pss_one (ps_aug (i := 1) N rfl (.inl rfl) pe_int ip_add))
          (pss_one (ps_if (pt_val (pe_call GL hr (by rfl) gL kL bL .nil pass0 (pa_cons (pv 2) pa_nil))) (pss_one (ps_aug (i := 1) N rfl (.inl rfl) pe_int ip_sub)) (pss_one (ps_ret pe_bl))))))))
      (pss_one (ps_ret (pe_cmpR op_eq (pv 1) pe_int (nomark _)))))), ?_⟩
    rcases h with ⟨cs, rfl, hl, q⟩ | ⟨⟨t, ty, kb⟩, q⟩
    · have small : cs.length ≤ sizeLine := by
        have := sizeLine_eq
        omega
      refine ⟨_, rfl, _, _, _, _, true, rfl, .ty _, .base (.str (S cs)), kit_ty (by decide +kernel), true, rfl, iteF ?_⟩
      refine ⟨_, rfl, S cs, rfl, by rw [S_len]; exact small, _, _, rfl, rfl, _, rfl, ite2 (fun e => ?_) (fun e => ?_)⟩
      · have l1 := of_decide_eq_true e
        rw [S_len] at l1
        refine ⟨2, 200, rfl, rfl, .inl (by decide), _, _, rfl, rfl, _, rfl, ?_⟩
        refine ite2 (c := !decide ((((S cs).length : Nat) : Int) < 2 * 200)) (fun e2 => ?_) (fun e2 => ?_)
        all_goals rw [S_len] at e2
        · have c2 : ¬ ((cs.length : Nat) : Int) < 2 * 200 := of_decide_eq_false (by simpa using e2)
          have : isT cs = false := by
            unfold isT
            rw [decide_eq_false (by omega), Bool.false_and]
          rw [this] at q
          exact q
        · have l2 : ((cs.length : Nat) : Int) < 2 * 200 := by simpa using e2
          have q := scan_start (by omega) (by omega) q
          refine ⟨_, rfl, S cs, rfl, ?_⟩
          refine for_it (walk_str (z := S cs)) (fun i σ H2 => H2 = H ∧ ∃ (m : Nat) (y : Option V), σ = [some (.str (S cs)), some (.int (m : Int)), y] ∧ scan (cs.drop i) m = scan cs 1)
            ⟨rfl, 1, none, rfl, rfl⟩ (fun _ _ _ _ _ => trivial) (fun i x σ H2 H3 il hP y => ?_) (fun σ H2 hP => ?_)
          · obtain ⟨rfl, m, y2, rfl, es⟩ := hP
            obtain ⟨rfl, c, hc, rfl⟩ := y
            have hc' : cs[i]? = some c := by simpa using hc
            have ed : cs.drop i = c :: cs.drop (i + 1) := by
              obtain ⟨h1, h2⟩ := List.getElem?_eq_some_iff.mp hc'
              rw [List.drop_eq_getElem_cons h1, h2]
            rw [ed] at es
            refine ⟨_, rfl, rfl, _, rfl, ite2 (fun e3 => ?_) (fun e3 => ?_)⟩
            · have m0 : (m : Int) = 0 := V.int.inj (of_decide_eq_true e3)
              have m0 : m = 0 := by omega
              subst m0
              have z : scan cs 1 = false := es.symm
              rw [z] at q
              exact q
            · obtain ⟨m, rfl⟩ : ∃ n, m = n + 1 := by
                cases m with
                | zero => exact absurd (decide_eq_true rfl) e3
                | succ n => exact ⟨n, rfl⟩
              rw [MT.scan] at es
              refine ⟨_, rfl, rfl, _, rfl, ?_⟩
              rw [eq42]
              refine ite2 (fun e4 => ?_) (fun e4 => ?_)
              · have e4 := of_decide_eq_true e4
                rw [if_pos e4] at es
                exact ⟨_, rfl, _, _, rfl, rfl, rfl, m + 2, _, rfl, es⟩
              · have e4 : c ≠ 42 := fun z => e4 (decide_eq_true z)
                rw [if_neg e4] at es
                refine ⟨_, rfl, c, rfl, isL c, rfl, ite2 (fun e5 => ?_) (fun e5 => ?_)⟩
                · rw [if_pos e5] at es
                  refine ⟨_, rfl, _, _, rfl, rfl, rfl, m, some (.str ⟨#[c]⟩), ?_, es⟩
                  show [some (V.str (S cs)), some (V.int (((m + 1 : Nat) : Int) - 1)), _] = _
                  rw [show ((m + 1 : Nat) : Int) - 1 = (m : Int) by omega]
                · rw [if_neg e5] at es
                  rw [← es] at q
                  exact q
          · obtain ⟨rfl, m, y2, rfl, es⟩ := hP
            have e0 : cs.drop (S cs).cps.size = [] := List.drop_of_length_le (by show _ ≤ cs.toArray.size; rw [List.size_toArray]; exact Nat.le_refl _)
            rw [e0] at es
            refine ⟨_, rfl, rfl, ?_⟩
            have e1 : decide (V.int (m : Int) = V.int 0) = MT.scan cs 1 := by
              rw [← es]
              show _ = (m == 0)
              cases m with
              | zero => rfl
              | succ n =>
                have : ¬ (V.int ((n + 1 : Nat) : Int) = V.int 0) := fun z => by
                  have := V.int.inj z
                  omega
                rw [decide_eq_false this]
                rfl
            rw [e1]
            exact q
      · have : isT cs = false := by
          unfold isT
          rw [decide_eq_false (fun z => e (decide_eq_true (by rw [S_len]; omega))), Bool.false_and]
        rw [this] at q
        exact ⟨_, rfl, iteT q⟩
    · exact ⟨_, rfl, _, _, _, _, false, rfl, .ty _, ty, kit_ty kb, false, rfl, iteT q⟩
theorem ok_ckterm {f fT : Addr} {fd fdT : FuncData} (F : Fun K "check_term" "check_term" sCkTerm f fd) (bT : Binds K fdT ["value"] [])
    (GT : FnOk P w K mg base CX0 2 fT fdT ["value"] (spTerm K)) (gT : mg "is_term" = some (.ref fT)) (kT : PySem.W.keepIn K (.ref fT) = true) :
    FnOk P w K mg base CX0 3 f fd ["value"] spCkTerm := by
  refine F.ok scCkTerm (fun vs H Q E h => ?_) (fun cdv A outer s H vs Q E hr h => ?_)
  · obtain ⟨v, rfl, _⟩ := h
    rfl
  · obtain ⟨t, rfl, ok, sz, q⟩ := h
    refine ⟨_, pss_one (ps_if (pt_not (pt_val (pe_call GT hr (by rfl) gT kT bT .nil pass0 (pa_cons (pv 0) pa_nil)))) (pss_one ps_never) pss_nil), ?_⟩
    have fl := flat_len t
    exact ⟨_, rfl, _, rfl, .inl ⟨flat t, rfl, by omega, true, by rw [isT_term ok sz], iteF q⟩⟩
end
end K78

set_option maxHeartbeats 16000000
namespace K78
open PySem PySem.Spec PyProof.Rows L2 GG MT
/-! ### parts -/
def prtS (i : Nat) : Stmt := (clsBody (topS 6)).getD i (.Pass ⟨0, 0, 0, 0⟩)
abbrev sPInit : Stmt := prtS 0
abbrev sJoined : Stmt := topS 7
abbrev sParts : Stmt := topS 8
theorem scPInit : FnScope ["self", "text", "left", "right"] ["self", "text", "left", "right"] (defScope sPInit) := ⟨rfl, rfl, rfl, by decide +kernel, rfl, by decide +kernel, by decide +kernel⟩
theorem scJoined : FnScope ["left", "right"] ["left", "right"] (defScope sJoined) := ⟨rfl, rfl, rfl, by decide +kernel, rfl, by decide +kernel, by decide +kernel⟩
theorem scParts : FnScope ["term", "found", "open_parts", "sign", "left", "right", "part"] ["term"] (defScope sParts) := ⟨rfl, rfl, rfl, by decide +kernel, rfl, by decide +kernel, by decide +kernel⟩
structure PartC (K : PySem.W.Frag) (C : Addr) : Prop where
  c : Cls K C
  no1 : NoAttr K C "text"
  no2 : NoAttr K C "left"
  no3 : NoAttr K C "right"
abbrev prt (C dx : Addr) (cs : List Nat) (l r : V) : HO := .ins C dx [("text", .str (S cs)), ("left", l), ("right", r)]
def PartR (H : Hp) (C : Addr) : Trm → V → Prop
  | .let_ c, v => ∃ a dx, v = .ref a ∧ H a = some (prt C dx [c] .non .non)
  | .mul l r, v => ∃ a dx vl vr, v = .ref a ∧ H a = some (prt C dx (flat (.mul l r)) vl vr) ∧ PartR H C l vl ∧ PartR H C r vr
def Sides (H : Hp) (C : Addr) : Trm → V → V → Prop
  | .let_ _, l, r => l = .non ∧ r = .non
  | .mul t u, l, r => PartR H C t l ∧ PartR H C u r
theorem PartR.ins {H : Hp} {C : Addr} : ∀ {t : Trm} {v : V}, PartR H C t v → ∃ a dx l r, v = .ref a ∧ H a = some (prt C dx (flat t) l r) ∧ Sides H C t l r
  | .let_ c, v, ⟨a, dx, e, h⟩ => ⟨a, dx, _, _, e, h, rfl, rfl⟩
  | .mul _ _, v, ⟨a, dx, l, r, e, h, hl, hr⟩ => ⟨a, dx, l, r, e, h, hl, hr⟩
theorem PartR.mk {H : Hp} {C a dx : Addr} {t : Trm} {l r : V} (h : H a = some (prt C dx (flat t) l r)) (s : Sides H C t l r) : PartR H C t (.ref a) := by
  cases t with
  | let_ c =>
    obtain ⟨rfl, rfl⟩ := s
    exact ⟨a, dx, rfl, h⟩
  | mul t u => exact ⟨a, dx, l, r, rfl, h, s.1, s.2⟩
/-- parts stay where what they are stays -/
theorem PartR.keep {H H' : Hp} {C : Addr} (k : ∀ a dx fs, H a = some (.ins C dx fs) → H' a = some (.ins C dx fs)) : ∀ {t : Trm} {v : V}, PartR H C t v → PartR H' C t v
  | .let_ c, v, ⟨a, dx, e, h⟩ => ⟨a, dx, e, k _ _ _ h⟩
  | .mul _ _, v, ⟨a, dx, l, r, e, h, hl, hr⟩ => ⟨a, dx, l, r, e, k _ _ _ h, PartR.keep k hl, PartR.keep k hr⟩
theorem PartR.same {H H' : Hp} {C : Addr} {t : Trm} {v : V} (h : PartR H C t v) (s : Same H H') : PartR H' C t v := h.keep fun _ _ _ e => s _ _ e
theorem PartR.lst {H : Hp} {C p : Addr} {t : Trm} {v : V} {xs : List V} {o : HO} (h : PartR H C t v) (e : H p = some (.lst xs)) : PartR (upd H p o) C t v := h.keep fun a dx fs e2 => by
  rw [upd_ne (fun z => by rw [z, e] at e2; cases e2)]
  exact e2
theorem lk_t {x y z : V} : List.lookup ("text" : Str) [(("text" : Str), x), ("left", y), ("right", z)] = some x := by rfl
theorem lk_l {x y z : V} : List.lookup ("left" : Str) [(("text" : Str), x), ("left", y), ("right", z)] = some y := by rfl
theorem lk_r {x y z : V} : List.lookup ("right" : Str) [(("text" : Str), x), ("left", y), ("right", z)] = some z := by rfl
def spPInit (C : Addr) : Sp := fun vs H Q _ => ∃ x dx t l r, vs = [.ref x, t, l, r] ∧ H x = some (.ins C dx []) ∧
  ∀ H', But x H H' → H' x = some (.ins C dx [("text", t), ("left", l), ("right", r)]) → Q .non H'
def spJoined (C : Addr) : Sp := fun vs H Q _ => ∃ t u vl vr, vs = [vl, vr] ∧ PartR H C t vl ∧ PartR H C u vr ∧ size t + size u ≤ 100000 ∧
  ∀ H' v, Same H H' → PartR H' C (.mul t u) v → Q v H'
def spParts (C : Addr) : Sp := fun vs H Q _ => ∃ t : Trm, vs = [.str (S (flat t))] ∧ Ok t ∧ size t ≤ 10000 ∧
  ∀ H' p vs, Same H H' → H p = none → H' p = some (.lst vs) → All2 (PartR H' C) (subs t) vs → Q (.ref p) H'
section
variable {P : Program} {w : World} {K : PySem.W.Frag} {mg : Str → Option Value} {base : Heap}
theorem ok_pinit {f C : Addr} {fd : FuncData} {k : Nat} (F : Fun K "__init__" "Part.__init__" sPInit f fd) (W : PartC K C) :
    FnOk P w K mg base CX0 (k + 1) f fd ["self", "text", "left", "right"] (spPInit C) := by
  refine F.ok scPInit (fun vs H Q E h => ?_) (fun cdv A outer s H vs Q E hr h => ?_)
  · obtain ⟨x, dx, t, l, r, rfl, _⟩ := h
    rfl
  · obtain ⟨x, dx, t, l, r, rfl, hx, q⟩ := h
    refine ⟨_, pss_cons (ps_fld (pv 0) (pv 1) rfl) (pss_cons (ps_fld (pv 0) (pv 2) rfl) (pss_one (ps_fld (pv 0) (pv 3) rfl))), ?_⟩
    refine ⟨_, rfl, _, rfl, x, C, dx, _, rfl, hx, W.c, W.no1, (by show 0 < 1000; decide), ?_⟩
    refine ⟨_, rfl, _, rfl, x, C, dx, _, rfl, upd_same, W.c, W.no2, (by show 1 < 1000; decide), ?_⟩
    refine ⟨_, rfl, _, rfl, x, C, dx, _, rfl, upd_same, W.c, W.no3, (by show 2 < 1000; decide), ?_⟩
    refine q _ (fun b o n e => ?_) ?_
    · rw [upd_ne n, upd_ne n, upd_ne n]
      exact e
    · rw [upd_same]
      rfl
theorem ok_joined {f fI C : Addr} {fd fdI : FuncData} (F : Fun K "joined" "joined" sJoined f fd) (W : PartC K C) (bI : Binds K fdI ["self", "text", "left", "right"] []) (M : Mk K C fI)
    (GI : FnOk P w K mg base CX0 1 fI fdI ["self", "text", "left", "right"] (spPInit C)) (gP : mg "Part" = some (.ref C)) :
    FnOk P w K mg base CX0 3 f fd ["left", "right"] (spJoined C) := by
  refine F.ok scJoined (fun vs H Q E h => ?_) (fun cdv A outer s H vs Q E hr h => ?_)
  · obtain ⟨t, u, vl, vr, rfl, _⟩ := h
    rfl
  · obtain ⟨t, u, vl, vr, rfl, ht, hu, sz, q⟩ := h
    obtain ⟨a, dx, l, r, rfl, ha, sa⟩ := ht.ins
    obtain ⟨b, dy, l2, r2, rfl, hb, sb⟩ := hu.ins
    refine ⟨_, pss_one (ps_ret (pe_make M GI hr (by rfl) gP bI .nil pass0 (pa_cons (pe_op op_add_str (pe_op op_add_str pe_str (pe_fld (pv 0) rfl)) (pe_fld (pv 1) rfl)) (pa_cons (pv 0) (pa_cons (pv 1) pa_nil))))), ?_⟩
    have f1 := flat_len t
    have f2 := flat_len u
    have sl := sizeLine_eq
    refine ⟨_, rfl, a, C, dx, _, _, rfl, ha, W.c, W.no1, lk_t, _, _, rfl, rfl, by
      show (Str.ofString "*").length + (S (flat t)).length ≤ sizeLine
      rw [S_len (flat t), show (Str.ofString "*").length = 1 by decide +kernel]
      omega, ?_⟩
    refine ⟨_, rfl, b, C, dy, _, _, rfl, hb, W.c, W.no1, lk_t, _, _, rfl, rfl, ?_, ?_⟩
    · show (Str.ofString "*" ++ S (flat t)).length + (S (flat u)).length ≤ sizeLine
      rw [show Str.ofString "*" = S [42] by decide +kernel, S_add, S_len, S_len, List.length_append]
      show 1 + _ + _ ≤ _
      omega
    refine ⟨_, rfl, _, rfl, fun x d nx nd ne => ?_⟩
    have e : (Str.ofString "*" ++ S (flat t)) ++ S (flat u) = S (flat (.mul t u)) := by
      rw [show Str.ofString "*" = S [42] by decide +kernel, S_add, S_add]
      rfl
    refine ⟨x, d, _, _, _, rfl, upd_same, fun H' bt hx => ⟨rfl, ?_⟩⟩
    rw [e] at hx
    have s1 : Same H H' := fun c o hc => by
      have c1 : c ≠ x := ne_of_none hc nx
      exact bt _ _ c1 (by rw [upd_ne c1, upd_ne (ne_of_none hc nd)]; exact hc)
    exact q H' _ s1 ⟨x, d, _, _, rfl, hx, ht.same s1, hu.same s1⟩
theorem subs_size : ∀ (t : Trm), ∀ u ∈ subs t, size u ≤ size t
  | .let_ c, u, hu => by
    have : u = .let_ c := by simpa [subs] using hu
    rw [this]
    exact Nat.le_refl _
  | .mul l r, u, hu => by
    rcases List.mem_cons.mp hu with rfl | hu
    · exact Nat.le_refl _
    · rw [size]
      rcases List.mem_append.mp hu with hu | hu
      · have := subs_size l u hu
        omega
      · have := subs_size r u hu
        omega
theorem run_star {rs : List Nat} {ts hs fin : List Trm} (h : Run (42 :: rs) ts hs fin) : ∃ l r us hs', ts = l :: r :: us ∧ hs = .mul l r :: hs' ∧ Run rs (.mul l r :: us) hs' fin := by
  cases h with
  | star h => exact ⟨_, _, _, _, rfl, rfl, h⟩
  | letr e _ => exact absurd e (by decide)
theorem run_let {c : Nat} {rs : List Nat} {ts hs fin : List Trm} (n : c ≠ 42) (h : Run (c :: rs) ts hs fin) : ∃ hs', isL c = true ∧ hs = .let_ c :: hs' ∧ Run rs (.let_ c :: ts) hs' fin := by
  cases h with
  | star h => exact absurd rfl n
  | letr e h => exact ⟨_, e, rfl, h⟩
theorem run_nil {ts hs fin : List Trm} (h : Run [] ts hs fin) : ts = fin ∧ hs = [] := by
  cases h
  exact ⟨rfl, rfl⟩
theorem all2_lst {H : Hp} {C p : Addr} {ts : List Trm} {vs xs : List V} {o : HO} (h : All2 (PartR H C) ts vs) (e : H p = some (.lst xs)) : All2 (PartR (upd H p o) C) ts vs := h.imp fun _ _ _ g => g.lst e
theorem all2_same {H H' : Hp} {C : Addr} {ts : List Trm} {vs : List V} (h : All2 (PartR H C) ts vs) (s : Same H H') : All2 (PartR H' C) ts vs := h.imp fun _ _ _ g => g.same s
theorem ok_parts {f fI fJ C : Addr} {fd fdI fdJ : FuncData} (F : Fun K "parts_of" "parts_of" sParts f fd) (W : PartC K C) (bI : Binds K fdI ["self", "text", "left", "right"] []) (bJ : Binds K fdJ ["left", "right"] []) (M : Mk K C fI)
    (GI : FnOk P w K mg base CX0 1 fI fdI ["self", "text", "left", "right"] (spPInit C)) (GJ : FnOk P w K mg base CX0 3 fJ fdJ ["left", "right"] (spJoined C)) (gP : mg "Part" = some (.ref C)) (gJ : mg "joined" = some (.ref fJ))
    (kJ : PySem.W.keepIn K (.ref fJ) = true) : FnOk P w K mg base CX0 4 f fd ["term"] (spParts C) := by
  refine F.ok scParts (fun vs H Q E h => ?_) (fun cdv A outer s H vs Q E hr h => ?_)
  · obtain ⟨t, rfl, _⟩ := h
    rfl
  · obtain ⟨t, rfl, ok, sz, q⟩ := h
    have N := scParts.nd
    have fl := flat_len t
    have sl := sizeLine_eq
    refine ⟨_, pss_cons (ps_set (i := 1) N rfl (.inl rfl) (pe_lst pa_nil)) (pss_cons (ps_set (i := 2) N rfl (.inl rfl) (pe_lst pa_nil))
      (pss_cons (ps_for PassesOwn.never rfl (pi_str (pe_revS (pv 0))) (pg_name (i := 3) N rfl (.inl rfl))
        (C8.pss_cut (ps_if (pt_cmpR op_eq (pv 3) pe_str (nomark _))
            (pss_cons (ps_set (i := 4) N rfl (.inl rfl) (pe_bm0 PySem.F.plainAttrs_list PySem.F.slot_list_pop PySem.F.type_list_pop mt_pop (pv 2)))
            (pss_cons (ps_set (i := 5) N rfl (.inl rfl) (pe_bm0 PySem.F.plainAttrs_list PySem.F.slot_list_pop PySem.F.type_list_pop mt_pop (pv 2)))
            (pss_one (ps_set (i := 6) N rfl (.inl rfl) (pe_call GJ hr (by rfl) gJ kJ bJ .nil pass0 (pa_cons (pv 4) (pa_cons (pv 5) pa_nil)))))))
            (pss_one (ps_set (i := 6) N rfl (.inl rfl) (pe_make M GI (hr.mono (by decide)) (by rfl) gP bI .nil pass0 (pa_cons (pv 3) (pa_cons pe_non (pa_cons pe_non pa_nil)))))))
        (pss_cons (ps_expr (pe_bm PySem.F.plainAttrs_list PySem.F.slot_list_append PySem.F.type_list_append mt_append (pv 2) (pa_cons (pv 6) pa_nil)))
          (pss_one (ps_expr (pe_bm PySem.F.plainAttrs_list PySem.F.slot_list_append PySem.F.type_list_append mt_append (pv 1) (pa_cons (pv 6) pa_nil)))))))
      (pss_one (ps_ret (pe_revL (pv 1)))))), ?_⟩
    refine ⟨(by show 0 ≤ sizeLine; decide), fun F0 nF => ⟨(by show 0 ≤ sizeLine; decide), fun O0 nO => ?_⟩⟩
    have ne : O0 ≠ F0 := fun e => by
      rw [e, upd_same] at nO
      cases nO
    have hO0 : H O0 = none := by
      rw [upd_ne ne] at nO
      exact nO
    refine ⟨_, rfl, flat t, rfl, by omega, _, rfl, ?_⟩
    refine for_it (walk_str (z := S (flat t).reverse)) (fun i σ H2 => ∃ y3 y4 y5 y6, σ = [some (.str (S (flat t))), some (.ref F0), some (.ref O0), y3, y4, y5, y6] ∧ Same H H2 ∧
        ∃ (ts hs done : List Trm) (vs fvs : List V), Run ((flat t).reverse.drop i) ts hs [t] ∧ (subs t).reverse = done ++ hs ∧ ts.length ≤ i ∧ H2 O0 = some (.lst vs.reverse) ∧ All2 (PartR H2 C) ts vs ∧ H2 F0 = some (.lst fvs) ∧ All2 (PartR H2 C) done fvs)
      ⟨_, _, _, _, rfl, (sameUpd nF).trans (sameUpd nO), [], (subs t).reverse, [], [], [], run_term ok, rfl, Nat.le_refl _, upd_same, trivial, by rw [upd_ne (Ne.symm ne)]; exact upd_same, trivial⟩
      (fun _ _ _ _ _ => trivial) (fun i x σ H2 H3 il hP y => ?_) (fun σ H2 hP => ?_)
    · obtain ⟨y3, y4, y5, y6, rfl, sm, ts, hs, done, vs, fvs, R, ed, tl, hO, av, hF, af⟩ := hP
      obtain ⟨rfl, c, hc, rfl⟩ := y
      have il' : i < (flat t).length := by
        have : (S (flat t).reverse).cps.size = (flat t).length := by
          show (flat t).reverse.toArray.size = _
          rw [List.size_toArray, List.length_reverse]
        omega
      have hc' : (flat t).reverse[i]? = some c := by
        have := hc
        simpa using this
      rw [drop_get hc'] at R
      have la := av.len
      have lf := af.len
      have ld : done.length + hs.length = (flat t).length := by
        have := congrArg List.length ed
        rw [List.length_reverse, subs_len, List.length_append] at this
        omega
      refine ⟨fun σ' H' => ∃ (y4 y5 : Option V) (v : V) (u : Trm) (ts' hs' : List Trm) (vs' : List V), σ' = [some (.str (S (flat t))), some (.ref F0), some (.ref O0), some (.str ⟨#[c]⟩), y4, y5, some v] ∧ Same H H' ∧
        Run ((flat t).reverse.drop (i + 1)) (u :: ts') hs' [t] ∧ hs = u :: hs' ∧ ts'.length ≤ i ∧ H' O0 = some (.lst vs'.reverse) ∧ All2 (PartR H' C) ts' vs' ∧ PartR H' C u v ∧ H' F0 = some (.lst fvs) ∧ All2 (PartR H' C) done fvs, ?_, ?_⟩
      · refine ⟨_, rfl, rfl, _, rfl, ?_⟩
        rw [eq42]
        refine ite2 (fun e => ?_) (fun e => ?_)
        · have e := of_decide_eq_true e
          subst e
          obtain ⟨l, r, us, hs', rfl, rfl, R'⟩ := run_star R
          match vs, av with
          | vl :: vr :: vs, ⟨pl, pr, pu⟩ =>
            have e1 : (vl :: vr :: vs).reverse = (vr :: vs).reverse ++ [vl] := by simp
            have e2 : (vr :: vs).reverse = vs.reverse ++ [vr] := by simp
            refine ⟨_, rfl, .inl ⟨rfl, _, .inl (.inl hO)⟩, O0, _, vl, rfl, rfl, hO, by rw [e1]; simp, ?_⟩
            rw [e1, List.dropLast_concat, e2]
            refine ⟨_, rfl, .inl ⟨rfl, _, .inl (.inl upd_same)⟩, O0, _, vr, rfl, rfl, upd_same, by simp, ?_⟩
            rw [List.dropLast_concat, upd_upd]
            have pl' := pl.lst (o := .lst vs.reverse) hO
            have pr' := pr.lst (o := .lst vs.reverse) hO
            have pu' := all2_lst (o := .lst vs.reverse) pu hO
            have af' := all2_lst (o := .lst vs.reverse) af hO
            have sz2 := subs_size t (.mul l r) (by
              have : Trm.mul l r ∈ (subs t).reverse := by rw [ed]; simp
              simpa using this)
            have sz3 : size l + size r ≤ 100000 := by
              have : size (.mul l r) = size l + size r := rfl
              omega
            refine ⟨_, rfl, _, rfl, l, r, vl, vr, rfl, pl', pr', sz3, fun H' v s' pv' => ?_⟩
            refine ⟨_, _, v, .mul l r, us, hs', vs, rfl, fun b o eb => ?_, R', rfl, ?_, s' _ _ upd_same, all2_same pu' s', pv', s' _ _ (by rw [upd_ne (Ne.symm ne)]; exact hF), all2_same af' s'⟩
            · exact s' _ _ (by rw [upd_ne (ne_of_none eb hO0)]; exact sm _ _ eb)
            · simp only [List.length_cons] at tl
              omega
        · have e : c ≠ 42 := fun z => e (decide_eq_true z)
          obtain ⟨hs', lc, rfl, R'⟩ := run_let e R
          refine ⟨_, rfl, fun x d nx nd nxd => ?_⟩
          refine ⟨x, d, _, _, _, rfl, upd_same, fun H' bt hx => ⟨rfl, ?_⟩⟩
          have s1 : Same H3 H' := fun b o eb => by
            have c1 : b ≠ x := ne_of_none eb nx
            exact bt _ _ c1 (by rw [upd_ne c1, upd_ne (ne_of_none eb nd)]; exact eb)
          exact ⟨_, _, .ref x, .let_ c, ts, hs', vs, rfl, sm.trans s1, R', rfl, tl, s1 _ _ hO, all2_same av s1, ⟨x, d, rfl, hx⟩, s1 _ _ hF, all2_same af s1⟩
      · intro σ' H' hM
        obtain ⟨y4, y5, v, u, ts', hs', vs', rfl, sm', R', rfl, tl', hO', av', pu, hF', af'⟩ := hM
        have la' := av'.len
        refine ⟨_, rfl, .inl ⟨rfl, _, .inl (.inl hO')⟩, _, rfl, O0, _, v, rfl, rfl, hO', ?_, ?_⟩
        · rw [List.length_reverse]
          omega
        have hF2 : (upd H' O0 (.lst (vs'.reverse ++ [v]))) F0 = some (.lst fvs) := by
          rw [upd_ne (Ne.symm ne)]
          exact hF'
        refine ⟨_, rfl, .inl ⟨rfl, _, .inl (.inl hF2)⟩, _, rfl, F0, _, v, rfl, rfl, hF2, by omega, ?_⟩
        refine ⟨_, _, _, _, rfl, fun b o eb => ?_, u :: ts', hs', done ++ [u], v :: vs', fvs ++ [v], R', by rw [ed]; simp, by simp; omega, ?_, ?_, upd_same, ?_⟩
        · rw [upd_ne (ne_of_none eb nF), upd_ne (ne_of_none eb hO0)]
          exact sm' _ _ eb
        · rw [upd_ne ne, upd_same, List.reverse_cons]
        · exact ⟨(pu.lst hO').lst hF2, all2_lst (all2_lst av' hO') hF2⟩
        · exact (all2_lst (all2_lst af' hO') hF2).snoc ((pu.lst hO').lst hF2)
    · obtain ⟨y3, y4, y5, y6, rfl, sm, ts, hs, done, vs, fvs, R, ed, tl, hO, av, hF, af⟩ := hP
      have e0 : (flat t).reverse.drop (S (flat t).reverse).cps.size = [] := by
        apply List.drop_of_length_le
        show _ ≤ (flat t).reverse.toArray.size
        rw [List.size_toArray]
        exact Nat.le_refl _
      rw [e0] at R
      obtain ⟨_, rfl⟩ := run_nil R
      rw [List.append_nil] at ed
      have ar := af.rev
      rw [← ed, List.reverse_reverse] at ar
      refine ⟨_, rfl, F0, fvs, rfl, .inl (.inl hF), fun p np => ?_⟩
      have s3 := sameUpd (o := .lst fvs.reverse) np
      exact q _ p fvs.reverse (sm.trans s3) (by
        rcases hq : H p with _ | o
        · rfl
        · exact absurd (sm _ _ hq) (by rw [np]; exact fun z => by cases z)) upd_same (all2_same ar s3)
end
end K78

set_option maxHeartbeats 16000000
namespace K78
open PySem PySem.Spec PyProof.Rows L2 GG MT
/-! ### the three rules, forms -/
abbrev sRules : Stmt := topS 9
theorem scRules : FnScope ["part", "left", "right", "found"] ["part"] (defScope sRules) := ⟨rfl, rfl, rfl, by decide +kernel, rfl, by decide +kernel, by decide +kernel⟩
def RuleR (H : Hp) (C : Addr) (kv : Nat × Trm) (v : V) : Prop := ∃ q pv, v = .ref q ∧ H q = some (.tup [.int kv.1, pv]) ∧ PartR H C kv.2 pv
theorem RuleR.same {H H' : Hp} {C : Addr} {kv : Nat × Trm} {v : V} (h : RuleR H C kv v) (s : Same H H') : RuleR H' C kv v := by
  obtain ⟨q, pv, e, a, b⟩ := h
  exact ⟨q, pv, e, s _ _ a, b.same s⟩
theorem RuleR.lst {H : Hp} {C p : Addr} {kv : Nat × Trm} {v : V} {xs : List V} {o : HO} (h : RuleR H C kv v) (e : H p = some (.lst xs)) : RuleR (upd H p o) C kv v := by
  obtain ⟨q, pv, e1, a, b⟩ := h
  refine ⟨q, pv, e1, ?_, b.lst e⟩
  rw [upd_ne (fun z => by rw [z, e] at a; cases a)]
  exact a
/-- one more -/
theorem rules_add {H : Hp} {C F T : Addr} {ks : List (Nat × Trm)} {vs : List V} {k : Nat} {u : Trm} {pv : V} (hF : H F = some (.lst vs)) (a : All2 (RuleR H C) ks vs) (p : PartR H C u pv) (nT : H T = none) :
    All2 (RuleR (upd (upd H T (.tup [.int k, pv])) F (.lst (vs ++ [.ref T]))) C) (ks ++ [(k, u)]) (vs ++ [.ref T]) := by
  have s := sameUpd (o := .tup [.int k, pv]) nT
  have hF' := s _ _ hF
  refine All2.snoc (a.imp fun x _ v h => (h.same s).lst hF') ⟨T, pv, rfl, ?_, (p.same s).lst hF'⟩
  rw [upd_ne (fun e => by rw [e, hF] at nT; cases nT)]
  exact upd_same
def spRulesAt (C : Addr) : Sp := fun vs H Q _ => ∃ t v, vs = [v] ∧ PartR H C t v ∧
  ∀ H' p us, Same H H' → H p = none → H' p = some (.lst us) → All2 (RuleR H' C) (rules t) us → Q (.ref p) H'
theorem eqT (a b : List Nat) : decide (V.str (S a) = V.str (S b)) = decide (a = b) := eqS a b
section
variable {P : Program} {w : World} {K : PySem.W.Frag} {mg : Str → Option Value} {base : Heap}
theorem ok_rules {f C : Addr} {fd : FuncData} {k : Nat} (F : Fun K "rules_at" "rules_at" sRules f fd) (W : PartC K C) :
    FnOk P w K mg base CX0 (k + 1) f fd ["part"] (spRulesAt C) := by
  refine F.ok scRules (fun vs H Q E h => ?_) (fun cdv A outer s H vs Q E hr h => ?_)
  · obtain ⟨t, v, rfl, _⟩ := h
    rfl
  · obtain ⟨t, v, rfl, ht, q⟩ := h
    have N := scRules.nd
    refine ⟨_, pss_cons (ps_par (by rfl) N (i := 1) (j := 2) rfl rfl (by decide) rfl rfl (pa_cons (pe_fld (pv 0) rfl) (pa_cons (pe_fld (pv 0) rfl) pa_nil)) (by rfl))
      (pss_cons (ps_if (pt_cmp (pc_isN (pv 1))) (pss_one (ps_ret (pe_lst pa_nil))) pss_nil)
      (pss_cons (ps_set (i := 3) N rfl (.inl rfl) (pe_lst pa_nil))
      (C8.pss_cut (ps_if (PW.pt (pw_and (pt_cmp (pc_notN (pe_fld (pv 1) rfl))) (pw_and (pt_cmp (pc_notN (pe_fld (pv 2) rfl)))
            (pw_and1 (pt_cmpR op_eq (pe_fld (pe_fld (pv 1) rfl) rfl) (pe_fld (pe_fld (pv 2) rfl) rfl) (nomark _))))))
          (pss_one (ps_expr (pe_bm PySem.F.plainAttrs_list PySem.F.slot_list_append PySem.F.type_list_append mt_append (pv 3) (pa_cons (pe_tup (pa_cons pe_int (pa_cons (pe_fld (pv 1) rfl) pa_nil))) pa_nil)))) pss_nil)
      (C8.pss_cut (ps_if (PW.pt (pw_and (pt_cmp (pc_notN (pe_fld (pv 2) rfl))) (pw_and (pt_cmp (pc_notN (pe_fld (pe_fld (pv 2) rfl) rfl)))
            (pw_and1 (pt_cmpR op_eq (pe_fld (pe_fld (pe_fld (pv 2) rfl) rfl) rfl) (pe_fld (pv 1) rfl) (nomark _))))))
          (pss_one (ps_expr (pe_bm PySem.F.plainAttrs_list PySem.F.slot_list_append PySem.F.type_list_append mt_append (pv 3) (pa_cons (pe_tup (pa_cons pe_int (pa_cons (pe_fld (pv 2) rfl) pa_nil))) pa_nil)))) pss_nil)
      (C8.pss_cut (ps_if (PW.pt (pw_and (pt_cmp (pc_notN (pe_fld (pv 1) rfl))) (pw_and (pt_cmp (pc_notN (pe_fld (pe_fld (pv 1) rfl) rfl)))
            (pw_and1 (pt_cmpR op_eq (pe_fld (pe_fld (pe_fld (pv 1) rfl) rfl) rfl) (pe_fld (pv 2) rfl) (nomark _))))))
          (pss_one (ps_expr (pe_bm PySem.F.plainAttrs_list PySem.F.slot_list_append PySem.F.type_list_append mt_append (pv 3) (pa_cons (pe_tup (pa_cons pe_int (pa_cons (pe_fld (pv 1) rfl) pa_nil))) pa_nil)))) pss_nil)
      (pss_one (ps_ret (pv 3)))))))), ?_⟩
    obtain ⟨a, dx, vl, vr, rfl, ha, sd⟩ := ht.ins
    refine ⟨_, rfl, a, C, dx, _, _, rfl, ha, W.c, W.no2, lk_l, _, rfl, a, C, dx, _, _, rfl, ha, W.c, W.no3, lk_r, _, _, rfl, ?_⟩
    cases t with
    | let_ c =>
      obtain ⟨rfl, rfl⟩ := sd
      exact ⟨_, rfl, _, rfl, iteT ⟨(by show 0 ≤ sizeLine; decide), fun p np => q _ p [] (sameUpd np) np upd_same trivial⟩⟩
    | mul l r =>
      obtain ⟨pl, pr⟩ := sd
      obtain ⟨b, dy, ll, lr, rfl, hb, sb⟩ := pl.ins
      obtain ⟨c, dz, rl, rr, rfl, hc, sc⟩ := pr.ins
      refine ⟨_, rfl, _, rfl, iteF ?_⟩
      refine ⟨(by show 0 ≤ sizeLine; decide), fun F0 nF => ?_⟩
      have s0 := sameUpd (o := .lst []) nF
      have small : ∀ us : List V, us.length ≤ 3 → us.length < sizeLine := fun us h => by
        have := sizeLine_eq
        omega
      refine ⟨fun σ' H' => σ' = [some (.ref a), some (.ref b), some (.ref c), some (.ref F0)] ∧ Same H H' ∧ ∃ us, H' F0 = some (.lst us) ∧ us.length ≤ 1 ∧ All2 (RuleR H' C) (r1 l r) us, ?_, ?_⟩
      · have hb' := s0 _ _ hb
        have hc' := s0 _ _ hc
        refine ⟨_, rfl, b, C, dy, _, _, rfl, hb', W.c, W.no2, lk_l, _, rfl, ?_⟩
        cases l with
        | let_ c =>
          obtain ⟨rfl, rfl⟩ := sb
          exact iteF (iteF ⟨rfl, s0, [], upd_same, Nat.zero_le _, trivial⟩)
        | mul l1 l2 =>
          obtain ⟨p1, p2⟩ := sb
          obtain ⟨b1, db1, _, _, rfl, hb1, _⟩ := p1.ins
          obtain ⟨b2, db2, _, _, rfl, hb2, _⟩ := id p2.ins
          refine iteT ⟨_, rfl, c, C, dz, _, _, rfl, hc', W.c, W.no2, lk_l, _, rfl, ?_⟩
          cases r with
          | let_ c =>
            obtain ⟨rfl, rfl⟩ := sc
            exact iteF (iteF ⟨rfl, s0, [], upd_same, Nat.zero_le _, trivial⟩)
          | mul m1 m2 =>
            obtain ⟨p3, p4⟩ := sc
            obtain ⟨c1, dc1, _, _, rfl, hc1, _⟩ := p3.ins
            refine iteT ⟨_, rfl, b, C, dy, _, _, rfl, hb', W.c, W.no3, lk_r, b2, C, db2, _, _, rfl, s0 _ _ hb2, W.c, W.no1, lk_t, ?_⟩
            refine ⟨_, rfl, c, C, dz, _, _, rfl, hc', W.c, W.no2, lk_l, c1, C, dc1, _, _, rfl, s0 _ _ hc1, W.c, W.no1, lk_t, rfl, _, rfl, ?_⟩
            rw [eqT]
            show if decide (flat l2 = flat m1) = true then _ else _
            by_cases e : flat l2 = flat m1
            · rw [decide_eq_true e]
              refine iteT ⟨_, rfl, .inl ⟨rfl, _, .inl (.inl upd_same)⟩, ?_⟩
              refine ⟨_, rfl, b, C, dy, _, _, rfl, hb', W.c, W.no3, lk_r, (by show 2 ≤ sizeLine; decide), fun T nT => ?_⟩
              have sT := sameUpd (o := .tup [.int 1, .ref b2]) nT
              refine ⟨F0, _, _, rfl, rfl, sT _ _ upd_same, small _ (by decide), ?_⟩
              have ad := rules_add (k := 1) (u := l2) (pv := .ref b2) (ks := []) (vs := []) (F := F0) upd_same trivial (p2.same s0) nT
              refine ⟨rfl, fun z o ez => ?_, _, upd_same, (Nat.le_refl 1), ?_⟩
              · rw [upd_ne (ne_of_none ez nF)]
                exact sT _ _ (s0 _ _ ez)
              · rw [show r1 (.mul l1 l2) (.mul m1 m2) = [(1, l2)] from if_pos e]
                exact ad
            · rw [decide_eq_false e]
              refine iteF ⟨rfl, s0, [], upd_same, Nat.zero_le _, ?_⟩
              rw [show r1 (.mul l1 l2) (.mul m1 m2) = [] from if_neg e]
              trivial
      rintro σ' H1 ⟨rfl, s1, us, hF, lu, au⟩
      refine ⟨fun σ' H' => σ' = [some (.ref a), some (.ref b), some (.ref c), some (.ref F0)] ∧ Same H H' ∧ ∃ us, H' F0 = some (.lst us) ∧ us.length ≤ 2 ∧ All2 (RuleR H' C) (r1 l r ++ r2 l r) us, ?_, ?_⟩
      · have hb' := s1 _ _ hb
        have hc' := s1 _ _ hc
        refine ⟨_, rfl, c, C, dz, _, _, rfl, hc', W.c, W.no2, lk_l, _, rfl, ?_⟩
        cases r with
        | let_ x =>
          obtain ⟨rfl, rfl⟩ := sc
          refine iteF (iteF ⟨rfl, s1, us, hF, by omega, ?_⟩)
          rw [show r2 l (.let_ x) = [] by cases l <;> rfl, List.append_nil]
          exact au
        | mul m1 m2 =>
          obtain ⟨p3, p4⟩ := sc
          obtain ⟨c1, dc1, _, _, rfl, hc1, sd1⟩ := id p3.ins
          refine iteT ⟨_, rfl, c, C, dz, _, _, rfl, hc', W.c, W.no2, lk_l, c1, C, dc1, _, _, rfl, s1 _ _ hc1, W.c, W.no2, lk_l, _, rfl, ?_⟩
          cases m1 with
          | let_ x =>
            obtain ⟨rfl, rfl⟩ := sd1
            refine iteF (iteF ⟨rfl, s1, us, hF, by omega, ?_⟩)
            rw [show r2 l (.mul (.let_ x) m2) = [] by cases l <;> rfl, List.append_nil]
            exact au
          | mul x y =>
            obtain ⟨p5, p6⟩ := sd1
            obtain ⟨x1, dx1, _, _, rfl, hx1, _⟩ := p5.ins
            refine iteT ⟨_, rfl, c, C, dz, _, _, rfl, hc', W.c, W.no2, lk_l, c1, C, dc1, _, _, rfl, s1 _ _ hc1, W.c, W.no2, lk_l, x1, C, dx1, _, _, rfl, s1 _ _ hx1, W.c, W.no1, lk_t, ?_⟩
            refine ⟨_, rfl, b, C, dy, _, _, rfl, hb', W.c, W.no1, lk_t, rfl, _, rfl, ?_⟩
            rw [eqT]
            show if decide (flat x = flat l) = true then _ else _
            have er : r2 l (.mul (.mul x y) m2) = if flat x = flat l then [(2, .mul x y)] else [] := by cases l <;> rfl
            rw [er]
            by_cases e : flat x = flat l
            · rw [decide_eq_true e]
              refine iteT ⟨_, rfl, .inl ⟨rfl, _, .inl (.inl hF)⟩, ?_⟩
              refine ⟨_, rfl, c, C, dz, _, _, rfl, hc', W.c, W.no2, lk_l, (by show 2 ≤ sizeLine; decide), fun T nT => ?_⟩
              have sT := sameUpd (o := .tup [.int 2, .ref c1]) nT
              refine ⟨F0, _, _, rfl, rfl, sT _ _ hF, small _ (by omega), ?_⟩
              have ad := rules_add (k := 2) (u := .mul x y) (pv := .ref c1) hF au (p3.same s1) nT
              refine ⟨rfl, fun z o ez => ?_, _, upd_same, (by rw [List.length_append]; simp; omega), ?_⟩
              · rw [upd_ne (ne_of_none ez nF)]
                exact sT _ _ (s1 _ _ ez)
              · rw [if_pos e]
                exact ad
            · rw [decide_eq_false e, if_neg e, List.append_nil]
              exact iteF ⟨rfl, s1, us, hF, by omega, au⟩
      clear hF au lu s1
      rintro σ' H1 ⟨rfl, s1, us, hF, lu, au⟩
      refine ⟨fun σ' H' => σ' = [some (.ref a), some (.ref b), some (.ref c), some (.ref F0)] ∧ Same H H' ∧ ∃ us, H' F0 = some (.lst us) ∧ us.length ≤ 3 ∧ All2 (RuleR H' C) ((r1 l r ++ r2 l r) ++ r3 l r) us, ?_, ?_⟩
      · have hb' := s1 _ _ hb
        have hc' := s1 _ _ hc
        refine ⟨_, rfl, b, C, dy, _, _, rfl, hb', W.c, W.no2, lk_l, _, rfl, ?_⟩
        cases l with
        | let_ x =>
          obtain ⟨rfl, rfl⟩ := sb
          refine iteF (iteF ⟨rfl, s1, us, hF, by omega, ?_⟩)
          rw [show r3 (.let_ x) r = [] from rfl, List.append_nil]
          exact au
        | mul m1 m2 =>
          obtain ⟨p3, p4⟩ := sb
          obtain ⟨_, _, _, _, rfl, _, _⟩ := p3.ins
          obtain ⟨c1, dc1, _, _, rfl, hc1, sd1⟩ := id p4.ins
          refine iteT ⟨_, rfl, b, C, dy, _, _, rfl, hb', W.c, W.no3, lk_r, c1, C, dc1, _, _, rfl, s1 _ _ hc1, W.c, W.no3, lk_r, _, rfl, ?_⟩
          cases m2 with
          | let_ x =>
            obtain ⟨rfl, rfl⟩ := sd1
            refine iteF (iteF ⟨rfl, s1, us, hF, by omega, ?_⟩)
            rw [show r3 (.mul m1 (.let_ x)) r = [] from rfl, List.append_nil]
            exact au
          | mul x y =>
            obtain ⟨p5, p6⟩ := sd1
            obtain ⟨x1, dx1, _, _, rfl, hx1, _⟩ := p6.ins
            refine iteT ⟨_, rfl, b, C, dy, _, _, rfl, hb', W.c, W.no3, lk_r, c1, C, dc1, _, _, rfl, s1 _ _ hc1, W.c, W.no3, lk_r, x1, C, dx1, _, _, rfl, s1 _ _ hx1, W.c, W.no1, lk_t, ?_⟩
            refine ⟨_, rfl, c, C, dz, _, _, rfl, hc', W.c, W.no1, lk_t, rfl, _, rfl, ?_⟩
            rw [eqT]
            show if decide (flat y = flat r) = true then _ else _
            have er : r3 (.mul m1 (.mul x y)) r = if flat y = flat r then [(3, .mul x y)] else [] := rfl
            rw [er]
            by_cases e : flat y = flat r
            · rw [decide_eq_true e]
              refine iteT ⟨_, rfl, .inl ⟨rfl, _, .inl (.inl hF)⟩, ?_⟩
              refine ⟨_, rfl, b, C, dy, _, _, rfl, hb', W.c, W.no3, lk_r, (by show 2 ≤ sizeLine; decide), fun T nT => ?_⟩
              have sT := sameUpd (o := .tup [.int 3, .ref c1]) nT
              refine ⟨F0, _, _, rfl, rfl, sT _ _ hF, small _ (by omega), ?_⟩
              have ad := rules_add (k := 3) (u := .mul x y) (pv := .ref c1) hF au (p4.same s1) nT
              refine ⟨rfl, fun z o ez => ?_, _, upd_same, (by rw [List.length_append]; simp; omega), ?_⟩
              · rw [upd_ne (ne_of_none ez nF)]
                exact sT _ _ (s1 _ _ ez)
              · rw [if_pos e]
                exact ad
            · rw [decide_eq_false e, if_neg e, List.append_nil]
              exact iteF ⟨rfl, s1, us, hF, by omega, au⟩
      clear hF au lu s1
      rintro σ' H1 ⟨rfl, s1, us, hF, lu, au⟩
      refine ⟨_, rfl, q H1 F0 us s1 nF hF ?_⟩
      rw [List.append_assoc] at au
      exact au
end
end K78

set_option maxHeartbeats 16000000
namespace K78
open PySem PySem.Spec PyProof.Rows L2 GG MT
abbrev sFormP : Stmt := topS 10
abbrev sFormT : Stmt := topS 11
theorem scFormP : FnScope ["left", "right", "part", "_", "result"] ["left", "right"] (defScope sFormP) := ⟨rfl, rfl, rfl, by decide +kernel, rfl, by decide +kernel, by decide +kernel⟩
theorem scFormT : FnScope ["term", "open_parts", "sign", "left", "right"] ["term"] (defScope sFormT) := ⟨rfl, rfl, rfl, by decide +kernel, rfl, by decide +kernel, by decide +kernel⟩
def spFormP (C : Addr) : Sp := fun vs H Q _ => ∃ t u vl vr, vs = [vl, vr] ∧ PartR H C t vl ∧ PartR H C u vr ∧ size t + size u ≤ 100000 ∧
  ∀ H' v, Same H H' → PartR H' C (red t u) v → Q v H'
def spFormT (C : Addr) : Sp := fun vs H Q _ => ∃ t : Trm, vs = [.str (S (flat t))] ∧ Ok t ∧ size t ≤ 10000 ∧
  ∀ H' v, Same H H' → PartR H' C (nf t) v → Q v H'
section
variable {P : Program} {w : World} {K : PySem.W.Frag} {mg : Str → Option Value} {base : Heap}
theorem ok_formp {f fJ fR C : Addr} {fd fdJ fdR : FuncData} (F : Fun K "form_of_product" "form_of_product" sFormP f fd) (W : PartC K C) (bJ : Binds K fdJ ["left", "right"] []) (bR : Binds K fdR ["part"] [])
    (GJ : FnOk P w K mg base CX0 3 fJ fdJ ["left", "right"] (spJoined C)) (GR : FnOk P w K mg base CX0 1 fR fdR ["part"] (spRulesAt C)) (gJ : mg "joined" = some (.ref fJ)) (gR : mg "rules_at" = some (.ref fR))
    (kJ : PySem.W.keepIn K (.ref fJ) = true) (kR : PySem.W.keepIn K (.ref fR) = true) : FnOk P w K mg base CX0 4 f fd ["left", "right"] (spFormP C) := by
  refine F.ok scFormP (fun vs H Q E h => ?_) (fun cdv A outer s H vs Q E hr h => ?_)
  · obtain ⟨t, u, vl, vr, rfl, _⟩ := h
    rfl
  · obtain ⟨t, u, vl, vr, rfl, ht, hu, sz, q⟩ := h
    have N := scFormP.nd
    refine ⟨_, pss_cons (ps_set (i := 2) N rfl (.inl rfl) (pe_call GJ hr (by rfl) gJ kJ bJ .nil pass0 (pa_cons (pv 0) (pa_cons (pv 1) pa_nil))))
      (pss_cons (ps_for PassesOwn.never rfl (pi_list (pe_call GR (hr.mono (by decide)) (by rfl) gR kR bR .nil pass0 (pa_cons (pv 2) pa_nil))) (pg_tup rfl (pgs_cons (pg_name (i := 3) N rfl (.inl rfl)) (pgs_cons (pg_name (i := 4) N rfl (.inl rfl)) pgs_nil)))
        (pss_one (ps_ret (pv 4))))
      (pss_one (ps_ret (pv 2)))), ?_⟩
    refine ⟨_, rfl, _, rfl, t, u, vl, vr, rfl, ht, hu, sz, fun H1 v s1 pv1 => ?_⟩
    refine ⟨_, rfl, .mul t u, v, rfl, pv1, fun H2 p us s2 np hp au => ?_⟩
    refine ⟨p, rfl, ⟨us, .inl (.inl hp)⟩, ?_⟩
    have s12 := s1.trans s2
    refine for_it (walk_list (K := K) (a := p) (xs := us)) (fun i σ H3 => i = 0 ∧ H3 = H2 ∧ ∃ y3 y4, σ = [some vl, some vr, some v, y3, y4]) ⟨rfl, rfl, _, _, rfl⟩
      (fun i σ H3 _ hP => by obtain ⟨_, rfl, _⟩ := hP; exact .inl (.inl hp)) (fun i x σ H3 H4 il hP y => ?_) (fun σ H3 hP => ?_)
    · obtain ⟨rfl, rfl, y3, y4, rfl⟩ := hP
      obtain ⟨rfl, hx⟩ := y
      obtain ⟨kv, e1, qq, pv2, rfl, e3, pr⟩ := au.get 0 x hx
      refine ⟨qq, _, rfl, .inl (.inl e3), rfl, _, _, rfl, _, _, rfl, rfl, ?_⟩
      refine ⟨_, rfl, q _ _ s12 ?_⟩
      have er : red t u = kv.2 := by
        unfold red
        rcases e : rules (.mul t u) with _ | ⟨k2, ks⟩
        · rw [e] at e1
          cases e1
        · rw [e] at e1
          cases e1
          rfl
      rw [er]
      exact pr
    · obtain ⟨z, rfl, y3, y4, rfl⟩ := hP
      refine ⟨_, rfl, q _ _ s12 ?_⟩
      have : rules (.mul t u) = [] := List.eq_nil_of_length_eq_zero (by rw [au.len]; exact z)
      have er : red t u = .mul t u := by
        unfold red
        rw [this]
      rw [er]
      exact pv1.same s2
theorem ok_formt {f fI fJ C : Addr} {fd fdI fdJ : FuncData} (F : Fun K "form_part" "form_part" sFormT f fd) (W : PartC K C) (bI : Binds K fdI ["self", "text", "left", "right"] []) (bJ : Binds K fdJ ["left", "right"] []) (M : Mk K C fI)
    (GI : FnOk P w K mg base CX0 1 fI fdI ["self", "text", "left", "right"] (spPInit C)) (GJ : FnOk P w K mg base CX0 4 fJ fdJ ["left", "right"] (spFormP C)) (gP : mg "Part" = some (.ref C)) (gJ : mg "form_of_product" = some (.ref fJ))
    (kJ : PySem.W.keepIn K (.ref fJ) = true) : FnOk P w K mg base CX0 5 f fd ["term"] (spFormT C) := by
  refine F.ok scFormT (fun vs H Q E h => ?_) (fun cdv A outer s H vs Q E hr h => ?_)
  · obtain ⟨t, rfl, _⟩ := h
    rfl
  · obtain ⟨t, rfl, ok, sz, q⟩ := h
    have N := scFormT.nd
    have fl := flat_len t
    have sl := sizeLine_eq
    refine ⟨_, pss_cons (ps_set (i := 1) N rfl (.inl rfl) (pe_lst pa_nil))
      (pss_cons (ps_for PassesOwn.never rfl (pi_str (pe_revS (pv 0))) (pg_name (i := 2) N rfl (.inl rfl))
        (pss_one (ps_if (pt_cmpR op_eq (pv 2) pe_str (nomark _))
            (pss_cons (ps_set (i := 3) N rfl (.inl rfl) (pe_bm0 PySem.F.plainAttrs_list PySem.F.slot_list_pop PySem.F.type_list_pop mt_pop (pv 1)))
            (pss_cons (ps_set (i := 4) N rfl (.inl rfl) (pe_bm0 PySem.F.plainAttrs_list PySem.F.slot_list_pop PySem.F.type_list_pop mt_pop (pv 1)))
            (pss_one (ps_expr (pe_bm PySem.F.plainAttrs_list PySem.F.slot_list_append PySem.F.type_list_append mt_append (pv 1) (pa_cons (pe_call GJ hr (by rfl) gJ kJ bJ .nil pass0 (pa_cons (pv 3) (pa_cons (pv 4) pa_nil))) pa_nil))))))
            (pss_one (ps_expr (pe_bm PySem.F.plainAttrs_list PySem.F.slot_list_append PySem.F.type_list_append mt_append (pv 1) (pa_cons (pe_make M GI (hr.mono (by decide)) (by rfl) gP bI .nil pass0 (pa_cons (pv 2) (pa_cons pe_non (pa_cons pe_non pa_nil)))) pa_nil)))))))
      (pss_one (ps_ret (pe_ix ix_seq (pv 1) pe_int (fun _ _ => rfl))))), ?_⟩
    refine ⟨(by show 0 ≤ sizeLine; decide), fun O0 nO => ?_⟩
    refine ⟨_, rfl, flat t, rfl, by omega, _, rfl, ?_⟩
    refine for_it (walk_str (z := S (flat t).reverse)) (fun i σ H2 => ∃ y3 y4 y5, σ = [some (.str (S (flat t))), some (.ref O0), y3, y4, y5] ∧ Same H H2 ∧
        ∃ (ts hs done : List Trm) (vs : List V), MT.Run ((flat t).reverse.drop i) ts hs [t] ∧ (subs t).reverse = done ++ hs ∧ ts.length ≤ i ∧ H2 O0 = some (.lst vs.reverse) ∧ All2 (PartR H2 C) (ts.map nf) vs)
      ⟨_, _, _, rfl, sameUpd nO, [], (subs t).reverse, [], [], run_term ok, rfl, Nat.le_refl _, upd_same, trivial⟩
      (fun _ _ _ _ _ => trivial) (fun i x σ H2 H3 il hP y => ?_) (fun σ H2 hP => ?_)
    · obtain ⟨y3, y4, y5, rfl, sm, ts, hs, done, vs, R, ed, tl, hO, av⟩ := hP
      obtain ⟨rfl, c, hc, rfl⟩ := y
      have il' : i < (flat t).length := by
        have : (S (flat t).reverse).cps.size = (flat t).length := by
          show (flat t).reverse.toArray.size = _
          rw [List.size_toArray, List.length_reverse]
        omega
      have hc' : (flat t).reverse[i]? = some c := by
        have := hc
        simpa using this
      rw [drop_get hc'] at R
      have la := av.len
      rw [List.length_map] at la
      refine ⟨_, rfl, rfl, _, rfl, ?_⟩
      rw [eq42]
      refine ite2 (fun e => ?_) (fun e => ?_)
      · have e := of_decide_eq_true e
        subst e
        obtain ⟨l, r, us, hs', rfl, rfl, R'⟩ := run_star R
        match vs, av with
        | vl :: vr :: vs, ⟨pl, pr, pu⟩ =>
          have e1 : (vl :: vr :: vs).reverse = (vr :: vs).reverse ++ [vl] := by simp
          have e2 : (vr :: vs).reverse = vs.reverse ++ [vr] := by simp
          refine ⟨_, rfl, .inl ⟨rfl, _, .inl (.inl hO)⟩, O0, _, vl, rfl, rfl, hO, by rw [e1]; simp, ?_⟩
          rw [e1, List.dropLast_concat, e2]
          refine ⟨_, rfl, .inl ⟨rfl, _, .inl (.inl upd_same)⟩, O0, _, vr, rfl, rfl, upd_same, by simp, ?_⟩
          rw [List.dropLast_concat, upd_upd]
          have pl' := pl.lst (o := .lst vs.reverse) hO
          have pr' := pr.lst (o := .lst vs.reverse) hO
          have pu' := all2_lst (o := .lst vs.reverse) pu hO
          have sz2 := subs_size t (.mul l r) (by
            have : Trm.mul l r ∈ (subs t).reverse := by rw [ed]; simp
            simpa using this)
          have n1 := nf_size l
          have n2 := nf_size r
          have sz3 : size (nf l) + size (nf r) ≤ 100000 := by
            have : size (.mul l r) = size l + size r := rfl
            omega
          refine ⟨_, rfl, .inl ⟨rfl, _, .inl (.inl upd_same)⟩, ?_⟩
          refine ⟨_, rfl, _, rfl, nf l, nf r, vl, vr, rfl, pl', pr', sz3, fun H' v s' pv' => ?_⟩
          have hO' := s' _ _ upd_same
          simp only [List.length_cons] at tl la
          refine ⟨O0, _, v, rfl, rfl, hO', by rw [List.length_reverse]; omega, ?_⟩
          refine ⟨_, _, _, rfl, fun b o eb => ?_, .mul l r :: us, hs', done ++ [.mul l r], v :: vs, R', by rw [ed]; simp, by simp; omega, by rw [upd_same, List.reverse_cons], ?_⟩
          · have bO := ne_of_none eb nO
            rw [upd_ne bO]
            exact s' _ _ (by rw [upd_ne bO]; exact sm _ _ eb)
          · exact ⟨pv'.lst hO', all2_lst (all2_same pu' s') hO'⟩
      · have e : c ≠ 42 := fun z => e (decide_eq_true z)
        obtain ⟨hs', lc, rfl, R'⟩ := run_let e R
        refine ⟨_, rfl, .inl ⟨rfl, _, .inl (.inl hO)⟩, ?_⟩
        refine ⟨_, rfl, fun x d nx nd nxd => ?_⟩
        refine ⟨x, d, _, _, _, rfl, upd_same, fun H' bt hx => ⟨rfl, ?_⟩⟩
        have s1 : Same H3 H' := fun b o eb => by
          have c1 : b ≠ x := ne_of_none eb nx
          exact bt _ _ c1 (by rw [upd_ne c1, upd_ne (ne_of_none eb nd)]; exact eb)
        have hO' := s1 _ _ hO
        have pv' : PartR H' C (.let_ c) (.ref x) := ⟨x, d, rfl, hx⟩
        refine ⟨O0, _, .ref x, rfl, rfl, hO', by rw [List.length_reverse]; omega, ?_⟩
        refine ⟨_, _, _, rfl, fun b o eb => ?_, .let_ c :: ts, hs', done ++ [.let_ c], .ref x :: vs, R', by rw [ed]; simp, by simp; omega, by rw [upd_same, List.reverse_cons], ?_⟩
        · rw [upd_ne (ne_of_none eb nO)]
          exact s1 _ _ (sm _ _ eb)
        · exact ⟨pv'.lst hO', all2_lst (all2_same av s1) hO'⟩
    · obtain ⟨y3, y4, y5, rfl, sm, ts, hs, done, vs, R, ed, tl, hO, av⟩ := hP
      have e0 : (flat t).reverse.drop (S (flat t).reverse).cps.size = [] := by
        apply List.drop_of_length_le
        show _ ≤ (flat t).reverse.toArray.size
        rw [List.size_toArray]
        exact Nat.le_refl _
      rw [e0] at R
      obtain ⟨rfl, rfl⟩ := run_nil R
      match vs, av with
      | [v], ⟨pv1, _⟩ =>
        exact ⟨_, rfl, .inl ⟨O0, _, 0, v, rfl, rfl, .inl (.inl hO), rfl, q _ v sm pv1⟩⟩
end
end K78

set_option maxHeartbeats 16000000
namespace K78
open PySem PySem.Spec PyProof.Rows L2 GG MT
/-- a step as a tuple (index, rule, text) -/
def StepR (H : Hp) (st : Nat × Nat × List Nat) (v : V) : Prop := ∃ q, v = .ref q ∧ H q = some (.tup [.int st.1, .int st.2.1, .str (S st.2.2)])
theorem StepR.same {H H' : Hp} {st : Nat × Nat × List Nat} {v : V} (h : StepR H st v) (s : Same H H') : StepR H' st v := by
  obtain ⟨q, e, a⟩ := h
  exact ⟨q, e, s _ _ a⟩
theorem StepR.lst {H : Hp} {p : Addr} {st : Nat × Nat × List Nat} {v : V} {xs : List V} {o : HO} (h : StepR H st v) (e : H p = some (.lst xs)) : StepR (upd H p o) st v := by
  obtain ⟨q, e1, a⟩ := h
  refine ⟨q, e1, ?_⟩
  rw [upd_ne (fun z => by rw [z, e] at a; cases a)]
  exact a
/-- one more -/
theorem steps_add {H : Hp} {F T : Addr} {ks : List (Nat × Nat × List Nat)} {vs : List V} {st : Nat × Nat × List Nat} (hF : H F = some (.lst vs)) (a : All2 (StepR H) ks vs) (nT : H T = none) :
    All2 (StepR (upd (upd H T (.tup [.int st.1, .int st.2.1, .str (S st.2.2)])) F (.lst (vs ++ [.ref T])))) (ks ++ [st]) (vs ++ [.ref T]) := by
  have s := sameUpd (o := .tup [.int st.1, .int st.2.1, .str (S st.2.2)]) nT
  have hF' := s _ _ hF
  refine All2.snoc (a.imp fun x _ v h => (h.same s).lst hF') ⟨T, rfl, ?_⟩
  rw [upd_ne (fun e => by rw [e, hF] at nT; cases nT)]
  exact upd_same
def spWithR (C : Addr) : Sp := fun vs H Q _ => ∃ (cs : List Nat) (i : Nat) (u k : Trm) (vu vk : V), vs = [.str (S cs), .int i, vu, vk] ∧ PartR H C u vu ∧ PartR H C k vk ∧ cs.length ≤ 100000 ∧ size k ≤ 100000 ∧
  i + (flat u).length ≤ cs.length ∧ Q (.str (S (cs.take i ++ (flat k ++ cs.drop (i + (flat u).length))))) H
def spSteps0 : Sp := fun vs H Q _ => ∃ t : Trm, vs = [.str (S (flat t))] ∧ Ok t ∧ size t ≤ 200 ∧
  ∀ H' p us, Same H H' → H p = none → H' p = some (.lst us) → All2 (StepR H') (steps t) us → Q (.ref p) H'
def spSteps : Sp := fun vs H Q _ => ∃ t : Trm, vs = [.str (S (flat t))] ∧ Ok t ∧ size t ≤ 200 ∧
  ∀ H' p us, Same H H' → H p = none → H' p = some (.tup us) → All2 (StepR H') (steps t) us → Q (.ref p) H'
/-- of a text: a form; of what is no term: no -/
def formB (cs : List Nat) (b : Bool) : Prop := (∃ t, cs = flat t ∧ Ok t ∧ size t ≤ 200 ∧ b = decide (nf t = t)) ∨ (isT cs = false ∧ b = false)
def spIsForm (K : PySem.W.Frag) : Sp := fun vs H Q _ => ∃ v, vs = [v] ∧ ((∃ cs b, v = .str (S cs) ∧ cs.length ≤ 100000 ∧ formB cs b ∧ ∀ H', Same H H' → Q (.bl b) H') ∨ (NoStr K H v ∧ Q (.bl false) H))
theorem rules_len (u : Trm) : (rules u).length ≤ 3 := by
  cases u with
  | let_ c => exact Nat.zero_le _
  | mul l r =>
    have h1 : (r1 l r).length ≤ 1 := by
      cases l <;> cases r <;> first | exact Nat.zero_le _ | (show (if _ then _ else _ : List (Nat × Trm)).length ≤ 1; split <;> simp)
    have h2 : (r2 l r).length ≤ 1 := by
      cases r with
      | let_ c => cases l <;> exact Nat.zero_le _
      | mul a b =>
        cases a with
        | let_ c => cases l <;> exact Nat.zero_le _
        | mul x y => cases l <;> (show (if _ then _ else _ : List (Nat × Trm)).length ≤ 1; split <;> simp)
    have h3 : (r3 l r).length ≤ 1 := by
      cases l with
      | let_ c => exact Nat.zero_le _
      | mul a b =>
        cases b with
        | let_ c => exact Nat.zero_le _
        | mul x y => show (if _ then _ else _ : List (Nat × Trm)).length ≤ 1; split <;> simp
    rw [rules, List.length_append, List.length_append]
    omega
theorem stepsFrom_snoc (cs : List Nat) (u : Trm) : ∀ (us : List Trm) (i : Nat), stepsFrom cs i (us ++ [u]) = stepsFrom cs i us ++ stepsAt cs (i + us.length) u
  | [], i => by simp [stepsFrom]
  | v :: us, i => by
    rw [List.cons_append, stepsFrom, stepsFrom_snoc cs u us (i + 1), stepsFrom, List.append_assoc, List.length_cons, show i + (us.length + 1) = i + 1 + us.length by omega]
theorem stepsFrom_len (cs : List Nat) : ∀ (us : List Trm) (i : Nat), (stepsFrom cs i us).length ≤ 3 * us.length
  | [], _ => Nat.zero_le _
  | u :: us, i => by
    have := stepsFrom_len cs us (i + 1)
    have h := rules_len u
    rw [stepsFrom, List.length_append, stepsAt, List.length_map, List.length_cons]
    omega
theorem sub_fit {t u : Trm} {i : Nat} (h : (subs t)[i]? = some u) : i + (flat u).length ≤ (flat t).length := by
  have il : i < (flat t).length := by
    rw [← subs_len]
    exact (List.getElem?_eq_some_iff.mp h).1
  obtain ⟨u', pre, post, h1, h2, h3, _⟩ := ctx t i il
  have : u' = u := Option.some.inj (h1.symm.trans h)
  subst this
  rw [h3, List.length_append, List.length_append]
  omega
end K78

set_option maxHeartbeats 16000000
namespace K78
open PySem PySem.Spec PyProof.Rows L2 GG MT
abbrev sWithR : Stmt := topS 20
theorem scWithR : FnScope ["term", "index", "part", "result"] ["term", "index", "part", "result"] (defScope sWithR) := ⟨rfl, rfl, rfl, by decide +kernel, rfl, by decide +kernel, by decide +kernel⟩
section
variable {P : Program} {w : World} {K : PySem.W.Frag} {mg : Str → Option Value} {base : Heap}
theorem ok_withr {f C : Addr} {fd : FuncData} {k : Nat} (F : Fun K "_with_result" "_with_result" sWithR f fd) (W : PartC K C) (ml : mg "len" = none) :
    FnOk P w K mg base CX0 (k + 1) f fd ["term", "index", "part", "result"] (spWithR C) := by
  refine F.ok scWithR (fun vs H Q E h => ?_) (fun cdv A outer s H vs Q E hr h => ?_)
  · obtain ⟨cs, i, u, k, vu, vk, rfl, _⟩ := h
    rfl
  · obtain ⟨cs, i, u, k, vu, vk, rfl, pu, pk, l1, l2, fit, q⟩ := h
    obtain ⟨a, dx, _, _, rfl, ha, _⟩ := pu.ins
    obtain ⟨b, dy, _, _, rfl, hb, _⟩ := pk.ins
    have sl := sizeLine_eq
    have fk := flat_len k
    refine ⟨_, pss_one (ps_ret (pe_op op_add_str (pe_op op_add_str (pe_slice sl_str (pv 0) po_none (po_some (pv 1))) (pe_fld (pv 3) rfl))
      (pe_slice sl_str (pv 0) (po_some (pe_op op_add (pv 1) (pe_callB call_len_str (by rfl) ml PySem.boot_len (pa_cons (pe_fld (pv 2) rfl) pa_nil)))) po_none))), ?_⟩
    refine ⟨_, rfl, _, rfl, i, rfl, S cs, rfl, by rw [S_len]; omega, ?_⟩
    rw [cut_to (by omega)]
    refine ⟨_, rfl, b, C, dy, _, _, rfl, hb, W.c, W.no1, lk_t, _, _, rfl, rfl, ?_, ?_⟩
    · rw [S_len, S_len, List.length_take]
      omega
    rw [S_add]
    have fu := flat_len u
    refine ⟨_, rfl, _, rfl, _, rfl, a, C, dx, _, _, rfl, ha, W.c, W.no1, lk_t, S (flat u), rfl, by rw [S_len]; omega, _, _, rfl, rfl, _, rfl, S cs, rfl, by rw [S_len]; omega, ?_⟩
    rw [S_len, ← Int.natCast_add, cut_from fit]
    refine ⟨_, _, rfl, rfl, ?_, ?_⟩
    · rw [S_len, S_len, List.length_append, List.length_take, List.length_drop]
      omega
    rw [S_add, List.append_assoc]
    exact q
end
end K78

set_option maxHeartbeats 16000000
namespace K78
open PySem PySem.Spec PyProof.Rows L2 GG MT
abbrev sIsForm : Stmt := topS 18
theorem scIsForm : FnScope ["value"] ["value"] (defScope sIsForm) := ⟨rfl, rfl, rfl, by decide +kernel, rfl, by decide +kernel, by decide +kernel⟩
section
variable {P : Program} {w : World} {K : PySem.W.Frag} {mg : Str → Option Value} {base : Heap}
theorem ok_isform {f fT fF C : Addr} {fd fdT fdF : FuncData} (F : Fun K "is_form" "is_form" sIsForm f fd) (W : PartC K C) (bT : Binds K fdT ["value"] []) (bF : Binds K fdF ["term"] [])
    (GT : FnOk P w K mg base CX0 2 fT fdT ["value"] (spTerm K)) (GF : FnOk P w K mg base CX0 5 fF fdF ["term"] (spFormT C)) (gT : mg "is_term" = some (.ref fT)) (gF : mg "form_part" = some (.ref fF))
    (kT : PySem.W.keepIn K (.ref fT) = true) (kF : PySem.W.keepIn K (.ref fF) = true) : FnOk P w K mg base CX0 6 f fd ["value"] (spIsForm K) := by
  refine F.ok scIsForm (fun vs H Q E h => ?_) (fun cdv A outer s H vs Q E hr h => ?_)
  · obtain ⟨v, rfl, _⟩ := h
    rfl
  · obtain ⟨v, rfl, h⟩ := h
    refine ⟨_, pss_one (ps_ret (pe_and (pe_call GT (hr.mono (by decide)) (by rfl) gT kT bT .nil pass0 (pa_cons (pv 0) pa_nil))
      (pe_one (pe_cmpR op_eq (pe_fld (pe_call GF hr (by rfl) gF kF bF .nil pass0 (pa_cons (pv 0) pa_nil)) rfl) (pv 0) (nomark _))))), ?_⟩
    rcases h with ⟨cs, b, rfl, l, fb, q⟩ | ⟨no, q⟩
    · refine ⟨_, rfl, _, rfl, .inl ⟨cs, rfl, l, ?_⟩⟩
      rcases fb with ⟨t, rfl, ok, sz, rfl⟩ | ⟨e, rfl⟩
      · rw [isT_term ok sz]
        refine ⟨true, rfl, iteT ?_⟩
        refine ⟨_, rfl, t, rfl, ok, by omega, fun H1 v s1 pv1 => ?_⟩
        obtain ⟨a, dx, _, _, rfl, ha, _⟩ := pv1.ins
        refine ⟨a, C, dx, _, _, rfl, ha, W.c, W.no1, lk_t, _, rfl, rfl, ?_⟩
        rw [eqT]
        have : decide (flat (nf t) = flat t) = decide (nf t = t) := decide_eq_decide.mpr ⟨fun h => flat_inj (nf_ok ok) ok h, fun h => by rw [h]⟩
        rw [this]
        exact q H1 s1
      · rw [e]
        exact ⟨false, rfl, iteF (q H (.refl H))⟩
    · exact ⟨_, rfl, _, rfl, .inr ⟨no, false, rfl, iteF q⟩⟩
end
end K78

set_option maxHeartbeats 16000000
namespace K78
open PySem PySem.Spec PyProof.Rows L2 GG MT
abbrev sGrown : Stmt := topS 29
abbrev sPartOf : Stmt := topS 30
abbrev sLSides : Stmt := topS 31
theorem scGrown : FnScope ["dice", "letters", "size", "left"] ["dice", "letters", "size"] (defScope sGrown) := ⟨rfl, rfl, rfl, by decide +kernel, rfl, by decide +kernel, by decide +kernel⟩
theorem scPartOf : FnScope ["term", "index", "wanted", "end", "turn"] ["term", "index"] (defScope sPartOf) := ⟨rfl, rfl, rfl, by decide +kernel, rfl, by decide +kernel, by decide +kernel⟩
theorem scLSides : FnScope ["term", "left"] ["term"] (defScope sLSides) := ⟨rfl, rfl, rfl, by decide +kernel, rfl, by decide +kernel, by decide +kernel⟩
/-- a text of letters, at least one -/
def Lets (ls : List Nat) : Prop := 1 ≤ ls.length ∧ ls.length ≤ 30 ∧ ∀ c ∈ ls, isL c = true
instance letsDec (ls : List Nat) : Decidable (Lets ls) := inferInstanceAs (Decidable (1 ≤ ls.length ∧ ls.length ≤ 30 ∧ ∀ c ∈ ls, isL c = true))
def spPickS : Sp := fun vs H Q _ => ∃ (l : Addr) (cs : List Nat), vs = [.ref l, .str (S cs)] ∧ Dice H l ∧ 0 < cs.length ∧ cs.length ≤ 1000 ∧
  ∀ H' c, c ∈ cs → But l H H' → Dice H' l → Q (.str (S [c])) H'
def spGrown (n : Nat) : Sp := fun vs H Q _ => ∃ (l : Addr) (ls : List Nat) (m : Nat), vs = [.ref l, .str (S ls), .int m] ∧ Dice H l ∧ Lets ls ∧ 1 ≤ m ∧ m ≤ n ∧ n ≤ 200 ∧
  ∀ H' t, But l H H' → Dice H' l → Ok t → size t = m → Q (.str (S (flat t))) H'
def spPartOf : Sp := fun vs H Q _ => ∃ (pre post : List Nat) (u : Trm), vs = [.str (S (pre ++ (flat u ++ post))), .int pre.length] ∧ Ok u ∧ (pre ++ (flat u ++ post)).length ≤ 100000 ∧ Q (.str (S (flat u))) H
def spLSides : Sp := fun vs H Q _ => ∃ l r : Trm, vs = [.str (S (flat (.mul l r)))] ∧ Ok (.mul l r) ∧ size (.mul l r) ≤ 10000 ∧
  ∀ p, H p = none → Q (.ref p) (upd H p (.tup [.str (S (flat l)), .str (S (flat r))]))
section
variable {P : Program} {w : World} {K : PySem.W.Frag} {mg : Str → Option Value} {base : Heap}
theorem ok_pickS {f fR : Addr} {fd fdR : FuncData} (F : Fun K "_law_pick" "_law_pick" sPick f fd) (FR : Fun K "_law_roll" "_law_roll" sRoll fR fdR)
    (bR : Binds K fdR ["dice", "total"] []) (gR : mg "_law_roll" = some (.ref fR)) (ml : mg "len" = none) (mi : mg "int" = none) :
    FnOk P w K mg base CX0 2 f fd ["dice", "items"] spPickS := by
  have GR : FnOk P w K mg base CX0 1 fR fdR ["dice", "total"] spRoll := ok_roll FR mi
  refine F.ok scPick (fun vs H Q E h => ?_) (fun cdv A outer s H vs Q E hr h => ?_)
  · obtain ⟨l, a, rfl, _⟩ := h
    rfl
  · obtain ⟨l, cs, rfl, hd, h0, h1, q⟩ := h
    have sl := sizeLine_eq
    refine ⟨_, pss_one (ps_ret (pe_ix ix_str (pv 1) (pe_call GR hr (by rfl) gR FR.kp bR .nil pass0
      (pa_cons (pv 0) (pa_cons (pe_callB call_len_str (by rfl) ml PySem.boot_len (pa_cons (pv 1) pa_nil)) pa_nil))) (fun _ _ => rfl))), ?_⟩
    refine ⟨_, rfl, .ref l, rfl, _, rfl, S cs, rfl, by rw [S_len]; omega, l, cs.length, by rw [S_len]; rfl, hd, by omega, by omega, fun H' r bt hd' r0 r1 => ?_⟩
    have e : cs[r.toNat]? = some cs[r.toNat] := List.getElem?_eq_getElem (by omega)
    have e2 : atI cs r = some cs[r.toNat] := by
      have := atI_nat e
      rwa [show ((r.toNat : Nat) : Int) = r by omega] at this
    exact ⟨S cs, r, _, rfl, rfl, by rw [S_len]; omega, e2, q H' _ (List.getElem_mem _) bt hd'⟩
theorem ok_grown {f fR fK : Addr} {fd fdR fdK : FuncData} (F : Fun K "_law_grown_term" "_law_grown_term" sGrown f fd) (bF : Binds K fd ["dice", "letters", "size"] []) (bR : Binds K fdR ["dice", "total"] []) (bK : Binds K fdK ["dice", "items"] [])
    (GR : FnOk P w K mg base CX0 1 fR fdR ["dice", "total"] spRoll) (GK : FnOk P w K mg base CX0 2 fK fdK ["dice", "items"] spPickS)
    (gF : mg "_law_grown_term" = some (.ref f)) (gR : mg "_law_roll" = some (.ref fR)) (gK : mg "_law_pick" = some (.ref fK)) (kF : PySem.W.keepIn K (.ref f) = true) (kR : PySem.W.keepIn K (.ref fR) = true) (kK : PySem.W.keepIn K (.ref fK) = true) :
    ∀ n, FnOk P w K mg base CX0 (n + 3) f fd ["dice", "letters", "size"] (spGrown n)
  | 0 => by
    refine F.ok scGrown (fun vs H Q E h => ?_) (fun cdv A outer s H vs Q E hr h => ?_)
    · obtain ⟨l, ls, m, rfl, _⟩ := h
      rfl
    · obtain ⟨l, ls, m, rfl, _, _, h1, h2, _⟩ := h
      omega
  | n + 1 => by
    have ih := ok_grown F bF bR bK GR GK gF gR gK kF kR kK n
    refine F.ok scGrown (fun vs H Q E h => ?_) (fun cdv A outer s H vs Q E hr h => ?_)
    · obtain ⟨l, ls, m, rfl, _⟩ := h
      rfl
    · obtain ⟨l, ls, m, rfl, hd, hl, m1, m2, n2, q⟩ := h
      have N := scGrown.nd
      have sl := sizeLine_eq
      refine ⟨_, pss_cons (ps_if (pt_cmpR op_eq (pv 2) pe_int (nomark _)) (pss_one (ps_ret (pe_call GK (hr.mono (by omega)) (by rfl) gK kK bK .nil pass0 (pa_cons (pv 0) (pa_cons (pv 1) pa_nil))))) pss_nil)
        (pss_cons (ps_set (i := 3) N rfl (.inl rfl) (pe_op op_add pe_int (pe_call GR (hr.mono (by omega)) (by rfl) gR kR bR .nil pass0 (pa_cons (pv 0) (pa_cons (pe_op op_sub (pv 2) pe_int) pa_nil)))))
        (pss_one (ps_ret (pe_op op_add_str (pe_op op_add_str pe_str (pe_call ih hr (by rfl) gF kF bF .nil pass0 (pa_cons (pv 0) (pa_cons (pv 1) (pa_cons (pv 3) pa_nil)))))
          (pe_call ih hr (by rfl) gF kF bF .nil pass0 (pa_cons (pv 0) (pa_cons (pv 1) (pa_cons (pe_op op_sub (pv 2) (pv 3)) pa_nil)))))))), ?_⟩
      refine ⟨_, rfl, rfl, _, rfl, ite2 (fun e => ?_) (fun e => ?_)⟩
      · have e1 := V.int.inj (of_decide_eq_true e)
        refine ⟨_, rfl, _, rfl, l, ls, rfl, hd, hl.1, by have := hl.2.1; omega, fun H' c hc bt hd' => ?_⟩
        exact q H' (.let_ c) bt hd' (hl.2.2 c hc) (by show 1 = m; omega)
      · have e1 : (m : Int) ≠ 1 := fun z => e (decide_eq_true (by rw [z]))
        refine ⟨_, rfl, _, rfl, _, _, rfl, rfl, l, (m : Int) - 1, rfl, hd, by omega, by omega, fun H1 r b1 d1 r0 r1 => ?_⟩
        refine ⟨_, _, rfl, rfl, ?_⟩
        obtain ⟨j, rfl⟩ : ∃ j : Nat, r = j := ⟨r.toNat, by omega⟩
        refine ⟨_, rfl, _, rfl, _, rfl, l, ls, 1 + j, ?_, d1, hl, by omega, by omega, by omega, fun H2 t b2 d2 ot st => ?_⟩
        · show [V.ref l, V.str (S ls), V.int (1 + (j : Int))] = _
          rw [show (1 : Int) + (j : Int) = ((1 + j : Nat) : Int) by omega]
        refine ⟨_, _, rfl, rfl, ?_, ?_⟩
        · have := flat_len t
          show (Str.ofString "*").length + (S (flat t)).length ≤ sizeLine
          rw [S_len (flat t), show (Str.ofString "*").length = 1 by decide +kernel]
          omega
        refine ⟨_, rfl, _, rfl, _, rfl, _, rfl, _, _, rfl, rfl, l, ls, m - (1 + j), ?_, d2, hl, by omega, by omega, by omega, fun H3 u b3 d3 ou su => ?_⟩
        · show [V.ref l, V.str (S ls), V.int ((m : Int) - (1 + (j : Int)))] = _
          rw [show (m : Int) - (1 + (j : Int)) = ((m - (1 + j) : Nat) : Int) by omega]
        have f1 := flat_len t
        have f2 := flat_len u
        refine ⟨_, _, rfl, rfl, ?_, ?_⟩
        · show (Str.ofString "*" ++ S (flat t)).length + (S (flat u)).length ≤ sizeLine
          rw [show Str.ofString "*" = S [42] by decide +kernel, S_add, S_len, S_len, List.length_append]
          show 1 + _ + _ ≤ _
          omega
        · have e : (Str.ofString "*" ++ S (flat t)) ++ S (flat u) = S (flat (.mul t u)) := by
            rw [show Str.ofString "*" = S [42] by decide +kernel, S_add, S_add]
            rfl
          rw [e]
          exact q H3 (.mul t u) ((b1.trans b2).trans b3) d3 ⟨ot, ou⟩ (by show size t + size u = m; omega)
theorem ok_partof {f : Addr} {fd : FuncData} {k : Nat} (F : Fun K "_law_part_of" "_law_part_of" sPartOf f fd) (mr : mg "range" = none) (ml : mg "len" = none) :
    FnOk P w K mg base CX0 (k + 1) f fd ["term", "index"] spPartOf := by
  refine F.ok scPartOf (fun vs H Q E h => ?_) (fun cdv A outer s H vs Q E hr h => ?_)
  · obtain ⟨pre, post, u, rfl, _⟩ := h
    rfl
  · obtain ⟨pre, post, u, rfl, ok, hl, q⟩ := h
    have N := scPartOf.nd
    have sl := sizeLine_eq
    refine ⟨_, pss_cons (ps_par (by rfl) N (i := 2) (j := 3) rfl rfl (by decide) rfl rfl (pa_cons pe_int (pa_cons (pv 1) pa_nil)) (by rfl))
      (pss_cons (ps_for PassesOwn.never rfl (pi_range1 (by rfl) mr (pa_cons (pe_op op_sub (pe_callB call_len_str (by rfl) ml PySem.boot_len (pa_cons (pv 0) pa_nil)) (pv 1)) pa_nil)) (pg_name (i := 4) N rfl (.inl rfl))
        (pss_cons (ps_if (pt_cmpR op_eq (pv 2) pe_int (nomark _)) (pss_one ps_break) pss_nil)
        (pss_cons (ps_set (i := 2) N rfl (.inl rfl) (pe_op op_add (pv 2) (pe_ifExp (pt_cmpR op_eq (pe_ix ix_str (pv 0) (pv 3) (fun _ _ => rfl)) pe_str (nomark _)) pe_int (pe_op op_sub pe_int pe_int))))
        (pss_one (ps_set (i := 3) N rfl (.inl rfl) (pe_op op_add (pv 3) pe_int))))))
      (pss_one (ps_ret (pe_slice sl_str (pv 0) (po_some (pv 1)) (po_some (pv 3)))))), ?_⟩
    generalize hz : pre ++ (flat u ++ post) = zs at *
    refine ⟨_, rfl, _, _, rfl, ?_⟩
    refine ⟨_, rfl, S zs, rfl, by rw [S_len]; omega, _, rfl, _, _, rfl, rfl, _, rfl, ?_⟩
    have hzl : zs.length = pre.length + ((flat u).length + post.length) := by rw [← hz, List.length_append, List.length_append]
    rw [S_len, show ((zs.length : Nat) : Int) - (pre.length : Int) = (((flat u).length + post.length : Nat) : Int) by omega]
    refine ⟨by omega, by omega, ?_⟩
    rw [show ((((flat u).length + post.length : Nat) : Int)).toNat = (flat u ++ post).length by rw [Int.toNat_natCast, List.length_append]]
    have total : cut (flat u ++ post) 1 = (flat u).length := by
      rw [cut_flat u post 0 ok, cut0, Nat.add_zero]
    have zget : ∀ i, zs[pre.length + i]? = (flat u ++ post)[i]? := fun i => by
      rw [← hz, List.getElem?_append_right (Nat.le_add_right _ _), Nat.add_sub_cancel_left]
    have done : ∀ (y2 y4 : Option V), tRet (tSl rSlS (tVar 0) (tPart (tVar 1)) (tPart (tVar 3))) { nx := fun _ H' => Q .non H', rt := Q } [some (.str (S zs)), some (.int (pre.length : Int)), y2, some (.int ((pre.length + (flat u).length : Nat) : Int)), y4] H := fun y2 y4 => by
      refine ⟨_, rfl, _, rfl, _, rfl, _, rfl, _, rfl, S zs, rfl, by rw [S_len]; omega, ?_⟩
      rw [cut_mid (by omega) (by omega), ← hz, List.drop_append_of_le_length (Nat.le_refl _), List.drop_of_length_le (Nat.le_refl _), List.nil_append, Nat.add_sub_cancel_left, List.take_append_of_le_length (Nat.le_refl _), List.take_of_length_le (Nat.le_refl _)]
      exact q
    refine for_it (walk_range (lo := 0) (n := (flat u ++ post).length)) (fun i σ H2 => H2 = H ∧ ∃ (wd : Nat) (y : Option V), σ = [some (.str (S zs)), some (.int (pre.length : Int)), some (.int (wd : Int)), some (.int ((pre.length + i : Nat) : Int)), y] ∧ i + cut ((flat u ++ post).drop i) wd = (flat u).length)
      ⟨rfl, 1, none, rfl, by rw [List.drop_zero, total, Nat.zero_add]⟩ (fun _ _ _ _ _ => trivial) (fun i x σ H2 H3 il hP y => ?_) (fun σ H2 hP => ?_)
    · obtain ⟨rfl, wd, y0, rfl, inv⟩ := hP
      obtain ⟨rfl, rfl⟩ := y
      have hc : (flat u ++ post)[i]? = some (flat u ++ post)[i] := List.getElem?_eq_getElem il
      generalize (flat u ++ post)[i] = c at hc
      rw [drop_get hc] at inv
      refine ⟨_, rfl, rfl, _, rfl, ite2 (fun e => ?_) (fun e => ?_)⟩
      · have e1 := V.int.inj (of_decide_eq_true e)
        have e2 : wd = 0 := by omega
        subst e2
        rw [cut0, Nat.add_zero] at inv
        subst inv
        exact done _ _
      · obtain ⟨wd, rfl⟩ : ∃ n, wd = n + 1 := by
          cases wd with
          | zero => exact absurd (decide_eq_true rfl) e
          | succ n => exact ⟨n, rfl⟩
        rw [cut] at inv
        have zc : atI zs ((pre.length + i : Nat) : Int) = some c := atI_nat (by rw [zget]; exact hc)
        refine ⟨_, rfl, _, rfl, _, rfl, S zs, _, c, rfl, rfl, by rw [S_len]; omega, zc, rfl, _, rfl, ?_⟩
        rw [eq42]
        refine ite2 (fun e4 => ?_) (fun e4 => ?_)
        · have e4 := of_decide_eq_true e4
          rw [if_pos e4] at inv
          refine ⟨_, _, rfl, rfl, _, rfl, _, _, rfl, rfl, rfl, wd + 2, some (.int (0 + (i : Int))), ?_, by omega⟩
          show [_, _, some (V.int (((wd + 1 : Nat) : Int) + 1)), some (V.int (((pre.length + i : Nat) : Int) + 1)), _] = _
          rw [show ((wd + 1 : Nat) : Int) + 1 = ((wd + 2 : Nat) : Int) by omega, show ((pre.length + i : Nat) : Int) + 1 = ((pre.length + (i + 1) : Nat) : Int) by omega]
        · have e4 : c ≠ 42 := fun z => e4 (decide_eq_true z)
          rw [if_neg e4] at inv
          refine ⟨_, _, rfl, rfl, _, _, rfl, rfl, _, rfl, _, _, rfl, rfl, rfl, wd, some (.int (0 + (i : Int))), ?_, by omega⟩
          show [_, _, some (V.int (((wd + 1 : Nat) : Int) + (0 - 1))), some (V.int (((pre.length + i : Nat) : Int) + 1)), _] = _
          rw [show ((wd + 1 : Nat) : Int) + (0 - 1) = ((wd : Nat) : Int) by omega, show ((pre.length + i : Nat) : Int) + 1 = ((pre.length + (i + 1) : Nat) : Int) by omega]
    · obtain ⟨rfl, wd, y0, rfl, inv⟩ := hP
      rw [List.drop_of_length_le (Nat.le_refl _), cut, Nat.add_zero] at inv
      rw [inv]
      exact done _ _
theorem ok_lsides {f fP : Addr} {fd fdP : FuncData} (F : Fun K "_law_sides" "_law_sides" sLSides f fd) (bP : Binds K fdP ["term", "index"] []) (GP : FnOk P w K mg base CX0 1 fP fdP ["term", "index"] spPartOf)
    (gP : mg "_law_part_of" = some (.ref fP)) (kP : PySem.W.keepIn K (.ref fP) = true) (ml : mg "len" = none) : FnOk P w K mg base CX0 2 f fd ["term"] spLSides := by
  refine F.ok scLSides (fun vs H Q E h => ?_) (fun cdv A outer s H vs Q E hr h => ?_)
  · obtain ⟨l, r, rfl, _⟩ := h
    rfl
  · obtain ⟨l, r, rfl, ok, sz, q⟩ := h
    have N := scLSides.nd
    have sl := sizeLine_eq
    have fl := flat_len (.mul l r)
    have ef : flat (.mul l r) = [42] ++ (flat l ++ flat r) := rfl
    have lf : (flat (.mul l r)).length = 1 + ((flat l).length + (flat r).length) := by rw [ef, List.length_append, List.length_append]; rfl
    refine ⟨_, pss_cons (ps_set (i := 1) N rfl (.inl rfl) (pe_call GP hr (by rfl) gP kP bP .nil pass0 (pa_cons (pv 0) (pa_cons pe_int pa_nil))))
      (pss_one (ps_ret (pe_tup (pa_cons (pv 1) (pa_cons (pe_slice sl_str (pv 0) (po_some (pe_op op_add pe_int (pe_callB call_len_str (by rfl) ml PySem.boot_len (pa_cons (pv 1) pa_nil)))) po_none) pa_nil))))), ?_⟩
    refine ⟨_, rfl, [42], flat r, l, rfl, ok.1, by rw [← ef]; omega, ?_⟩
    refine ⟨_, rfl, _, rfl, _, rfl, S (flat l), rfl, by rw [S_len]; omega, _, _, rfl, rfl, _, rfl, S (flat (.mul l r)), rfl, by rw [S_len]; omega, ?_⟩
    rw [S_len, show (1 : Int) + ((flat l).length : Int) = ((1 + (flat l).length : Nat) : Int) by omega, cut_from (by omega)]
    have ed : (flat (.mul l r)).drop (1 + (flat l).length) = flat r := by
      show (42 :: (flat l ++ flat r)).drop (1 + (flat l).length) = _
      rw [Nat.add_comm, List.drop_succ_cons, List.drop_append_of_le_length (Nat.le_refl _), List.drop_of_length_le (Nat.le_refl _), List.nil_append]
    rw [ed]
    exact ⟨(by show 2 ≤ sizeLine; decide), q⟩
end
end K78

set_option maxHeartbeats 16000000
namespace K78
open PySem PySem.Spec PyProof.Rows L2 GG MT
abbrev sRes : Stmt := topS 32
theorem scRes : FnScope ["part", "found", "left", "right"] ["part"] (defScope sRes) := ⟨rfl, rfl, rfl, by decide +kernel, rfl, by decide +kernel, by decide +kernel⟩
def RuleS (H : Hp) (kv : Nat × Trm) (v : V) : Prop := ∃ q, v = .ref q ∧ H q = some (.tup [.int kv.1, .str (S (flat kv.2))])
theorem RuleS.same {H H' : Hp} {kv : Nat × Trm} {v : V} (h : RuleS H kv v) (s : Same H H') : RuleS H' kv v := by
  obtain ⟨q, e, a⟩ := h
  exact ⟨q, e, s _ _ a⟩
theorem RuleS.lst {H : Hp} {p : Addr} {kv : Nat × Trm} {v : V} {xs : List V} {o : HO} (h : RuleS H kv v) (e : H p = some (.lst xs)) : RuleS (upd H p o) kv v := by
  obtain ⟨q, e1, a⟩ := h
  refine ⟨q, e1, ?_⟩
  rw [upd_ne (fun z => by rw [z, e] at a; cases a)]
  exact a
theorem ruleS_add {H : Hp} {F T : Addr} {ks : List (Nat × Trm)} {vs : List V} {k : Nat} {u : Trm} (hF : H F = some (.lst vs)) (a : All2 (RuleS H) ks vs) (nT : H T = none) :
    All2 (RuleS (upd (upd H T (.tup [.int k, .str (S (flat u))])) F (.lst (vs ++ [.ref T])))) (ks ++ [(k, u)]) (vs ++ [.ref T]) := by
  have s := sameUpd (o := .tup [.int k, .str (S (flat u))]) nT
  have hF' := s _ _ hF
  refine All2.snoc (a.imp fun x _ v h => (h.same s).lst hF') ⟨T, rfl, ?_⟩
  rw [upd_ne (fun e => by rw [e, hF] at nT; cases nT)]
  exact upd_same
def spRes : Sp := fun vs H Q _ => ∃ t : Trm, vs = [.str (S (flat t))] ∧ Ok t ∧ size t ≤ 1000 ∧
  ∀ H' p us, Same H H' → H p = none → H' p = some (.lst us) → All2 (RuleS H') (rules t) us → Q (.ref p) H'
theorem eqL {c : Nat} (h : isL c = true) : decide (V.str ⟨#[c]⟩ = V.str (Str.ofString "*")) = false := by
  rw [eq42]
  exact decide_eq_false (isL_ne h)
theorem at0M {l r : Trm} : atI (S (flat (.mul l r))).cps.toList 0 = some 42 := atI_nat (j := 0) (show (flat (.mul l r))[0]? = some 42 from rfl)
theorem eqM : decide (V.str ⟨#[42]⟩ = V.str (Str.ofString "*")) = true := by
  rw [eq42]
  rfl
section
variable {P : Program} {w : World} {K : PySem.W.Frag} {mg : Str → Option Value} {base : Heap}
theorem ok_res {f fS : Addr} {fd fdS : FuncData} (F : Fun K "_law_rule_results" "_law_rule_results" sRes f fd) (bS : Binds K fdS ["term"] []) (GS : FnOk P w K mg base CX0 2 fS fdS ["term"] spLSides)
    (gS : mg "_law_sides" = some (.ref fS)) (kS : PySem.W.keepIn K (.ref fS) = true) : FnOk P w K mg base CX0 3 f fd ["part"] spRes := by
  refine F.ok scRes (fun vs H Q E h => ?_) (fun cdv A outer s H vs Q E hr h => ?_)
  · obtain ⟨t, rfl, _⟩ := h
    rfl
  · obtain ⟨t, rfl, ok, sz, q⟩ := h
    have N := scRes.nd
    have sl := sizeLine_eq
    refine ⟨_, pss_cons (ps_set (i := 1) N rfl (.inl rfl) (pe_lst pa_nil))
      (pss_cons (ps_if (pt_cmpR op_ne (pe_ix ix_str (pv 0) pe_int (fun _ _ => rfl)) pe_str (nomark _)) (pss_one (ps_ret (pv 1))) pss_nil)
      (pss_cons (ps_asg (pe_call GS hr (by rfl) gS kS bS .nil pass0 (pa_cons (pv 0) pa_nil)) (pg_tup (by rfl) (pgs_cons (pg_name (i := 2) N rfl (.inl rfl)) (pgs_cons (pg_name (i := 3) N rfl (.inl rfl)) pgs_nil))))
      (C8.pss_cut (ps_if (PW.pt (pw_and (pt_cmpR op_eq (pe_ix ix_str (pv 2) pe_int (fun _ _ => rfl)) pe_str (nomark _)) (pw_and (pt_cmpR op_eq (pe_ix ix_str (pv 3) pe_int (fun _ _ => rfl)) pe_str (nomark _)) (pw_and1 (pt_cmpR op_eq (pe_ix ix_seq (pe_call GS hr (by rfl) gS kS bS .nil pass0 (pa_cons (pv 2) pa_nil)) pe_int (fun _ _ => rfl)) (pe_ix ix_seq (pe_call GS hr (by rfl) gS kS bS .nil pass0 (pa_cons (pv 3) pa_nil)) pe_int (fun _ _ => rfl)) (nomark _))))))
          (pss_one (ps_expr (pe_bm PySem.F.plainAttrs_list PySem.F.slot_list_append PySem.F.type_list_append mt_append (pv 1) (pa_cons (pe_tup (pa_cons pe_int (pa_cons (pe_ix ix_seq (pe_call GS hr (by rfl) gS kS bS .nil pass0 (pa_cons (pv 2) pa_nil)) pe_int (fun _ _ => rfl)) pa_nil))) pa_nil)))) pss_nil)
      (C8.pss_cut (ps_if (PW.pt (pw_and (pt_cmpR op_eq (pe_ix ix_str (pv 3) pe_int (fun _ _ => rfl)) pe_str (nomark _)) (pw_and (pt_cmpR op_eq (pe_ix ix_str (pe_ix ix_seq (pe_call GS hr (by rfl) gS kS bS .nil pass0 (pa_cons (pv 3) pa_nil)) pe_int (fun _ _ => rfl)) pe_int (fun _ _ => rfl)) pe_str (nomark _)) (pw_and1 (pt_cmpR op_eq (pe_ix ix_seq (pe_call GS hr (by rfl) gS kS bS .nil pass0 (pa_cons (pe_ix ix_seq (pe_call GS hr (by rfl) gS kS bS .nil pass0 (pa_cons (pv 3) pa_nil)) pe_int (fun _ _ => rfl)) pa_nil)) pe_int (fun _ _ => rfl)) (pv 2) (nomark _))))))
          (pss_one (ps_expr (pe_bm PySem.F.plainAttrs_list PySem.F.slot_list_append PySem.F.type_list_append mt_append (pv 1) (pa_cons (pe_tup (pa_cons pe_int (pa_cons (pe_ix ix_seq (pe_call GS hr (by rfl) gS kS bS .nil pass0 (pa_cons (pv 3) pa_nil)) pe_int (fun _ _ => rfl)) pa_nil))) pa_nil)))) pss_nil)
      (C8.pss_cut (ps_if (PW.pt (pw_and (pt_cmpR op_eq (pe_ix ix_str (pv 2) pe_int (fun _ _ => rfl)) pe_str (nomark _)) (pw_and (pt_cmpR op_eq (pe_ix ix_str (pe_ix ix_seq (pe_call GS hr (by rfl) gS kS bS .nil pass0 (pa_cons (pv 2) pa_nil)) pe_int (fun _ _ => rfl)) pe_int (fun _ _ => rfl)) pe_str (nomark _)) (pw_and1 (pt_cmpR op_eq (pe_ix ix_seq (pe_call GS hr (by rfl) gS kS bS .nil pass0 (pa_cons (pe_ix ix_seq (pe_call GS hr (by rfl) gS kS bS .nil pass0 (pa_cons (pv 2) pa_nil)) pe_int (fun _ _ => rfl)) pa_nil)) pe_int (fun _ _ => rfl)) (pv 3) (nomark _))))))
          (pss_one (ps_expr (pe_bm PySem.F.plainAttrs_list PySem.F.slot_list_append PySem.F.type_list_append mt_append (pv 1) (pa_cons (pe_tup (pa_cons pe_int (pa_cons (pe_ix ix_seq (pe_call GS hr (by rfl) gS kS bS .nil pass0 (pa_cons (pv 2) pa_nil)) pe_int (fun _ _ => rfl)) pa_nil))) pa_nil)))) pss_nil)
      (pss_one (ps_ret (pv 1)))))))), ?_⟩
    have fls : ∀ u : Trm, size u ≤ 1000 → (S (flat u)).length ≤ sizeLine := fun u h => by
      have := flat_len u
      rw [S_len]
      omega
    refine ⟨(by show 0 ≤ sizeLine; decide), fun F0 nF => ?_⟩
    have s0 := sameUpd (o := .lst []) nF
    cases t with
    | let_ c =>
      have lc : isL c = true := ok
      refine ⟨_, rfl, S [c], 0, c, rfl, rfl, (by show 1 ≤ sizeLine; decide), rfl, rfl, _, rfl, ?_⟩
      rw [eqL lc]
      exact iteT ⟨_, rfl, q _ F0 [] s0 nF upd_same trivial⟩
    | mul l r =>
      have szl : size l ≤ 1000 := by
        have : size (.mul l r) = size l + size r := rfl
        omega
      have szr : size r ≤ 1000 := by
        have : size (.mul l r) = size l + size r := rfl
        omega
      have okl : Ok l := ok.1
      have okr : Ok r := ok.2
      refine ⟨_, rfl, S (flat (.mul l r)), 0, 42, rfl, rfl, fls _ sz, at0M, rfl, _, rfl, ?_⟩
      rw [eqM]
      refine iteF ⟨_, rfl, l, r, rfl, ok, by omega, fun p0 np0 => ⟨p0, _, rfl, .inl (.inl upd_same), rfl, _, _, rfl, _, _, rfl, rfl, ?_⟩⟩
      have s1 := s0.trans (sameUpd (o := .tup [.str (S (flat l)), .str (S (flat r))]) np0)
      have hF : (upd (upd H F0 (.lst [])) p0 (.tup [.str (S (flat l)), .str (S (flat r))])) F0 = some (.lst []) := sameUpd np0 _ _ upd_same
      generalize upd (upd H F0 (.lst [])) p0 (.tup [.str (S (flat l)), .str (S (flat r))]) = H1 at s1 hF
      have small : ∀ us : List V, us.length ≤ 3 → us.length < sizeLine := fun us h => by omega
      refine ⟨fun σ' H' => σ' = [some (.str (S (flat (.mul l r)))), some (.ref F0), some (.str (S (flat l))), some (.str (S (flat r)))] ∧ Same H H' ∧ ∃ us, H' F0 = some (.lst us) ∧ us.length ≤ 1 ∧ All2 (RuleS H') (r1 l r) us, ?_, ?_⟩
      · cases l with
        | let_ c =>
          refine ⟨_, rfl, S [c], 0, c, rfl, rfl, (by show 1 ≤ sizeLine; decide), rfl, rfl, _, rfl, ?_⟩
          rw [eqL okl]
          exact iteF (iteF ⟨rfl, s1, [], hF, Nat.zero_le _, trivial⟩)
        | mul l1 l2 =>
          refine ⟨_, rfl, S (flat (.mul l1 l2)), 0, 42, rfl, rfl, fls _ szl, at0M, rfl, _, rfl, ?_⟩
          rw [eqM]
          refine iteT ?_
          cases r with
          | let_ c =>
            refine ⟨_, rfl, S [c], 0, c, rfl, rfl, (by show 1 ≤ sizeLine; decide), rfl, rfl, _, rfl, ?_⟩
            rw [eqL okr]
            exact iteF (iteF ⟨rfl, s1, [], hF, Nat.zero_le _, trivial⟩)
          | mul m1 m2 =>
            refine ⟨_, rfl, S (flat (.mul m1 m2)), 0, 42, rfl, rfl, fls _ szr, at0M, rfl, _, rfl, ?_⟩
            rw [eqM]
            refine iteT ?_
            refine ⟨_, rfl, l1, l2, rfl, okl, by omega, fun p1 np1 => .inr (.inl ⟨p1, _, 1, _, rfl, rfl, .inl (.inl upd_same), rfl, ?_⟩)⟩
            refine ⟨_, rfl, m1, m2, rfl, okr, by omega, fun p2 np2 => .inr (.inl ⟨p2, _, 0, _, rfl, rfl, .inl (.inl upd_same), rfl, rfl, _, rfl, ?_⟩)⟩
            rw [eqS]
            have s2 := (sameUpd (o := .tup [.str (S (flat l1)), .str (S (flat l2))]) np1).trans (sameUpd (o := .tup [.str (S (flat m1)), .str (S (flat m2))]) np2)
            have hF2 := s2 _ _ hF
            have sH := s1.trans s2
            generalize upd (upd H1 p1 (.tup [.str (S (flat l1)), .str (S (flat l2))])) p2 (.tup [.str (S (flat m1)), .str (S (flat m2))]) = H2 at s2 hF2 sH ⊢
            show if decide (flat l2 = flat m1) = true then _ else _
            by_cases e : flat l2 = flat m1
            · rw [decide_eq_true e]
              refine iteT ⟨_, rfl, .inl ⟨rfl, _, .inl (.inl hF2)⟩, ?_⟩
              refine ⟨_, rfl, l1, l2, rfl, okl, by omega, fun p3 np3 => .inr (.inl ⟨p3, _, 1, _, rfl, rfl, .inl (.inl upd_same), rfl, (by show 2 ≤ sizeLine; decide), fun T nT => ?_⟩)⟩
              have s3 := sameUpd (o := .tup [.str (S (flat l1)), .str (S (flat l2))]) np3
              have hF3 := s3 _ _ hF2
              have sT := sameUpd (o := .tup [.int 1, .str (S (flat l2))]) nT
              refine ⟨F0, _, _, rfl, rfl, sT _ _ hF3, small [] (by decide), ?_⟩
              have ad := ruleS_add (k := 1) (u := l2) (ks := []) hF3 trivial nT
              refine ⟨rfl, fun z o ez => ?_, _, upd_same, (Nat.le_refl 1), ?_⟩
              · rw [upd_ne (ne_of_none ez nF)]
                exact sT _ _ (s3 _ _ (sH _ _ ez))
              · rw [show r1 (.mul l1 l2) (.mul m1 m2) = [(1, l2)] from if_pos e]
                exact ad
            · rw [decide_eq_false e]
              refine iteF ⟨rfl, sH, [], hF2, Nat.zero_le _, ?_⟩
              rw [show r1 (.mul l1 l2) (.mul m1 m2) = [] from if_neg e]
              trivial
      clear hF s1
      rintro σ' H1 ⟨rfl, s1, us, hF, lu, au⟩
      refine ⟨fun σ' H' => σ' = [some (.str (S (flat (.mul l r)))), some (.ref F0), some (.str (S (flat l))), some (.str (S (flat r)))] ∧ Same H H' ∧ ∃ us, H' F0 = some (.lst us) ∧ us.length ≤ 2 ∧ All2 (RuleS H') (r1 l r ++ r2 l r) us, ?_, ?_⟩
      · cases r with
        | let_ x =>
          refine ⟨_, rfl, S [x], 0, x, rfl, rfl, (by show 1 ≤ sizeLine; decide), rfl, rfl, _, rfl, ?_⟩
          rw [eqL okr]
          refine iteF (iteF ⟨rfl, s1, us, hF, by omega, ?_⟩)
          rw [show r2 l (.let_ x) = [] by cases l <;> rfl, List.append_nil]
          exact au
        | mul m1 m2 =>
          have szm : size m1 ≤ 1000 := by
            have : size (.mul m1 m2) = size m1 + size m2 := rfl
            omega
          refine ⟨_, rfl, S (flat (.mul m1 m2)), 0, 42, rfl, rfl, fls _ szr, at0M, rfl, _, rfl, ?_⟩
          rw [eqM]
          refine iteT ?_
          refine ⟨_, rfl, m1, m2, rfl, okr, by omega, fun p1 np1 => .inr (.inl ⟨p1, _, 0, _, rfl, rfl, .inl (.inl upd_same), rfl, ?_⟩)⟩
          have s2 := sameUpd (o := .tup [.str (S (flat m1)), .str (S (flat m2))]) np1
          have hF2 := s2 _ _ hF
          have au2 : All2 (RuleS (upd H1 p1 (.tup [.str (S (flat m1)), .str (S (flat m2))]))) (r1 l (.mul m1 m2)) us := au.imp fun _ _ _ g => g.same s2
          have sH := s1.trans s2
          generalize upd H1 p1 (.tup [.str (S (flat m1)), .str (S (flat m2))]) = H2 at s2 hF2 sH au2 ⊢
          cases m1 with
          | let_ x =>
            refine ⟨S [x], 0, x, rfl, rfl, (by show 1 ≤ sizeLine; decide), rfl, rfl, _, rfl, ?_⟩
            rw [eqL okr.1]
            refine iteF (iteF ⟨rfl, sH, us, hF2, by omega, ?_⟩)
            rw [show r2 l (.mul (.let_ x) m2) = [] by cases l <;> rfl, List.append_nil]
            exact au2
          | mul x y =>
            refine ⟨S (flat (.mul x y)), 0, 42, rfl, rfl, fls _ szm, at0M, rfl, _, rfl, ?_⟩
            rw [eqM]
            refine iteT ?_
            refine ⟨_, rfl, .mul x y, m2, rfl, okr, by omega, fun p2 np2 => .inr (.inl ⟨p2, _, 0, _, rfl, rfl, .inl (.inl upd_same), rfl, ?_⟩)⟩
            refine ⟨x, y, rfl, okr.1, by omega, fun p3 np3 => .inr (.inl ⟨p3, _, 0, _, rfl, rfl, .inl (.inl upd_same), rfl, ?_⟩)⟩
            refine ⟨_, rfl, rfl, _, rfl, ?_⟩
            rw [eqS]
            have s3 := (sameUpd (o := .tup [.str (S (flat (.mul x y))), .str (S (flat m2))]) np2).trans (sameUpd (o := .tup [.str (S (flat x)), .str (S (flat y))]) np3)
            have hF3 := s3 _ _ hF2
            have au3 : All2 (RuleS (upd (upd H2 p2 (.tup [.str (S (flat (.mul x y))), .str (S (flat m2))])) p3 (.tup [.str (S (flat x)), .str (S (flat y))]))) (r1 l (.mul (.mul x y) m2)) us := au2.imp fun _ _ _ g => g.same s3
            have sH3 := sH.trans s3
            generalize upd (upd H2 p2 (.tup [.str (S (flat (.mul x y))), .str (S (flat m2))])) p3 (.tup [.str (S (flat x)), .str (S (flat y))]) = H3 at s3 hF3 sH3 au3 ⊢
            show if decide (flat x = flat l) = true then _ else _
            have er : r2 l (.mul (.mul x y) m2) = if flat x = flat l then [(2, .mul x y)] else [] := by cases l <;> rfl
            rw [er]
            by_cases e : flat x = flat l
            · rw [decide_eq_true e]
              refine iteT ⟨_, rfl, .inl ⟨rfl, _, .inl (.inl hF3)⟩, ?_⟩
              refine ⟨_, rfl, .mul x y, m2, rfl, okr, by omega, fun p4 np4 => .inr (.inl ⟨p4, _, 0, _, rfl, rfl, .inl (.inl upd_same), rfl, (by show 2 ≤ sizeLine; decide), fun T nT => ?_⟩)⟩
              have s4 := sameUpd (o := .tup [.str (S (flat (.mul x y))), .str (S (flat m2))]) np4
              have hF4 := s4 _ _ hF3
              have sT := sameUpd (o := .tup [.int 2, .str (S (flat (.mul x y)))]) nT
              refine ⟨F0, _, _, rfl, rfl, sT _ _ hF4, small _ (by omega), ?_⟩
              have ad := ruleS_add (k := 2) (u := .mul x y) hF4 (au3.imp fun _ _ _ g => g.same s4) nT
              refine ⟨rfl, fun z o ez => ?_, _, upd_same, (by rw [List.length_append]; simp; omega), ?_⟩
              · rw [upd_ne (ne_of_none ez nF)]
                exact sT _ _ (s4 _ _ (sH3 _ _ ez))
              · rw [if_pos e]
                exact ad
            · rw [decide_eq_false e, if_neg e, List.append_nil]
              exact iteF ⟨rfl, sH3, us, hF3, by omega, au3⟩
      clear hF au lu s1
      rintro σ' H1 ⟨rfl, s1, us, hF, lu, au⟩
      refine ⟨fun σ' H' => σ' = [some (.str (S (flat (.mul l r)))), some (.ref F0), some (.str (S (flat l))), some (.str (S (flat r)))] ∧ Same H H' ∧ ∃ us, H' F0 = some (.lst us) ∧ us.length ≤ 3 ∧ All2 (RuleS H') ((r1 l r ++ r2 l r) ++ r3 l r) us, ?_, ?_⟩
      · cases l with
        | let_ x =>
          refine ⟨_, rfl, S [x], 0, x, rfl, rfl, (by show 1 ≤ sizeLine; decide), rfl, rfl, _, rfl, ?_⟩
          rw [eqL okl]
          refine iteF (iteF ⟨rfl, s1, us, hF, by omega, ?_⟩)
          rw [show r3 (.let_ x) r = [] from rfl, List.append_nil]
          exact au
        | mul m1 m2 =>
          have szm : size m2 ≤ 1000 := by
            have : size (.mul m1 m2) = size m1 + size m2 := rfl
            omega
          refine ⟨_, rfl, S (flat (.mul m1 m2)), 0, 42, rfl, rfl, fls _ szl, at0M, rfl, _, rfl, ?_⟩
          rw [eqM]
          refine iteT ?_
          refine ⟨_, rfl, m1, m2, rfl, okl, by omega, fun p1 np1 => .inr (.inl ⟨p1, _, 1, _, rfl, rfl, .inl (.inl upd_same), rfl, ?_⟩)⟩
          have s2 := sameUpd (o := .tup [.str (S (flat m1)), .str (S (flat m2))]) np1
          have hF2 := s2 _ _ hF
          have au2 : All2 (RuleS (upd H1 p1 (.tup [.str (S (flat m1)), .str (S (flat m2))]))) (r1 (.mul m1 m2) r ++ r2 (.mul m1 m2) r) us := au.imp fun _ _ _ g => g.same s2
          have sH := s1.trans s2
          generalize upd H1 p1 (.tup [.str (S (flat m1)), .str (S (flat m2))]) = H2 at s2 hF2 sH au2 ⊢
          cases m2 with
          | let_ x =>
            refine ⟨S [x], 0, x, rfl, rfl, (by show 1 ≤ sizeLine; decide), rfl, rfl, _, rfl, ?_⟩
            rw [eqL okl.2]
            refine iteF (iteF ⟨rfl, sH, us, hF2, by omega, ?_⟩)
            rw [show r3 (.mul m1 (.let_ x)) r = [] from rfl, List.append_nil]
            exact au2
          | mul x y =>
            refine ⟨S (flat (.mul x y)), 0, 42, rfl, rfl, fls _ szm, at0M, rfl, _, rfl, ?_⟩
            rw [eqM]
            refine iteT ?_
            refine ⟨_, rfl, m1, .mul x y, rfl, okl, by omega, fun p2 np2 => .inr (.inl ⟨p2, _, 1, _, rfl, rfl, .inl (.inl upd_same), rfl, ?_⟩)⟩
            refine ⟨x, y, rfl, okl.2, by omega, fun p3 np3 => .inr (.inl ⟨p3, _, 1, _, rfl, rfl, .inl (.inl upd_same), rfl, ?_⟩)⟩
            refine ⟨_, rfl, rfl, _, rfl, ?_⟩
            rw [eqS]
            have s3 := (sameUpd (o := .tup [.str (S (flat m1)), .str (S (flat (.mul x y)))]) np2).trans (sameUpd (o := .tup [.str (S (flat x)), .str (S (flat y))]) np3)
            have hF3 := s3 _ _ hF2
            have au3 : All2 (RuleS (upd (upd H2 p2 (.tup [.str (S (flat m1)), .str (S (flat (.mul x y)))])) p3 (.tup [.str (S (flat x)), .str (S (flat y))]))) (r1 (.mul m1 (.mul x y)) r ++ r2 (.mul m1 (.mul x y)) r) us := au2.imp fun _ _ _ g => g.same s3
            have sH3 := sH.trans s3
            generalize upd (upd H2 p2 (.tup [.str (S (flat m1)), .str (S (flat (.mul x y)))])) p3 (.tup [.str (S (flat x)), .str (S (flat y))]) = H3 at s3 hF3 sH3 au3 ⊢
            show if decide (flat y = flat r) = true then _ else _
            have er : r3 (.mul m1 (.mul x y)) r = if flat y = flat r then [(3, .mul x y)] else [] := rfl
            rw [er]
            by_cases e : flat y = flat r
            · rw [decide_eq_true e]
              refine iteT ⟨_, rfl, .inl ⟨rfl, _, .inl (.inl hF3)⟩, ?_⟩
              refine ⟨_, rfl, m1, .mul x y, rfl, okl, by omega, fun p4 np4 => .inr (.inl ⟨p4, _, 1, _, rfl, rfl, .inl (.inl upd_same), rfl, (by show 2 ≤ sizeLine; decide), fun T nT => ?_⟩)⟩
              have s4 := sameUpd (o := .tup [.str (S (flat m1)), .str (S (flat (.mul x y)))]) np4
              have hF4 := s4 _ _ hF3
              have sT := sameUpd (o := .tup [.int 3, .str (S (flat (.mul x y)))]) nT
              refine ⟨F0, _, _, rfl, rfl, sT _ _ hF4, small _ (by omega), ?_⟩
              have ad := ruleS_add (k := 3) (u := .mul x y) hF4 (au3.imp fun _ _ _ g => g.same s4) nT
              refine ⟨rfl, fun z o ez => ?_, _, upd_same, (by rw [List.length_append]; simp; omega), ?_⟩
              · rw [upd_ne (ne_of_none ez nF)]
                exact sT _ _ (s4 _ _ (sH3 _ _ ez))
              · rw [if_pos e]
                exact ad
            · rw [decide_eq_false e, if_neg e, List.append_nil]
              exact iteF ⟨rfl, sH3, us, hF3, by omega, au3⟩
      clear hF au lu s1
      rintro σ' H1 ⟨rfl, s1, us, hF, lu, au⟩
      refine ⟨_, rfl, q H1 F0 us s1 nF hF ?_⟩
      rw [List.append_assoc] at au
      exact au
end
end K78

set_option maxHeartbeats 16000000
namespace K78
open PySem PySem.Spec PyProof.Rows L2 GG MT
abbrev sLSteps : Stmt := topS 33
theorem scLSteps : FnScope ["term", "found", "index", "part", "rule", "result"] ["term"] (defScope sLSteps) := ⟨rfl, rfl, rfl, by decide +kernel, rfl, by decide +kernel, by decide +kernel⟩
section
variable {P : Program} {w : World} {K : PySem.W.Frag} {mg : Str → Option Value} {base : Heap}
theorem ok_lsteps {f fP fR : Addr} {fd fdP fdR : FuncData} (F : Fun K "_law_steps" "_law_steps" sLSteps f fd) (bP : Binds K fdP ["term", "index"] []) (bR : Binds K fdR ["part"] [])
    (GP : FnOk P w K mg base CX0 1 fP fdP ["term", "index"] spPartOf) (GR : FnOk P w K mg base CX0 3 fR fdR ["part"] spRes)
    (gP : mg "_law_part_of" = some (.ref fP)) (gR : mg "_law_rule_results" = some (.ref fR)) (kP : PySem.W.keepIn K (.ref fP) = true) (kR : PySem.W.keepIn K (.ref fR) = true)
    (mr : mg "range" = none) (ml : mg "len" = none) : FnOk P w K mg base CX0 4 f fd ["term"] spSteps0 := by
  refine F.ok scLSteps (fun vs H Q E h => ?_) (fun cdv A outer s H vs Q E hr h => ?_)
  · obtain ⟨t, rfl, _⟩ := h
    rfl
  · obtain ⟨t, rfl, ok, sz, q⟩ := h
    have N := scLSteps.nd
    have fl := flat_len t
    have sl := sizeLine_eq
    refine ⟨_, pss_cons (ps_set (i := 1) N rfl (.inl rfl) (pe_lst pa_nil))
      (pss_cons (ps_for PassesOwn.never rfl (pi_range1 (by rfl) mr (pa_cons (pe_callB call_len_str (by rfl) ml PySem.boot_len (pa_cons (pv 0) pa_nil)) pa_nil)) (pg_name (i := 2) N rfl (.inl rfl))
        (pss_cons (ps_set (i := 3) N rfl (.inl rfl) (pe_call GP (hr.mono (by decide)) (by rfl) gP kP bP .nil pass0 (pa_cons (pv 0) (pa_cons (pv 2) pa_nil))))
        (pss_one (ps_for PassesOwn.never rfl (pi_list (pe_call GR hr (by rfl) gR kR bR .nil pass0 (pa_cons (pv 3) pa_nil))) (pg_tup rfl (pgs_cons (pg_name (i := 4) N rfl (.inl rfl)) (pgs_cons (pg_name (i := 5) N rfl (.inl rfl)) pgs_nil)))
          (pss_one (ps_expr (pe_bm PySem.F.plainAttrs_list PySem.F.slot_list_append PySem.F.type_list_append mt_append (pv 1) (pa_cons
            (pe_tup (pa_cons (pv 2) (pa_cons (pv 4) (pa_cons (pe_op op_add_str (pe_op op_add_str (pe_slice sl_str (pv 0) po_none (po_some (pv 2))) (pv 5))
              (pe_slice sl_str (pv 0) (po_some (pe_op op_add (pv 2) (pe_callB call_len_str (by rfl) ml PySem.boot_len (pa_cons (pv 3) pa_nil)))) po_none)) pa_nil)))) pa_nil))))))))
      (pss_one (ps_ret (pv 1)))), ?_⟩
    refine ⟨(by show 0 ≤ sizeLine; decide), fun F0 nF => ?_⟩
    refine ⟨_, rfl, S (flat t), rfl, by rw [S_len]; omega, _, rfl, ?_⟩
    rw [S_len]
    refine ⟨by omega, by omega, ?_⟩
    rw [Int.toNat_natCast]
    refine for_it (walk_range (lo := 0) (n := (flat t).length)) (fun i σ H2 => ∃ y2 y3 y4 y5, σ = [some (.str (S (flat t))), some (.ref F0), y2, y3, y4, y5] ∧ Same H H2 ∧
        ∃ us, H2 F0 = some (.lst us) ∧ All2 (StepR H2) (stepsFrom (flat t) 0 ((subs t).take i)) us)
      ⟨_, _, _, _, rfl, sameUpd nF, [], upd_same, trivial⟩ (fun _ _ _ _ _ => trivial) (fun i x σ H2 H3 il hP y => ?_) (fun σ H2 hP => ?_)
    · obtain ⟨y2, y3, y4, y5, rfl, sm, us, hF, au⟩ := hP
      obtain ⟨rfl, hx⟩ := y
      have hx : x = .int (i : Int) := hx.trans (by show V.int (0 + (i : Int)) = _; rw [Int.zero_add])
      subst hx
      obtain ⟨u, pre, post, h1, h2, h3, _⟩ := ctx t i il
      have fit := sub_fit h1
      have ou := subs_ok t ok u (List.mem_of_getElem? h1)
      have su := subs_size t u (List.mem_of_getElem? h1)
      have fu := flat_len u
      refine ⟨_, rfl, _, rfl, pre, post, u, by rw [h3, h2]; rfl, ou, by rw [← h3]; omega, ?_⟩
      refine ⟨_, rfl, u, rfl, ou, by omega, fun H4 p2 us2 s4 np2 hp2 au2 => ⟨p2, rfl, ⟨us2, .inl (.inl hp2)⟩, ?_⟩⟩
      have hF4 := s4 _ _ hF
      have p2F : p2 ≠ F0 := fun z => by
        rw [z, hF] at np2
        cases np2
      have lr := au2.len
      have r3 := rules_len u
      have lsa : (stepsAt (flat t) i u).length = us2.length := by rw [stepsAt, List.length_map, lr]
      have lsf := stepsFrom_len (flat t) ((subs t).take i) 0
      rw [List.length_take, subs_len] at lsf
      refine for_it (walk_list (K := K) (a := p2) (xs := us2)) (fun j σ H5 => ∃ y4 y5, σ = [some (.str (S (flat t))), some (.ref F0), some (.int (i : Int)), some (.str (S (flat u))), y4, y5] ∧ (∀ b o, b ≠ F0 → H4 b = some o → H5 b = some o) ∧
          ∃ us, H5 F0 = some (.lst us) ∧ All2 (StepR H5) (stepsFrom (flat t) 0 ((subs t).take i) ++ (stepsAt (flat t) i u).take j) us)
        ⟨_, _, rfl, fun _ _ _ e => e, us, hF4, by
          rw [List.take_zero, List.append_nil]
          exact au.imp fun _ _ _ g => g.same s4⟩ (fun j σ H5 _ hP => ?_) (fun j x σ H5 H6 jl hP y => ?_) (fun σ H5 hP => ?_)
      · obtain ⟨_, _, _, k, _⟩ := hP
        exact .inl (.inl (k _ _ p2F hp2))
      · obtain ⟨y4, y5, rfl, k5, us5, hF5, au5⟩ := hP
        obtain ⟨rfl, hx⟩ := y
        obtain ⟨kv, ek, qq, rfl, hq⟩ := au2.get j x hx
        have qF : qq ≠ F0 := fun z => by
          rw [z, hF4] at hq
          cases hq
        have l5 := au5.len
        rw [List.length_append, List.length_take] at l5
        refine ⟨qq, _, rfl, .inl (.inl (k5 _ _ qF hq)), rfl, _, _, rfl, _, _, rfl, rfl, ?_⟩
        have szk : size kv.2 ≤ 200 := by
          have a1 := (rules_ok kv (List.mem_of_getElem? ek)).2
          omega
        have fk := flat_len kv.2
        refine ⟨_, rfl, .inl ⟨rfl, _, .inl (.inl hF5)⟩, ?_⟩
        refine ⟨_, rfl, _, rfl, _, rfl, _, rfl, i, rfl, S (flat t), rfl, by rw [S_len]; omega, ?_⟩
        rw [cut_to (by omega)]
        refine ⟨_, rfl, _, _, rfl, rfl, by rw [S_len, S_len, List.length_take]; omega, ?_⟩
        refine ⟨_, rfl, _, rfl, _, rfl, S (flat u), rfl, by rw [S_len]; omega, _, _, rfl, rfl, _, rfl, S (flat t), rfl, by rw [S_len]; omega, ?_⟩
        rw [S_len, ← Int.natCast_add, cut_from fit]
        rw [S_add]
        refine ⟨_, _, rfl, rfl, by rw [S_len, S_len, List.length_append, List.length_take, List.length_drop]; omega, ?_⟩
        rw [S_add, List.append_assoc]
        refine ⟨(by show 3 ≤ sizeLine; decide), fun T2 nT2 => ?_⟩
        have st2 := sameUpd (o := .tup [.int (i : Int), .int (kv.1 : Int), .str (S ((flat t).take i ++ (flat kv.2 ++ (flat t).drop (i + (flat u).length))))]) nT2
        refine ⟨F0, _, _, rfl, rfl, st2 _ _ hF5, by omega, ?_⟩
        have ad := steps_add (st := (i, kv.1, (flat t).take i ++ (flat kv.2 ++ (flat t).drop (i + (flat u).length)))) hF5 au5 nT2
        refine ⟨_, _, rfl, fun b o nb eb => ?_, _, upd_same, ?_⟩
        · rw [upd_ne nb]
          exact st2 _ _ (k5 _ _ nb eb)
        · have ej : (stepsAt (flat t) i u)[j]? = some (i, kv.1, (flat t).take i ++ (flat kv.2 ++ (flat t).drop (i + (flat u).length))) := by
            rw [stepsAt, List.getElem?_map, ek]
            rfl
          rw [List.take_add_one, ej, ← List.append_assoc (stepsFrom (flat t) 0 ((subs t).take i))]
          exact ad
      · obtain ⟨y4, y5, rfl, k5, us5, hF5, au5⟩ := hP
        refine ⟨_, _, _, _, rfl, fun b o eb => k5 _ _ (ne_of_none eb nF) (s4 _ _ (sm _ _ eb)), us5, hF5, ?_⟩
        rw [← lsa, List.take_length] at au5
        rw [List.take_add_one, h1]
        show All2 _ (stepsFrom (flat t) 0 ((subs t).take i ++ [u])) _
        rw [stepsFrom_snoc, List.length_take, subs_len, Nat.min_eq_left (by omega), Nat.zero_add]
        exact au5
    · obtain ⟨y2, y3, y4, y5, rfl, sm, us, hF, au⟩ := hP
      refine ⟨_, rfl, q H2 F0 us sm nF hF ?_⟩
      rw [List.take_of_length_le (by rw [subs_len]; exact Nat.le_refl _)] at au
      exact au
end
end K78

set_option maxHeartbeats 16000000
namespace K78
open PySem PySem.Spec PyProof.Rows L2 GG MT
abbrev sUp : Stmt := topS 35
theorem scUp : FnScope ["dice", "term", "letters", "index", "rule", "part", "more", "other", "fresh"] ["dice", "term", "letters"] (defScope sUp) := ⟨rfl, rfl, rfl, by decide +kernel, rfl, by decide +kernel, by decide +kernel⟩
def spUp : Sp := fun vs H Q _ => ∃ (l : Addr) (t : Trm) (ls : List Nat), vs = [.ref l, .str (S (flat t)), .str (S ls)] ∧ Dice H l ∧ Ok t ∧ size t ≤ 190 ∧ Lets ls ∧
  ∀ H' t', But l H H' → Dice H' l → Ok t' → size t' ≤ 2 * size t + 2 → nf t' = nf t → Q (.str (S (flat t'))) H'
theorem up1 {m o : Nat} {u : Trm} (om : isL m = true) (ou : Ok u) (oo : isL o = true) : nf (.mul (.mul (.let_ m) u) (.mul u (.let_ o))) = nf u := by
  have e : (1, u) ∈ rules (.mul (.mul (.let_ m) u) (.mul u (.let_ o))) := by
    rw [rules]
    have : r1 (.mul (.let_ m) u) (.mul u (.let_ o)) = [(1, u)] := if_pos rfl
    simp [this]
  exact (nf_rule (u := .mul (.mul (.let_ m) u) (.mul u (.let_ o))) ⟨⟨om, ou⟩, ou, oo⟩ (1, u) e).symm
theorem up2 {m : Nat} {p1 p2 : Trm} (om : isL m = true) (ou : Ok (.mul p1 p2)) : nf (.mul p1 (.mul (.mul p1 p2) (.let_ m))) = nf (.mul p1 p2) := by
  have e : (2, .mul p1 p2) ∈ rules (.mul p1 (.mul (.mul p1 p2) (.let_ m))) := by
    rw [rules]
    have d : r2 p1 (.mul (.mul p1 p2) (.let_ m)) = if flat p1 = flat p1 then [(2, .mul p1 p2)] else [] := by cases p1 <;> rfl
    rw [if_pos rfl] at d
    simp [d]
  exact (nf_rule (u := .mul p1 (.mul (.mul p1 p2) (.let_ m))) ⟨ou.1, ou, om⟩ (2, .mul p1 p2) e).symm
theorem up3 {m : Nat} {p1 p2 : Trm} (om : isL m = true) (ou : Ok (.mul p1 p2)) : nf (.mul (.mul (.let_ m) (.mul p1 p2)) p2) = nf (.mul p1 p2) := by
  have e : (3, .mul p1 p2) ∈ rules (.mul (.mul (.let_ m) (.mul p1 p2)) p2) := by
    rw [rules]
    have d : r3 (.mul (.let_ m) (.mul p1 p2)) p2 = [(3, .mul p1 p2)] := if_pos rfl
    simp [d]
  exact (nf_rule (u := .mul (.mul (.let_ m) (.mul p1 p2)) p2) ⟨⟨om, ou⟩, ou.2⟩ (3, .mul p1 p2) e).symm
section
variable {P : Program} {w : World} {K : PySem.W.Frag} {mg : Str → Option Value} {base : Heap}
theorem ok_up {f fP fR fK fS : Addr} {fd fdP fdR fdK fdS : FuncData} (F : Fun K "_law_up" "_law_up" sUp f fd) (bP : Binds K fdP ["term", "index"] []) (bR : Binds K fdR ["dice", "total"] []) (bK : Binds K fdK ["dice", "items"] []) (bS : Binds K fdS ["term"] [])
    (GP : FnOk P w K mg base CX0 1 fP fdP ["term", "index"] spPartOf) (GR : FnOk P w K mg base CX0 1 fR fdR ["dice", "total"] spRoll) (GK : FnOk P w K mg base CX0 2 fK fdK ["dice", "items"] spPickS) (GS : FnOk P w K mg base CX0 2 fS fdS ["term"] spLSides)
    (gP : mg "_law_part_of" = some (.ref fP)) (gR : mg "_law_roll" = some (.ref fR)) (gK : mg "_law_pick" = some (.ref fK)) (gS : mg "_law_sides" = some (.ref fS))
    (kP : PySem.W.keepIn K (.ref fP) = true) (kR : PySem.W.keepIn K (.ref fR) = true) (kK : PySem.W.keepIn K (.ref fK) = true) (kS : PySem.W.keepIn K (.ref fS) = true)
    (ml : mg "len" = none) : FnOk P w K mg base CX0 3 f fd ["dice", "term", "letters"] spUp := by
  refine F.ok scUp (fun vs H Q E h => ?_) (fun cdv A outer s H vs Q E hr h => ?_)
  · obtain ⟨l, t, ls, rfl, _⟩ := h
    rfl
  · obtain ⟨l, t, ls, rfl, hd, ok, sz, hl, q⟩ := h
    have N := scUp.nd
    have fl := flat_len t
    have sl := sizeLine_eq
    have hr1 := hr.mono (show 1 ≤ 2 by decide)
    refine ⟨_, pss_cons (ps_par (by rfl) N (i := 3) (j := 4) rfl rfl (by decide) rfl rfl (pa_cons (pe_call GR hr1 (by rfl) gR kR bR .nil pass0 (pa_cons (pv 0) (pa_cons (pe_callB call_len_str (by rfl) ml PySem.boot_len (pa_cons (pv 1) pa_nil)) pa_nil)))
          (pa_cons (pe_call GR hr1 (by rfl) gR kR bR .nil pass0 (pa_cons (pv 0) (pa_cons pe_int pa_nil))) pa_nil)) (by rfl))
      (pss_cons (ps_set (i := 5) N rfl (.inl rfl) (pe_call GP hr1 (by rfl) gP kP bP .nil pass0 (pa_cons (pv 1) (pa_cons (pv 3) pa_nil))))
      (pss_cons (ps_par (by rfl) N (i := 6) (j := 7) rfl rfl (by decide) rfl rfl (pa_cons (pe_call GK hr (by rfl) gK kK bK .nil pass0 (pa_cons (pv 0) (pa_cons (pv 2) pa_nil)))
          (pa_cons (pe_call GK hr (by rfl) gK kK bK .nil pass0 (pa_cons (pv 0) (pa_cons (pv 2) pa_nil))) pa_nil)) (by rfl))
      (C8.pss_cut (ps_if (PW.pt (pw_or (pt_cmpR op_eq (pv 4) pe_int (nomark _)) (pw_or1 (pt_cmpR op_ne (pe_ix ix_str (pv 5) pe_int (fun _ _ => rfl)) pe_str (nomark _)))))
          (pss_one (ps_set (i := 8) N rfl (.inl rfl) (pe_op op_add_str (pe_op op_add_str (pe_op op_add_str (pe_op op_add_str (pe_op op_add_str pe_str (pv 6)) (pv 5)) pe_str) (pv 5)) (pv 7))))
          (pss_one (ps_if (pt_cmpR op_eq (pv 4) pe_int (nomark _))
            (pss_one (ps_set (i := 8) N rfl (.inl rfl) (pe_op op_add_str (pe_op op_add_str (pe_op op_add_str (pe_op op_add_str pe_str (pe_ix ix_seq (pe_call GS hr (by rfl) gS kS bS .nil pass0 (pa_cons (pv 5) pa_nil)) pe_int (fun _ _ => rfl))) pe_str) (pv 5)) (pv 6))))
            (pss_one (ps_set (i := 8) N rfl (.inl rfl) (pe_op op_add_str (pe_op op_add_str (pe_op op_add_str pe_str (pv 6)) (pv 5)) (pe_ix ix_seq (pe_call GS hr (by rfl) gS kS bS .nil pass0 (pa_cons (pv 5) pa_nil)) pe_int (fun _ _ => rfl))))))))
      (pss_one (ps_ret (pe_op op_add_str (pe_op op_add_str (pe_slice sl_str (pv 1) po_none (po_some (pv 3))) (pv 8))
        (pe_slice sl_str (pv 1) (po_some (pe_op op_add (pv 3) (pe_callB call_len_str (by rfl) ml PySem.boot_len (pa_cons (pv 5) pa_nil)))) po_none))))))), ?_⟩
    refine ⟨_, rfl, _, rfl, S (flat t), rfl, by rw [S_len]; omega, l, (flat t).length, by rw [S_len]; rfl, hd, by omega, by omega, fun H1 r b1 d1 r0 r1 => ?_⟩
    obtain ⟨i, rfl⟩ : ∃ j : Nat, r = j := ⟨r.toNat, by omega⟩
    refine ⟨_, rfl, l, 3, rfl, d1, by decide, by decide, fun H2 rl b2 d2 r20 r21 => ⟨_, _, rfl, ?_⟩⟩
    have il : i < (flat t).length := by omega
    obtain ⟨u, pre, post, h1, h2, h3, h4⟩ := ctxN t i il
    have fit := sub_fit h1
    have ou := subs_ok t ok u (List.mem_of_getElem? h1)
    have su := subs_size t u (List.mem_of_getElem? h1)
    have fu := flat_len u
    refine ⟨_, rfl, _, rfl, pre, post, u, by rw [h3, h2]; rfl, ou, by rw [← h3]; omega, ?_⟩
    refine ⟨_, rfl, _, rfl, l, ls, rfl, d2, hl.1, by have := hl.2.1; omega, fun H3 m hm b3 d3 => ?_⟩
    refine ⟨_, rfl, _, rfl, l, ls, rfl, d3, hl.1, by have := hl.2.1; omega, fun H4 o ho b4 d4 => ⟨_, _, rfl, ?_⟩⟩
    have bt := ((b1.trans b2).trans b3).trans b4
    have om := hl.2.2 m hm
    have oo := hl.2.2 o ho
    refine ⟨fun σ' H' => ∃ v : Trm, σ' = [some (.ref l), some (.str (S (flat t))), some (.str (S ls)), some (.int (i : Int)), some (.int rl), some (.str (S (flat u))), some (.str (S [m])), some (.str (S [o])), some (.str (S (flat v)))] ∧ Same H4 H' ∧ Ok v ∧ size v ≤ 2 * size u + 2 ∧ nf v = nf u, ?_, ?_⟩
    · have es : Str.ofString "*" = S [42] := by decide +kernel
      have es2 : Str.ofString "**" = S [42, 42] := by decide +kernel
      rw [es, es2]
      refine ⟨_, rfl, rfl, _, rfl, ite2 (fun e => ?_) (fun e => ?_)⟩
      · refine iteT ?_
        refine ⟨_, rfl, S ([42, 42]), S ([m]), rfl, rfl, by rw [S_len, S_len]; simp only [List.length_append, List.length_cons, List.length_nil]; omega, ?_⟩
        rw [S_add]
        refine ⟨_, rfl, S (([42, 42]) ++ ([m])), S (flat u), rfl, rfl, by rw [S_len, S_len]; simp only [List.length_append, List.length_cons, List.length_nil]; omega, ?_⟩
        rw [S_add]
        refine ⟨S ((([42, 42]) ++ ([m])) ++ (flat u)), S ([42]), rfl, rfl, by rw [S_len, S_len]; simp only [List.length_append, List.length_cons, List.length_nil]; omega, ?_⟩
        rw [S_add]
        refine ⟨_, rfl, S (((([42, 42]) ++ ([m])) ++ (flat u)) ++ ([42])), S (flat u), rfl, rfl, by rw [S_len, S_len]; simp only [List.length_append, List.length_cons, List.length_nil]; omega, ?_⟩
        rw [S_add]
        refine ⟨_, rfl, S ((((([42, 42]) ++ ([m])) ++ (flat u)) ++ ([42])) ++ (flat u)), S ([o]), rfl, rfl, by rw [S_len, S_len]; simp only [List.length_append, List.length_cons, List.length_nil]; omega, ?_⟩
        rw [S_add]
        refine ⟨.mul (.mul (.let_ m) u) (.mul u (.let_ o)), ?_, .refl _, ⟨⟨om, ou⟩, ou, oo⟩, ?_, up1 om ou oo⟩
        · show [_, _, _, _, _, _, _, _, some (V.str (S (((((([42, 42]) ++ ([m])) ++ (flat u)) ++ ([42])) ++ (flat u)) ++ ([o]))))] = _
          rw [show ((((([42, 42]) ++ ([m])) ++ (flat u)) ++ ([42])) ++ (flat u)) ++ ([o]) = flat (.mul (.mul (.let_ m) u) (.mul u (.let_ o))) by simp [flat]]
        · show size (.mul (.mul (.let_ m) u) (.mul u (.let_ o))) ≤ _
          simp only [size]
          omega
      · cases u with
        | let_ c =>
          refine ⟨_, rfl, S [c], 0, c, rfl, rfl, (by show 1 ≤ sizeLine; decide), rfl, rfl, _, rfl, ?_⟩
          have en : (!decide (V.str ⟨#[c]⟩ = V.str (S [42]))) = true := by
            rw [← es, eqL ou]
            rfl
          rw [en]
          refine iteT ?_
          refine ⟨_, rfl, S ([42, 42]), S ([m]), rfl, rfl, by rw [S_len, S_len]; simp only [List.length_append, List.length_cons, List.length_nil]; omega, ?_⟩
          rw [S_add]
          refine ⟨_, rfl, S (([42, 42]) ++ ([m])), S (flat (.let_ c)), rfl, rfl, by rw [S_len, S_len]; simp only [List.length_append, List.length_cons, List.length_nil]; omega, ?_⟩
          rw [S_add]
          refine ⟨S ((([42, 42]) ++ ([m])) ++ (flat (.let_ c))), S ([42]), rfl, rfl, by rw [S_len, S_len]; simp only [List.length_append, List.length_cons, List.length_nil]; omega, ?_⟩
          rw [S_add]
          refine ⟨_, rfl, S (((([42, 42]) ++ ([m])) ++ (flat (.let_ c))) ++ ([42])), S (flat (.let_ c)), rfl, rfl, by rw [S_len, S_len]; simp only [List.length_append, List.length_cons, List.length_nil]; omega, ?_⟩
          rw [S_add]
          refine ⟨_, rfl, S ((((([42, 42]) ++ ([m])) ++ (flat (.let_ c))) ++ ([42])) ++ (flat (.let_ c))), S ([o]), rfl, rfl, by rw [S_len, S_len]; simp only [List.length_append, List.length_cons, List.length_nil]; omega, ?_⟩
          rw [S_add]
          refine ⟨.mul (.mul (.let_ m) (.let_ c)) (.mul (.let_ c) (.let_ o)), ?_, .refl _, ⟨⟨om, ou⟩, ou, oo⟩, ?_, up1 om ou oo⟩
          · show [_, _, _, _, _, _, _, _, some (V.str (S (((((([42, 42]) ++ ([m])) ++ (flat (.let_ c))) ++ ([42])) ++ (flat (.let_ c))) ++ ([o]))))] = _
            rw [show ((((([42, 42]) ++ ([m])) ++ (flat (.let_ c))) ++ ([42])) ++ (flat (.let_ c))) ++ ([o]) = flat (.mul (.mul (.let_ m) (.let_ c)) (.mul (.let_ c) (.let_ o))) by simp [flat]]
          · show size (.mul (.mul (.let_ m) (.let_ c)) (.mul (.let_ c) (.let_ o))) ≤ _
            simp only [size]
            omega
        | mul p1 p2 =>
          refine ⟨_, rfl, S (flat (.mul p1 p2)), 0, 42, rfl, rfl, by rw [S_len]; omega, at0M, rfl, _, rfl, ?_⟩
          have en : (!decide (V.str ⟨#[42]⟩ = V.str (S [42]))) = false := by
            rw [← es, eqM]
            rfl
          rw [en]
          refine iteF ?_
          have f1 := flat_len p1
          have f2 := flat_len p2
          have fm : (flat (.mul p1 p2)).length = 1 + ((flat p1).length + (flat p2).length) := by
            show (42 :: (flat p1 ++ flat p2)).length = _
            rw [List.length_cons, List.length_append]
            omega
          refine ⟨_, rfl, rfl, _, rfl, ite2 (fun e => ?_) (fun e => ?_)⟩
          · refine ⟨_, rfl, p1, p2, rfl, ou, by omega, fun pa np => .inr (.inl ⟨pa, _, 0, _, rfl, rfl, .inl (.inl upd_same), rfl, ?_⟩)⟩
            refine ⟨S ([42]), S (flat p1), rfl, rfl, by rw [S_len, S_len]; simp only [List.length_append, List.length_cons, List.length_nil]; omega, ?_⟩
            rw [S_add]
            refine ⟨S (([42]) ++ (flat p1)), S ([42]), rfl, rfl, by rw [S_len, S_len]; simp only [List.length_append, List.length_cons, List.length_nil]; omega, ?_⟩
            rw [S_add]
            refine ⟨_, rfl, S ((([42]) ++ (flat p1)) ++ ([42])), S (flat (.mul p1 p2)), rfl, rfl, by rw [S_len, S_len]; simp only [List.length_append, List.length_cons, List.length_nil]; omega, ?_⟩
            rw [S_add]
            refine ⟨_, rfl, S (((([42]) ++ (flat p1)) ++ ([42])) ++ (flat (.mul p1 p2))), S ([m]), rfl, rfl, by rw [S_len, S_len]; simp only [List.length_append, List.length_cons, List.length_nil]; omega, ?_⟩
            rw [S_add]
            refine ⟨.mul p1 (.mul (.mul p1 p2) (.let_ m)), ?_, sameUpd np, ⟨ou.1, ou, om⟩, ?_, up2 om ou⟩
            · show [_, _, _, _, _, _, _, _, some (V.str (S ((((([42]) ++ (flat p1)) ++ ([42])) ++ (flat (.mul p1 p2))) ++ ([m]))))] = _
              rw [show (((([42]) ++ (flat p1)) ++ ([42])) ++ (flat (.mul p1 p2))) ++ ([m]) = flat (.mul p1 (.mul (.mul p1 p2) (.let_ m))) by simp [flat]]
            · show size (.mul p1 (.mul (.mul p1 p2) (.let_ m))) ≤ _
              simp only [size]
              omega
          · refine ⟨_, rfl, S ([42, 42]), S ([m]), rfl, rfl, by rw [S_len, S_len]; simp only [List.length_append, List.length_cons, List.length_nil]; omega, ?_⟩
            rw [S_add]
            refine ⟨_, rfl, S (([42, 42]) ++ ([m])), S (flat (.mul p1 p2)), rfl, rfl, by rw [S_len, S_len]; simp only [List.length_append, List.length_cons, List.length_nil]; omega, ?_⟩
            rw [S_add]
            refine ⟨_, rfl, p1, p2, rfl, ou, by omega, fun pa np => .inr (.inl ⟨pa, _, 1, _, rfl, rfl, .inl (.inl upd_same), rfl, ?_⟩)⟩
            refine ⟨S ((([42, 42]) ++ ([m])) ++ (flat (.mul p1 p2))), S (flat p2), rfl, rfl, by rw [S_len, S_len]; simp only [List.length_append, List.length_cons, List.length_nil]; omega, ?_⟩
            rw [S_add]
            refine ⟨.mul (.mul (.let_ m) (.mul p1 p2)) p2, ?_, sameUpd np, ⟨⟨om, ou⟩, ou.2⟩, ?_, up3 om ou⟩
            · show [_, _, _, _, _, _, _, _, some (V.str (S (((([42, 42]) ++ ([m])) ++ (flat (.mul p1 p2))) ++ (flat p2))))] = _
              rw [show ((([42, 42]) ++ ([m])) ++ (flat (.mul p1 p2))) ++ (flat p2) = flat (.mul (.mul (.let_ m) (.mul p1 p2)) p2) by simp [flat]]
            · show size (.mul (.mul (.let_ m) (.mul p1 p2)) p2) ≤ _
              simp only [size]
              omega
    · rintro σ' H5 ⟨v, rfl, s5, ov, sv, nv⟩
      have fv := flat_len v
      refine ⟨_, rfl, _, rfl, i, rfl, S (flat t), rfl, by rw [S_len]; omega, ?_⟩
      rw [cut_to (by omega)]
      refine ⟨_, rfl, _, _, rfl, rfl, by rw [S_len, S_len, List.length_take]; omega, ?_⟩
      refine ⟨_, rfl, _, rfl, _, rfl, S (flat u), rfl, by rw [S_len]; omega, _, _, rfl, rfl, _, rfl, S (flat t), rfl, by rw [S_len]; omega, ?_⟩
      rw [S_len, ← Int.natCast_add, cut_from fit]
      rw [S_add]
      refine ⟨_, _, rfl, rfl, by rw [S_len, S_len, List.length_append, List.length_take, List.length_drop]; omega, ?_⟩
      rw [S_add, List.append_assoc]
      obtain ⟨t', e1, e2, e3, e5⟩ := h4 v
      have e4 : (flat t).take i ++ (flat v ++ (flat t).drop (i + (flat u).length)) = flat t' := by
        rw [e1, h3, List.take_append_of_le_length (by omega), List.take_of_length_le (by omega), List.drop_append, ← h2, List.drop_of_length_le (by omega), List.nil_append,
          show pre.length + (flat u).length - pre.length = (flat u).length by omega, List.drop_append, List.drop_of_length_le (Nat.le_refl _), Nat.sub_self, List.drop_zero, List.nil_append]
      rw [e4]
      have d5 := d4.same s5
      exact q H5 t' (bt.trans (.ofSame s5)) d5 (e3 ok ov) (by omega) (e5 nv)
end
end K78

set_option maxHeartbeats 16000000
namespace K78
open PySem PySem.Spec PyProof.Rows L2 GG MT
/-! ### rows of steps as data -/
def stepD (s : Nat × Nat × List Nat) : PyData := .tuple [.int s.1, .int s.2.1, .str (S s.2.2)]
theorem steps_dp {K : PySem.W.Frag} {H : Hp} : ∀ {ss : List (Nat × Nat × List Nat)} {us : List V}, All2 (StepR H) ss us → DpAll K H us (ss.map stepD)
  | [], [], _ => .nil
  | s :: ss, u :: us, ⟨⟨q, e, h⟩, r⟩ => by
    subst e
    exact .cons (.tup (.inl (.inl h)) (.cons (.int _) (.cons (.int _) (.cons (.str _) .nil)))) (steps_dp r)
  | [], _ :: _, h => h.elim
  | _ :: _, [], h => h.elim
def StepOk (s : Nat × Nat × List Nat) : Prop := s.1 ≤ 1000 ∧ s.2.1 ≤ 1000 ∧ s.2.2.length ≤ 400 ∧ ∀ c ∈ s.2.2, c ≤ 1000
theorem nat_show {n : Nat} (h : n ≤ 1000) : (PyData.int (n : Int)).showable = true ∧ (PyData.shown (.int (n : Int))).length ≤ 13 := by
  have h1 : ((n : Int)).natAbs < 10 ^ 12 := by
    rw [Int.natAbs_natCast]
    omega
  exact ⟨decide_eq_true (PySem.Flt.log2_lt_of (by decide) (Nat.lt_trans h1 (by decide +kernel))), PyData.shown_int_le h1⟩
theorem step_show {s : Nat × Nat × List Nat} (h : StepOk s) : (stepD s).showable = true ∧ (stepD s).hasDict = false ∧ (stepD s).depth = 1 ∧ (stepD s).shown.length ≤ 4100 ∧ (stepD s).canLay0 = true := by
  obtain ⟨a, b, c, d⟩ := h
  obtain ⟨a1, a2⟩ := nat_show a
  obtain ⟨b1, b2⟩ := nat_show b
  have c2 : (reprText (S s.2.2)).length ≤ 10 * s.2.2.length + 2 := by
    have c3 : (reprText (S s.2.2)).length ≤ 10 * (S s.2.2).length + 2 := PySem.StrLaws.reprText_len (S s.2.2) (fun x hx => Nat.lt_of_le_of_lt (d x hx) (by decide))
    rw [S_len s.2.2] at c3
    exact c3
  refine ⟨?_, rfl, rfl, ?_, ?_⟩
  · rw [stepD, PyData.showable, PyData.showableAll, PyData.showableAll, PyData.showableAll, PyData.showableAll, a1, b1]
    rfl
  · rw [stepD, PyData.shown]
    have t := tupleText_len_le (PyData.shownAll [.int (s.1 : Int), .int (s.2.1 : Int), .str (S s.2.2)])
    rw [PyData.shownAll_length] at t
    simp only [PyData.shownAll, List.map_cons, List.map_nil, List.sum_cons, List.sum_nil, List.length_cons, List.length_nil] at t ⊢
    have e : (PyData.shown (.str (S s.2.2))).length = (reprText (S s.2.2)).length := by rw [PyData.shown]
    omega
  · have : PySem.PyData.strOk (S s.2.2) = true := by
      unfold PySem.PyData.strOk
      show s.2.2.toArray.all _ = true
      rw [List.all_toArray, List.all_eq_true]
      intro c hc
      have := d c hc
      exact decide_eq_true (by omega)
    rw [stepD, PyData.canLay0, PyData.canLayAll0, PyData.canLayAll0, PyData.canLayAll0, PyData.canLay0, PyData.canLay0, PyData.canLay0, this]
    rfl
theorem steps_show : ∀ {ss : List (Nat × Nat × List Nat)}, (∀ s ∈ ss, StepOk s) → PyData.showableAll (ss.map stepD) = true ∧ PyData.hasDictAll (ss.map stepD) = false ∧ PyData.depthAll (ss.map stepD) ≤ 1 ∧
    ((PyData.shownAll (ss.map stepD)).map (·.length)).sum ≤ 4100 * ss.length ∧ PyData.canLayAll0 (ss.map stepD) = true
  | [], _ => ⟨rfl, rfl, Nat.zero_le _, Nat.zero_le _, rfl⟩
  | s :: ss, h => by
    obtain ⟨a, b, c, d, e⟩ := steps_show (ss := ss) fun x hx => h x (by simp [hx])
    obtain ⟨a1, b1, c1, d1, e1⟩ := step_show (h s (by simp))
    refine ⟨?_, ?_, ?_, ?_, ?_⟩
    · rw [List.map_cons, PyData.showableAll, a1, a]
      rfl
    · rw [List.map_cons, PyData.hasDictAll, b1, b]
      rfl
    · rw [List.map_cons, PyData.depthAll, c1]
      exact Nat.max_le.mpr ⟨Nat.le_refl _, c⟩
    · rw [List.map_cons, PyData.shownAll, List.map_cons, List.sum_cons, List.length_cons]
      omega
    · rw [List.map_cons, PyData.canLayAll0, e1, e]
      rfl
theorem steps_rp {ss : List (Nat × Nat × List Nat)} (h : ∀ s ∈ ss, StepOk s) (n : ss.length ≤ 1200) : (PyData.tuple (ss.map stepD)).showable = true ∧ (PyData.tuple (ss.map stepD)).hasDict = false ∧ (PyData.tuple (ss.map stepD)).depth ≤ 40 ∧ (PyData.tuple (ss.map stepD)).shown.length ≤ sizeLine := by
  obtain ⟨a, b, c, d, _⟩ := steps_show h
  refine ⟨?_, ?_, ?_, ?_⟩
  · rw [PyData.showable]
    exact a
  · rw [PyData.hasDict]
    exact b
  · rw [PyData.depth]
    omega
  · have e := tupleText_len_le (PyData.shownAll (ss.map stepD))
    rw [PyData.shownAll_length, List.length_map] at e
    rw [PyData.shown, sizeLine_eq]
    omega
theorem steps_shaped {ss : List (Nat × Nat × List Nat)} (h : ∀ s ∈ ss, StepOk s) : SeqAt.shaped (.list (ss.map stepD)) = true := by
  obtain ⟨_, _, c, _, e⟩ := steps_show h
  unfold SeqAt.shaped
  rw [PyData.canLay0, e, PyData.depth]
  exact decide_eq_true (by omega)
theorem flat_small : ∀ {t : Trm}, Ok t → ∀ c ∈ flat t, c ≤ 1000
  | .let_ d, h, c, hc => by
    have h' : isL d = true := h
    unfold isL at h'
    have := of_decide_eq_true h'
    have e : c = d := by simpa [flat] using hc
    omega
  | .mul l r, h, c, hc => by
    rcases List.mem_cons.mp hc with rfl | hc
    · decide
    · rcases List.mem_append.mp hc with hc | hc
      · exact flat_small h.1 c hc
      · exact flat_small h.2 c hc
theorem ite_num {p : Prop} [Decidable p] {k : Nat} {y : Trm} {kv : Nat × Trm} (h : kv ∈ (if p then [(k, y)] else [])) : kv.1 = k := by
  rw [ite_mem h]
theorem rules_num {l r : Trm} (kv : Nat × Trm) (h : kv ∈ rules (.mul l r)) : kv.1 ≤ 3 := by
  rw [rules] at h
  rcases List.mem_append.mp h with h | h
  · cases l <;> cases r <;> first | cases h | (have := ite_num (k := 1) h; omega)
  · rcases List.mem_append.mp h with h | h
    · cases r with
      | let_ c => cases l <;> cases h
      | mul a b =>
        cases a with
        | let_ c => cases l <;> cases h
        | mul x y => cases l <;> (have := ite_num (k := 2) h; omega)
    · cases l with
      | let_ c => cases h
      | mul a b =>
        cases b with
        | let_ c => cases h
        | mul x y =>
          have := ite_num (k := 3) h
          omega
theorem steps_allok {t : Trm} (h : Ok t) (n : size t ≤ 200) : ∀ s ∈ steps t, StepOk s := by
  intro s hs
  obtain ⟨j, u, hj, hu⟩ := stepsFrom_mem _ _ _ hs
  obtain ⟨t', e, o, sz⟩ := steps_ok h s hs
  obtain ⟨kv, hk, rfl⟩ := List.mem_map.mp hu
  have fl := flat_len t
  have jl : j < (flat t).length := by
    rw [← subs_len]
    exact (List.getElem?_eq_some_iff.mp hj).1
  have ft := flat_len t'
  refine ⟨by show 0 + j ≤ 1000; omega, ?_, ?_, ?_⟩
  · show kv.1 ≤ 1000
    cases u with
    | let_ c => cases hk
    | mul l r =>
      have := rules_num kv hk
      omega
  · rw [← e]
    omega
  · rw [← e]
    exact flat_small o
end K78

set_option maxHeartbeats 16000000
namespace K78
open PySem PySem.Spec PyProof.Rows L2 GG MT
abbrev vT (t : Trm) : V := .str (S (flat t))
end K78

set_option maxHeartbeats 16000000
namespace K78
open PySem PySem.Spec PyProof.Rows L2 GG MT
theorem stepsFrom_in {cs : List Nat} {u : Trm} {s : Nat × Nat × List Nat} : ∀ (us : List Trm) (i j : Nat), us[j]? = some u → s ∈ stepsAt cs (i + j) u → s ∈ stepsFrom cs i us
  | [], _, _, h, _ => by simp at h
  | v :: us, i, 0, h, hs => by
    have : v = u := by simpa using h
    subst this
    exact List.mem_append_left _ hs
  | v :: us, i, j + 1, h, hs => by
    refine List.mem_append_right _ (stepsFrom_in us (i + 1) j (by simpa using h) ?_)
    rw [show i + 1 + j = i + (j + 1) by omega]
    exact hs
/-- one step after the other -/
def Chn : List Trm → Prop
  | [] => True
  | [_] => True
  | t :: u :: ts => Down t u ∧ Chn (u :: ts)
theorem chn_snoc : ∀ {ts : List Trm} {t u : Trm}, Chn (ts ++ [t]) → Down t u → Chn (ts ++ [t, u])
  | [], t, u, _, d => ⟨d, trivial⟩
  | [a], t, u, h, d => ⟨h.1, d, trivial⟩
  | a :: b :: ts, t, u, h, d => ⟨h.1, chn_snoc (ts := b :: ts) h.2 d⟩
/-- all steps from a term to its form -/
structure ChainOf (t : Trm) (ts : List Trm) : Prop where
  head : ts.head? = some t
  last : ∃ us u, ts = us ++ [u] ∧ steps u = [] ∧ nf u = nf t
  chn : Chn ts
  ok : ∀ u ∈ ts, Ok u ∧ size u ≤ size t
  len : ts.length ≤ size t
theorem ChainOf.form {t : Trm} {ts : List Trm} (h : ChainOf t ts) : ∃ us, ts = us ++ [nf t] := by
  obtain ⟨us, u, e, s, n⟩ := h.last
  exact ⟨us, by rw [e, ← n, steps_nil.mp s]⟩
end K78

set_option maxHeartbeats 16000000
namespace K78
open PySem PySem.Spec PyProof.Rows L2 GG MT
theorem atI_end {α : Type} (xs : List α) (x : α) : atI (xs ++ [x]) (-1) = some x := by
  have e : ixN (xs ++ [x]).length (-1) = some xs.length := by
    unfold ixN
    rw [List.length_append]
    simp only [List.length_cons, List.length_nil]
    rw [if_neg (by decide), if_pos (by omega)]
    congr 1
    omega
  unfold atI
  rw [e]
  simp
theorem cutV_init (xs : List V) : cutV xs none (some (-1)) = xs.dropLast := by
  show (xs.drop 0).take (((-1 : Int) + (xs.length : Int)).toNat - 0) = _
  rw [List.drop_zero, List.dropLast_eq_take]
  congr 1
  omega
theorem cutV_tail (xs : List V) : cutV xs (some 1) none = xs.drop 1 := cutV_from1
def EqAt (K : PySem.W.Frag) (H : Hp) (p c : Addr) (ts : List Trm) : Prop := SqT K H p [.str "equal", .ref c] ∧ SqT K H c (ts.map vT)
def NeAt (K : PySem.W.Frag) (H : Hp) (p c d : Addr) (ts us : List Trm) : Prop := SqT K H p [.str "unequal", .ref c, .ref d] ∧ SqT K H c (ts.map vT) ∧ SqT K H d (us.map vT)
end K78

set_option maxHeartbeats 16000000
namespace K78
open PySem PySem.Spec PyProof.Rows L2 GG MT
abbrev sIsStep : Stmt := topS 22
theorem scIsStep : FnScope ["high", "low", "less", "index", "part", "_", "result"] ["high", "low"] (defScope sIsStep) := ⟨rfl, rfl, rfl, by decide +kernel, rfl, by decide +kernel, by decide +kernel⟩
def stepB (t u : Trm) : Bool := (steps t).any fun s => decide (s.2.2 = flat u)
theorem stepB_iff {t u : Trm} : stepB t u = true ↔ Down t u := by
  unfold stepB Down
  rw [List.any_eq_true]
  constructor
  · rintro ⟨s, hs, e⟩
    exact ⟨s, hs, of_decide_eq_true e⟩
  · rintro ⟨s, hs, e⟩
    exact ⟨s, hs, decide_eq_true e⟩
theorem stepB_no {t u : Trm} (h : ∀ s ∈ steps t, s.2.2 ≠ flat u) : stepB t u = false := by
  unfold stepB
  rw [List.any_eq_false]
  intro s hs e
  exact h s hs (of_decide_eq_true e)
theorem stepB_yes {t u : Trm} {s : Nat × Nat × List Nat} (h : s ∈ steps t) (e : s.2.2 = flat u) : stepB t u = true := by
  unfold stepB
  rw [List.any_eq_true]
  exact ⟨s, h, decide_eq_true e⟩
def spIsStep : Sp := fun vs H Q _ => ∃ t u : Trm, vs = [vT t, vT u] ∧ Ok t ∧ Ok u ∧ size t ≤ 200 ∧ size u ≤ 200 ∧ ∀ H', Same H H' → Q (.bl (stepB t u)) H'
section
variable {P : Program} {w : World} {K : PySem.W.Frag} {mg : Str → Option Value} {base : Heap}
theorem ok_isstep {f fP fR fW C : Addr} {fd fdP fdR fdW : FuncData} (F : Fun K "_is_step" "_is_step" sIsStep f fd) (W : PartC K C) (bP : Binds K fdP ["term"] []) (bR : Binds K fdR ["part"] []) (bW : Binds K fdW ["term", "index", "part", "result"] [])
    (GP : FnOk P w K mg base CX0 4 fP fdP ["term"] (spParts C)) (GR : FnOk P w K mg base CX0 1 fR fdR ["part"] (spRulesAt C)) (GW : FnOk P w K mg base CX0 1 fW fdW ["term", "index", "part", "result"] (spWithR C))
    (gP : mg "parts_of" = some (.ref fP)) (gR : mg "rules_at" = some (.ref fR)) (gW : mg "_with_result" = some (.ref fW)) (kP : PySem.W.keepIn K (.ref fP) = true) (kR : PySem.W.keepIn K (.ref fR) = true) (kW : PySem.W.keepIn K (.ref fW) = true)
    (me : mg "enumerate" = none) (ml : mg "len" = none) : FnOk P w K mg base CX0 5 f fd ["high", "low"] spIsStep := by
  refine F.ok scIsStep (fun vs H Q E h => ?_) (fun cdv A outer s H vs Q E hr h => ?_)
  · obtain ⟨t, u, rfl, _⟩ := h
    rfl
  · obtain ⟨t, lo, rfl, ok, ol, sz, szl, q⟩ := h
    have N := scIsStep.nd
    have hr1 := hr.mono (show 1 ≤ 4 by decide)
    have fl := flat_len t
    have fo := flat_len lo
    have sl := sizeLine_eq
    refine ⟨_, pss_cons (ps_set (i := 2) N rfl (.inl rfl) (pe_op op_sub (pe_callB call_len_str (by rfl) ml PySem.boot_len (pa_cons (pv 0) pa_nil)) (pe_callB call_len_str (by rfl) ml PySem.boot_len (pa_cons (pv 1) pa_nil))))
      (pss_cons (ps_if (pt_cmpR op_le (pv 2) pe_int (nomark _)) (pss_one (ps_ret pe_bl)) pss_nil)
      (pss_cons (ps_for PassesOwn.never rfl (pi_enum (by rfl) me (pa_cons (pe_call GP hr (by rfl) gP kP bP .nil pass0 (pa_cons (pv 0) pa_nil)) pa_nil)) (pg_tup rfl (pgs_cons (pg_name (i := 3) N rfl (.inl rfl)) (pgs_cons (pg_name (i := 4) N rfl (.inl rfl)) pgs_nil)))
        (pss_one (ps_for PassesOwn.never rfl (pi_list (pe_call GR hr1 (by rfl) gR kR bR .nil pass0 (pa_cons (pv 4) pa_nil))) (pg_tup rfl (pgs_cons (pg_name (i := 5) N rfl (.inl rfl)) (pgs_cons (pg_name (i := 6) N rfl (.inl rfl)) pgs_nil)))
          (pss_one (ps_if (PW.pt (pw_and (pt_cmpR op_eq (pe_op op_sub (pe_callB call_len_str (by rfl) ml PySem.boot_len (pa_cons (pe_fld (pv 4) rfl) pa_nil)) (pe_callB call_len_str (by rfl) ml PySem.boot_len (pa_cons (pe_fld (pv 6) rfl) pa_nil))) (pv 2) (nomark _))
              (pw_and1 (pt_cmpR op_eq (pe_call GW hr1 (by rfl) gW kW bW .nil pass0 (pa_cons (pv 0) (pa_cons (pv 3) (pa_cons (pv 4) (pa_cons (pv 6) pa_nil))))) (pv 1) (nomark _)))))
            (pss_one (ps_ret pe_bl)) pss_nil)))))
      (pss_one (ps_ret pe_bl)))), ?_⟩
    refine ⟨_, rfl, S (flat t), rfl, by rw [S_len]; omega, _, rfl, S (flat lo), rfl, by rw [S_len]; omega, _, _, rfl, rfl, ?_⟩
    rw [S_len, S_len]
    refine ⟨_, rfl, _, _, rfl, rfl, _, rfl, ite2 (fun e => ?_) (fun e => ?_)⟩
    · have e := of_decide_eq_true e
      have : stepB t lo = false := stepB_no fun s hs z => by
        obtain ⟨t', e1, o1, z1⟩ := steps_ok ok s hs
        have f1 := flat_len t'
        rw [e1, z] at f1
        omega
      rw [← this]
      exact q H (.refl H)
    · refine ⟨_, rfl, t, rfl, ok, by omega, fun H1 p vs s1 np hp av => ⟨p, vs, rfl, .inl (.inl hp), ?_⟩⟩
      have lv := av.len
      rw [subs_len] at lv
      refine for_it (walk_enum (K := K) (a := p) (xs := vs)) (fun i σ H2 => ∃ y3 y4 y5 y6, σ = [some (vT t), some (vT lo), some (.int (((flat t).length : Int) - ((flat lo).length : Int))), y3, y4, y5, y6] ∧ Same H1 H2 ∧
          ∀ s ∈ stepsFrom (flat t) 0 ((subs t).take i), s.2.2 ≠ flat lo)
        ⟨_, _, _, _, rfl, .refl _, fun s hs => by cases hs⟩ (fun i σ H2 _ hP => ?_) (fun i x σ H2 H3 il hP y => ?_) (fun σ H2 hP => ?_)
      · obtain ⟨_, _, _, _, _, k, _⟩ := hP
        exact .inl (.inl (k _ _ hp))
      · obtain ⟨y3, y4, y5, y6, rfl, sm, dn⟩ := hP
        obtain ⟨T, x1, x2, rfl, nT, rfl, e1, e2⟩ := y
        cases e1
        obtain ⟨u, eu, pu⟩ := av.get i x2 e2
        have fit := sub_fit eu
        have il' : i < (flat t).length := by omega
        refine ⟨T, _, rfl, .inl (.inl upd_same), rfl, _, _, rfl, _, _, rfl, rfl, ?_⟩
        have sT := sameUpd (o := .tup [.int (i : Int), x2]) nT
        have pu3 : PartR (upd H2 T (.tup [.int (i : Int), x2])) C u x2 := (pu.same sm).same sT
        refine ⟨_, rfl, u, x2, rfl, pu3, fun H4 p2 us2 s4 np2 hp2 au2 => ⟨p2, rfl, ⟨us2, .inl (.inl hp2)⟩, ?_⟩⟩
        have lr := au2.len
        have lsa : (stepsAt (flat t) i u).length = us2.length := by rw [stepsAt, List.length_map, lr]
        have s14 : Same H1 H4 := (sm.trans sT).trans s4
        refine for_it (walk_list (K := K) (a := p2) (xs := us2)) (fun j σ H5 => ∃ y5 y6, σ = [some (vT t), some (vT lo), some (.int (((flat t).length : Int) - ((flat lo).length : Int))), some (.int (i : Int)), some x2, y5, y6] ∧ H5 = H4 ∧
            ∀ s ∈ (stepsAt (flat t) i u).take j, s.2.2 ≠ flat lo)
          ⟨_, _, rfl, rfl, fun s hs => by cases hs⟩ (fun j σ H5 _ hP => ?_) (fun j x σ H5 H6 jl hP y => ?_) (fun σ H5 hP => ?_)
        · obtain ⟨_, _, _, rfl, _⟩ := hP
          exact .inl (.inl hp2)
        · obtain ⟨y5, y6, rfl, rfl, dj⟩ := hP
          obtain ⟨rfl, hx⟩ := y
          obtain ⟨kv, ek, qq, pv, rfl, hq, pk⟩ := au2.get j x hx
          refine ⟨qq, _, rfl, .inl (.inl hq), rfl, _, _, rfl, _, _, rfl, rfl, ?_⟩
          have ku := pu3.same s4
          obtain ⟨b1, db1, _, _, rfl, hb1, _⟩ := id ku.ins
          obtain ⟨b2, db2, _, _, rfl, hb2, _⟩ := id pk.ins
          have a1 := (rules_ok kv (List.mem_of_getElem? ek)).2
          have a2 := subs_size t u (List.mem_of_getElem? eu)
          have fu := flat_len u
          have fk := flat_len kv.2
          have ej : (stepsAt (flat t) i u)[j]? = some (i, kv.1, (flat t).take i ++ (flat kv.2 ++ (flat t).drop (i + (flat u).length))) := by
            rw [stepsAt, List.getElem?_map, ek]
            rfl
          have hs : (i, kv.1, (flat t).take i ++ (flat kv.2 ++ (flat t).drop (i + (flat u).length))) ∈ steps t := by
            refine stepsFrom_in (u := u) (subs t) 0 i eu ?_
            rw [Nat.zero_add]
            exact List.mem_of_getElem? ej
          have ln : ((flat t).take i ++ (flat kv.2 ++ (flat t).drop (i + (flat u).length))).length = i + ((flat kv.2).length + ((flat t).length - (i + (flat u).length))) := by
            rw [List.length_append, List.length_append, List.length_take, List.length_drop, Nat.min_eq_left (by omega)]
          have next : (flat t).take i ++ (flat kv.2 ++ (flat t).drop (i + (flat u).length)) ≠ flat lo → ∀ s ∈ (stepsAt (flat t) i u).take (j + 1), s.2.2 ≠ flat lo := fun ne s hs => by
            rw [List.take_add_one, ej] at hs
            rcases List.mem_append.mp hs with hs | hs
            · exact dj s hs
            · have : s = (i, kv.1, (flat t).take i ++ (flat kv.2 ++ (flat t).drop (i + (flat u).length))) := by simpa using hs
              rw [this]
              exact ne
          refine ⟨_, rfl, b1, C, db1, _, _, rfl, hb1, W.c, W.no1, lk_t, S (flat u), rfl, by rw [S_len]; omega, ?_⟩
          refine ⟨_, rfl, b2, C, db2, _, _, rfl, hb2, W.c, W.no1, lk_t, S (flat kv.2), rfl, by rw [S_len]; omega, _, _, rfl, rfl, _, rfl, rfl, _, rfl, ?_⟩
          rw [S_len, S_len]
          refine ite2 (fun e => ?_) (fun e => ?_)
          · refine ⟨_, rfl, _, rfl, _, rfl, _, rfl, flat t, i, u, kv.2, _, _, rfl, ku, pk, by omega, by omega, fit, _, rfl, rfl, _, rfl, ?_⟩
            rw [eqS]
            refine ite2 (fun e3 => ?_) (fun e3 => ?_)
            · rw [← stepB_yes hs (of_decide_eq_true e3)]
              exact q _ (s1.trans s14)
            · exact ⟨_, _, rfl, rfl, next fun z => e3 (decide_eq_true z)⟩
          · refine iteF ⟨_, _, rfl, rfl, next fun z => e (decide_eq_true ?_)⟩
            rw [z] at ln
            exact congrArg V.int (by omega)
        · obtain ⟨y5, y6, rfl, rfl, dj⟩ := hP
          rw [← lsa, List.take_length] at dj
          refine ⟨_, _, _, _, rfl, s14, ?_⟩
          rw [List.take_add_one, eu]
          show ∀ s ∈ stepsFrom (flat t) 0 ((subs t).take i ++ [u]), _
          rw [stepsFrom_snoc, List.length_take, subs_len, Nat.min_eq_left (by omega), Nat.zero_add]
          intro s hs
          rcases List.mem_append.mp hs with hs | hs
          · exact dn s hs
          · exact dj s hs
      · obtain ⟨y3, y4, y5, y6, rfl, sm, dn⟩ := hP
        rw [List.take_of_length_le (by rw [subs_len, lv]; exact Nat.le_refl _)] at dn
        rw [← stepB_no (t := t) (u := lo) dn]
        exact q _ (s1.trans sm)
end
end K78

set_option maxHeartbeats 16000000
namespace K78
open PySem PySem.Spec PyProof.Rows L2 GG MT
abbrev sIsChain : Stmt := topS 21
abbrev sJoins : Stmt := topS 23
abbrev sLeads : Stmt := topS 24
abbrev sIsPaper : Stmt := topS 19
theorem scIsChain : FnScope ["value", "term"] ["value"] (defScope sIsChain) := ⟨rfl, rfl, rfl, by decide +kernel, rfl, by decide +kernel, by decide +kernel⟩
theorem scJoins : FnScope ["one", "other", "chain", "ahead", "after"] ["one", "other", "chain"] (defScope sJoins) := ⟨rfl, rfl, rfl, by decide +kernel, rfl, by decide +kernel, by decide +kernel⟩
theorem scLeads : FnScope ["term", "chain", "ahead", "after"] ["term", "chain"] (defScope sLeads) := ⟨rfl, rfl, rfl, by decide +kernel, rfl, by decide +kernel, by decide +kernel⟩
theorem scIsPaper : FnScope ["one", "other", "value", "chain"] ["one", "other", "value"] (defScope sIsPaper) := ⟨rfl, rfl, rfl, by decide +kernel, rfl, by decide +kernel, by decide +kernel⟩
/-- a tuple of right terms -/
structure Trms (K : PySem.W.Frag) (H : Hp) (c : Addr) (ts : List Trm) : Prop where
  seq : SqT K H c (ts.map vT)
  pos : 1 ≤ ts.length
  few : ts.length ≤ 400
  ok : ∀ t ∈ ts, Ok t ∧ size t ≤ 200
theorem Trms.same {K : PySem.W.Frag} {H H' : Hp} {c : Addr} {ts : List Trm} (h : Trms K H c ts) (s : Same H H') : Trms K H' c ts := ⟨sqT_same s h.seq, h.pos, h.few, h.ok⟩
/-- every two neighbours -/
def links (p : Trm → Trm → Bool) : List Trm → Bool
  | [] => true
  | [_] => true
  | t :: u :: ts => p t u && links p (u :: ts)
theorem links_iff (p : Trm → Trm → Bool) : ∀ ts : List Trm, links p ts = true ↔ ∀ i t u, ts[i]? = some t → ts[i + 1]? = some u → p t u = true
  | [] => ⟨fun _ i t u h => by simp at h, fun _ => rfl⟩
  | [a] => ⟨fun _ i t u _ h => by simp at h, fun _ => rfl⟩
  | a :: b :: ts => by
    rw [links, Bool.and_eq_true, links_iff p (b :: ts)]
    constructor
    · rintro ⟨h1, h2⟩ i t u ht hu
      cases i with
      | zero =>
        cases ht
        cases hu
        exact h1
      | succ i => exact h2 i t u ht hu
    · intro h
      exact ⟨h 0 a b rfl rfl, fun i t u ht hu => h (i + 1) t u ht hu⟩
theorem head_at {ts : List Trm} {t : Trm} (h : ts.head? = some t) : atI (ts.map vT) 0 = some (vT t) := by
  have : (ts.map vT)[0]? = some (vT t) := by
    cases ts with
    | nil => cases h
    | cons a ts =>
      cases h
      rfl
  exact atI_nat (j := 0) this
theorem last_at {ts : List Trm} {t : Trm} (h : ts.getLast? = some t) : atI (ts.map vT) (-1) = some (vT t) := by
  obtain ⟨us, rfl⟩ := List.getLast?_eq_some_iff.mp h
  rw [List.map_append]
  exact atI_end _ _
end K78

set_option maxHeartbeats 16000000
namespace K78
open PySem PySem.Spec PyProof.Rows L2 GG MT
def NoTup (K : PySem.W.Frag) (H : Hp) (v : V) : Prop := ∃ t, TyX K H v (.type t) ∧ kitB t "tuple" = some false
/-- a tuple of terms, of any length -/
structure TrT (K : PySem.W.Frag) (H : Hp) (c : Addr) (ts : List Trm) : Prop where
  seq : SqT K H c (ts.map vT)
  few : ts.length ≤ 1000
  ok : ∀ t ∈ ts, Ok t ∧ size t ≤ 200
theorem TrT.same {K : PySem.W.Frag} {H H' : Hp} {c : Addr} {ts : List Trm} (h : TrT K H c ts) (s : Same H H') : TrT K H' c ts := ⟨sqT_same s h.seq, h.few, h.ok⟩
def goodN (n : Nat) : Bool := decide (1 ≤ n) && decide (n ≤ 400)
theorem TrT.trms {K : PySem.W.Frag} {H : Hp} {c : Addr} {ts : List Trm} (h : TrT K H c ts) (g : goodN ts.length = true) : Trms K H c ts := by
  unfold goodN at g
  rw [Bool.and_eq_true] at g
  exact ⟨h.seq, of_decide_eq_true g.1, of_decide_eq_true g.2, h.ok⟩
def spIsChainX (K : PySem.W.Frag) : Sp := fun vs H Q _ => ∃ v, vs = [v] ∧ ((NoTup K H v ∧ Q (.bl false) H) ∨ ∃ c ts, v = .ref c ∧ TrT K H c ts ∧ ∀ H', Same H H' → Q (.bl (goodN ts.length)) H')
def joinB (t u : Trm) (ts : List Trm) : Bool := decide (ts.head? = some t) && (decide (ts.getLast? = some u) && links (fun a b => stepB a b || stepB b a) ts)
def leadB (t : Trm) (ts : List Trm) : Bool := decide (ts.head? = some t) && ((match ts.getLast? with | some u => decide (nf u = u) | none => false) && links stepB ts)
def spJoinsX (K : PySem.W.Frag) : Sp := fun vs H Q _ => ∃ c ts t u, vs = [vT t, vT u, .ref c] ∧ Trms K H c ts ∧ Ok t ∧ Ok u ∧ ∀ H', Same H H' → Q (.bl (joinB t u ts)) H'
def spLeadsX (K : PySem.W.Frag) : Sp := fun vs H Q _ => ∃ c ts t, vs = [vT t, .ref c] ∧ Trms K H c ts ∧ Ok t ∧ ∀ H', Same H H' → Q (.bl (leadB t ts)) H'
theorem vT_eq {a b : Trm} (oa : Ok a) (ob : Ok b) : decide (vT a = vT b) = decide (a = b) := by
  rw [eqS]
  exact decide_eq_decide.mpr ⟨fun h => flat_inj oa ob h, fun h => by rw [h]⟩
theorem links_no {p : Trm → Trm → Bool} {ts : List Trm} {i : Nat} {a b : Trm} (ha : ts[i]? = some a) (hb : ts[i + 1]? = some b) (e : p a b = false) : links p ts = false := by
  rcases h : links p ts with _ | _
  · rfl
  · rw [(links_iff p ts).mp h i a b ha hb] at e
    cases e
theorem head_some {ts : List Trm} (h : 1 ≤ ts.length) : ∃ a, ts.head? = some a ∧ a ∈ ts := by
  cases ts with
  | nil => cases h
  | cons a ts => exact ⟨a, rfl, by simp⟩
theorem last_some {ts : List Trm} (h : 1 ≤ ts.length) : ∃ a, ts.getLast? = some a ∧ a ∈ ts := by
  rcases e : ts.getLast? with _ | a
  · rw [List.getLast?_eq_none_iff] at e
    subst e
    cases h
  · exact ⟨a, rfl, List.mem_of_getLast? e⟩
section
variable {P : Program} {w : World} {K : PySem.W.Frag} {mg : Str → Option Value} {base : Heap}
theorem ok_ischainx {f fT : Addr} {fd fdT : FuncData} {tM : Tok} (F : Fun K "_is_chain" "_is_chain" sIsChain f fd) (bT : Binds K fdT ["value"] []) (GT : FnOk P w K mg base CX0 2 fT fdT ["value"] (spTerm K))
    (gT : mg "is_term" = some (.ref fT)) (kT : PySem.W.keepIn K (.ref fT) = true) (gM : mg "MAX_CHAIN" = some (.int 400 tM)) (ms : mg "isinstance" = none) (mt : mg "tuple" = none) (ml : mg "len" = none) (ma : mg "all" = none) :
    FnOk P w K mg base CX0 3 f fd ["value"] (spIsChainX K) := by
  refine F.ok scIsChain (fun vs H Q E h => ?_) (fun cdv A outer s H vs Q E hr h => ?_)
  · obtain ⟨v, rfl, _⟩ := h
    rfl
  · obtain ⟨v, rfl, h⟩ := h
    have N := scIsChain.nd
    have sl := sizeLine_eq
    refine ⟨_, pss_one (ps_ret (pe_and (pe_callB call_isi (by rfl) ms (by decide +kernel) (pa_cons (pv 0) (pa_cons (pe_bltn (v := .ty "tuple") (by rfl) mt (by decide +kernel) rfl) pa_nil)))
      (pe_and (pe_chain op_le op_le pe_int (pe_callB call_len_seq (by rfl) ml PySem.boot_len (pa_cons (pv 0) pa_nil)) (pe_glob (v := .int 400) (by rfl) gM ⟨_, rfl⟩))
      (pe_one (pe_callB (cr_all rfl) (by rfl) ma (by decide +kernel) (pa_cons
          (pe_lc (own := [("term", 1)]) (g := gName 1) (tt := tYes) rfl N (pi_tup (pv 0)) (blkOk_by (own := [("term", 1)]) (N := ["value", "term"]) (sc := defScope sIsChain) (by decide +kernel))
            (fun _ _ _ _ _ => pg_name (i := 1) N rfl (Or.inl rfl)) (fun _ _ _ _ _ => pts_nil)
            (fun _ _ _ _ _ => pe_call GT hr (by rfl) gT kT bT .nil pass0 (pa_cons (pv 1) pa_nil))) pa_nil)))))), ?_⟩
    rcases h with ⟨⟨t, ty, kb⟩, q⟩ | ⟨c, ts, rfl, tr, q⟩
    · exact ⟨_, rfl, _, _, _, _, false, rfl, .ty _, ty, kit_ty kb, false, rfl, iteF q⟩
    refine ⟨_, rfl, _, _, _, _, true, rfl, .ty _, sqT_ty tr.seq, kit_ty (by decide +kernel), true, rfl, iteT ?_⟩
    have few := tr.few
    refine ⟨_, rfl, c, _, rfl, .inr tr.seq, _, _, rfl, rfl, _, rfl, ?_⟩
    rw [List.length_map]
    unfold goodN at q
    refine ite2 (fun e => ?_) (fun e => ?_)
    · have e1 : 1 ≤ ts.length := by
        have := of_decide_eq_true e
        omega
      rw [decide_eq_true e1, Bool.true_and] at q
      by_cases e2 : ts.length ≤ 400
      · rw [decide_eq_true e2] at q
        refine ⟨_, _, rfl, rfl, true, by show V.bl (decide (((ts.length : Nat) : Int) ≤ 400)) = V.bl true; rw [decide_eq_true (by omega)], iteT ?_⟩
        refine ⟨_, rfl, c, rfl, ⟨_, tr.seq⟩, fun D nD => ?_⟩
        refine lc_tup (K := K) (a := c) (xs := ts.map vT) (fun k H1 => Same H H1 ∧ H1 D = some (.lst (List.replicate k (V.bl true)))) ⟨sameUpd nD, upd_same⟩ (fun k H1 _ hP => sqT_same hP.1 tr.seq) (fun k v H1 hv hP => ?_) (fun H1 hP => ?_)
        · obtain ⟨sm, hD⟩ := hP
          rw [List.getElem?_map] at hv
          obtain ⟨t, ht, rfl⟩ := Option.map_eq_some_iff.mp hv
          have kl := (List.getElem?_eq_some_iff.mp ht).1
          obtain ⟨ot, st⟩ := tr.ok t (List.mem_of_getElem? ht)
          have ft := flat_len t
          refine ⟨rfl, _, rfl, _, rfl, .inl ⟨flat t, rfl, by omega, _, hD, by rw [List.length_replicate]; omega, fun b o e => ?_, ?_⟩⟩
          · rw [upd_ne (ne_of_none e nD)]
            exact sm b o e
          · rw [upd_same, isT_term ot st, List.replicate_succ']
        · obtain ⟨sm, hD⟩ := hP
          refine ⟨D, List.replicate (ts.map vT).length true, rfl, .of ?_, ?_⟩
          · rw [hD, List.map_replicate]
          · rw [List.all_replicate]
            have : (if (ts.map vT).length = 0 then true else id true) = true := by split <;> rfl
            rw [this]
            exact q H1 sm
      · rw [decide_eq_false e2] at q
        refine ⟨_, _, rfl, rfl, false, by show V.bl (decide (((ts.length : Nat) : Int) ≤ 400)) = V.bl false; rw [decide_eq_false (by omega)], iteF (q H (.refl H))⟩
    · have e1 : ¬ 1 ≤ ts.length := fun z => e (decide_eq_true (by omega))
      rw [decide_eq_false e1, Bool.false_and] at q
      exact ⟨false, rfl, iteF (q H (.refl H))⟩
theorem ok_joinsx {f fS : Addr} {fd fdS : FuncData} (F : Fun K "_joins" "_joins" sJoins f fd) (bS : Binds K fdS ["high", "low"] []) (GS : FnOk P w K mg base CX0 5 fS fdS ["high", "low"] spIsStep)
    (gS : mg "_is_step" = some (.ref fS)) (kS : PySem.W.keepIn K (.ref fS) = true) (mz : mg "zip" = none) : FnOk P w K mg base CX0 6 f fd ["one", "other", "chain"] (spJoinsX K) := by
  refine F.ok scJoins (fun vs H Q E h => ?_) (fun cdv A outer s H vs Q E hr h => ?_)
  · obtain ⟨c, ts, t, u, rfl, _⟩ := h
    rfl
  · obtain ⟨c, ts, t, u, rfl, tr, ot, ou, q⟩ := h
    have N := scJoins.nd
    refine ⟨_, pss_cons (ps_if (PW.pt (pw_or (pt_cmpR op_ne (pe_ix (ixTupK (K := K) rfl) (pv 2) pe_int (fun _ _ => rfl)) (pv 0) (nomark _)) (pw_or1 (pt_cmpR op_ne (pe_ix (ixTupK (K := K) rfl) (pv 2) (pe_un un_neg pe_int) (fun _ _ => rfl)) (pv 1) (nomark _))))) (pss_one (ps_ret pe_bl)) pss_nil)
      (pss_cons (ps_for PassesOwn.never rfl (RZ.pi_zipA (by rfl) mz (pa_cons (pv 2) (pa_cons (pe_slice (slK (K := K) rfl) (pv 2) (po_some pe_int) po_none) pa_nil))) (pg_tup rfl (pgs_cons (pg_name (i := 3) N rfl (.inl rfl)) (pgs_cons (pg_name (i := 4) N rfl (.inl rfl)) pgs_nil)))
        (pss_one (ps_if (PW.pt (pw_and (pt_not (pt_val (pe_call GS hr (by rfl) gS kS bS .nil pass0 (pa_cons (pv 3) (pa_cons (pv 4) pa_nil))))) (pw_and1 (pt_not (pt_val (pe_call GS hr (by rfl) gS kS bS .nil pass0 (pa_cons (pv 4) (pa_cons (pv 3) pa_nil))))))))
          (pss_one (ps_ret pe_bl)) pss_nil)))
      (pss_one (ps_ret pe_bl))), ?_⟩
    obtain ⟨x, hd, mx⟩ := head_some tr.pos
    obtain ⟨y, la, my⟩ := last_some tr.pos
    obtain ⟨ox, _⟩ := tr.ok x mx
    obtain ⟨oy, _⟩ := tr.ok y my
    unfold joinB at q
    rw [hd, la] at q
    refine ⟨_, rfl, c, _, 0, _, rfl, rfl, tr.seq, head_at hd, _, rfl, rfl, _, rfl, ?_⟩
    rw [vT_eq ox ot]
    by_cases ex : x = t
    · subst ex
      rw [decide_eq_true rfl, Bool.true_and] at q
      rw [decide_eq_true rfl]
      refine iteF ⟨_, rfl, 1, rfl, c, _, -1, _, rfl, rfl, tr.seq, last_at la, _, rfl, rfl, _, rfl, ?_⟩
      rw [vT_eq oy ou]
      by_cases ey : y = u
      · subst ey
        rw [decide_eq_true rfl, Bool.true_and] at q
        rw [decide_eq_true rfl]
        refine iteF ⟨_, rfl, _, rfl, 1, rfl, c, _, rfl, tr.seq, fun r H1 s1 sq1 => ?_⟩
        rw [cutV_tail] at sq1
        have tr1 := tr.same s1
        refine ⟨c, r, _, _, rfl, .inr ⟨tr1.seq, sq1, ?_⟩⟩
        refine for_it (walk_zipT (K := K) (a := c) (b := r) (xs := ts.map vT) (ys := (ts.map vT).drop 1) (n := ts.length - 1) (by rw [List.length_drop, List.length_map]; omega))
          (fun i σ H2 => ∃ y3 y4, σ = [some (vT x), some (vT y), some (.ref c), y3, y4] ∧ Same H1 H2 ∧ ∀ j a b, j < i → ts[j]? = some a → ts[j + 1]? = some b → (stepB a b || stepB b a) = true)
          ⟨_, _, rfl, .refl _, fun j a b hj => absurd hj (Nat.not_lt_zero _)⟩ (fun i σ H2 _ hP => ?_) (fun i x0 σ H2 H3 il hP y0 => ?_) (fun σ H2 hP => ?_)
        · obtain ⟨_, _, _, s2, _⟩ := hP
          exact ⟨sqT_same s2 tr1.seq, sqT_same s2 sq1⟩
        · obtain ⟨y3, y4, rfl, s2, dn⟩ := hP
          obtain ⟨T, x1, x2, rfl, nT, rfl, e1, e2⟩ := y0
          have e1 : (ts.map vT)[i]? = some x1 := e1
          have e2 : ((ts.map vT).drop 1)[i]? = some x2 := e2
          rw [List.getElem?_map] at e1
          rw [List.getElem?_drop, List.getElem?_map] at e2
          obtain ⟨a, ha, rfl⟩ := Option.map_eq_some_iff.mp e1
          obtain ⟨b, hb, rfl⟩ := Option.map_eq_some_iff.mp e2
          rw [Nat.add_comm] at hb
          obtain ⟨oa, sa⟩ := tr.ok a (List.mem_of_getElem? ha)
          obtain ⟨ob, sb⟩ := tr.ok b (List.mem_of_getElem? hb)
          have next : (stepB a b || stepB b a) = true → ∀ j a b, j < i + 1 → ts[j]? = some a → ts[j + 1]? = some b → (stepB a b || stepB b a) = true := fun g j a' b' hj ha' hb' => by
            by_cases e : j = i
            · subst e
              rw [ha] at ha'
              rw [hb] at hb'
              cases ha'
              cases hb'
              exact g
            · exact dn j a' b' (by omega) ha' hb'
          refine ⟨T, _, rfl, .inl (.inl upd_same), rfl, _, _, rfl, _, _, rfl, rfl, ?_⟩
          have sT := sameUpd (o := .tup [vT a, vT b]) nT
          refine ⟨_, rfl, _, rfl, a, b, rfl, oa, ob, sa, sb, fun H4 s4 => ⟨_, rfl, ?_⟩⟩
          rcases hab : stepB a b with _ | _
          · refine iteT ⟨_, rfl, _, rfl, b, a, rfl, ob, oa, sb, sa, fun H5 s5 => ⟨_, rfl, ?_⟩⟩
            rcases hba : stepB b a with _ | _
            · refine iteT ?_
              rw [links_no ha hb (by rw [hab, hba]; rfl)] at q
              exact q _ (s1.trans (((s2.trans sT).trans s4).trans s5))
            · exact iteF ⟨_, _, rfl, ((s2.trans sT).trans s4).trans s5, next (by rw [hab, hba]; rfl)⟩
          · exact iteF (iteF ⟨_, _, rfl, (s2.trans sT).trans s4, next (by rw [hab]; rfl)⟩)
        · obtain ⟨y3, y4, rfl, s2, dn⟩ := hP
          rw [(links_iff _ ts).mpr fun i a b ha hb => dn i a b (by
            have := (List.getElem?_eq_some_iff.mp hb).1
            omega) ha hb] at q
          exact q H2 (s1.trans s2)
      · have : ¬ (some y = some u) := fun z => ey (Option.some.inj z)
        rw [decide_eq_false this, Bool.false_and] at q
        rw [decide_eq_false ey]
        exact iteT (q H (.refl H))
    · have : ¬ (some x = some t) := fun z => ex (Option.some.inj z)
      rw [decide_eq_false this, Bool.false_and] at q
      rw [decide_eq_false ex]
      exact iteT (iteT (q H (.refl H)))
theorem ok_leadsx {f fS fF : Addr} {fd fdS fdF : FuncData} (F : Fun K "_leads_down" "_leads_down" sLeads f fd) (bS : Binds K fdS ["high", "low"] []) (bF : Binds K fdF ["value"] []) (GS : FnOk P w K mg base CX0 5 fS fdS ["high", "low"] spIsStep)
    (GF : FnOk P w K mg base CX0 6 fF fdF ["value"] (spIsForm K)) (gS : mg "_is_step" = some (.ref fS)) (gF : mg "is_form" = some (.ref fF)) (kS : PySem.W.keepIn K (.ref fS) = true) (kF : PySem.W.keepIn K (.ref fF) = true)
    (mz : mg "zip" = none) : FnOk P w K mg base CX0 7 f fd ["term", "chain"] (spLeadsX K) := by
  refine F.ok scLeads (fun vs H Q E h => ?_) (fun cdv A outer s H vs Q E hr h => ?_)
  · obtain ⟨c, ts, t, rfl, _⟩ := h
    rfl
  · obtain ⟨c, ts, t, rfl, tr, ot, q⟩ := h
    have N := scLeads.nd
    have hr5 := hr.mono (show 5 ≤ 6 by decide)
    refine ⟨_, pss_cons (ps_if (PW.pt (pw_or (pt_cmpR op_ne (pe_ix (ixTupK (K := K) rfl) (pv 1) pe_int (fun _ _ => rfl)) (pv 0) (nomark _)) (pw_or1 (pt_not (pt_val (pe_call GF hr (by rfl) gF kF bF .nil pass0 (pa_cons (pe_ix (ixTupK (K := K) rfl) (pv 1) (pe_un un_neg pe_int) (fun _ _ => rfl)) pa_nil))))))) (pss_one (ps_ret pe_bl)) pss_nil)
      (pss_cons (ps_for PassesOwn.never rfl (RZ.pi_zipA (by rfl) mz (pa_cons (pv 1) (pa_cons (pe_slice (slK (K := K) rfl) (pv 1) (po_some pe_int) po_none) pa_nil))) (pg_tup rfl (pgs_cons (pg_name (i := 2) N rfl (.inl rfl)) (pgs_cons (pg_name (i := 3) N rfl (.inl rfl)) pgs_nil)))
        (pss_one (ps_if (pt_not (pt_val (pe_call GS hr5 (by rfl) gS kS bS .nil pass0 (pa_cons (pv 2) (pa_cons (pv 3) pa_nil)))))
          (pss_one (ps_ret pe_bl)) pss_nil)))
      (pss_one (ps_ret pe_bl))), ?_⟩
    obtain ⟨x, hd, mx⟩ := head_some tr.pos
    obtain ⟨u, la, ml⟩ := last_some tr.pos
    obtain ⟨ox, _⟩ := tr.ok x mx
    obtain ⟨ou, su⟩ := tr.ok u ml
    have fu := flat_len u
    unfold leadB at q
    rw [hd, la] at q
    refine ⟨_, rfl, c, _, 0, _, rfl, rfl, tr.seq, head_at hd, _, rfl, rfl, _, rfl, ?_⟩
    rw [vT_eq ox ot]
    by_cases ex : x = t
    · subst ex
      rw [decide_eq_true rfl, Bool.true_and] at q
      rw [decide_eq_true rfl]
      refine iteF ⟨_, rfl, 1, rfl, c, _, -1, _, rfl, rfl, tr.seq, last_at la, _, rfl, .inl ⟨flat u, _, rfl, by have := sizeLine_eq; omega, .inl ⟨u, rfl, ou, su, rfl⟩, fun H0 s0 => ⟨_, rfl, ?_⟩⟩⟩
      by_cases nu : nf u = u
      · have q : ∀ H', Same H H' → Q (.bl (links stepB ts)) H' := fun H' s => by
          have := q H' s
          rw [show (match (some u : Option Trm) with | some u => decide (nf u = u) | none => false) = true from decide_eq_true nu, Bool.true_and] at this
          exact this
        rw [decide_eq_true nu]
        refine iteF ?_
        refine ⟨_, rfl, _, rfl, 1, rfl, c, _, rfl, (tr.same s0).seq, fun r H1 s01 sq1 => ?_⟩
        rw [cutV_tail] at sq1
        have s1 := s0.trans s01
        have tr1 := tr.same s1
        refine ⟨c, r, _, _, rfl, .inr ⟨tr1.seq, sq1, ?_⟩⟩
        refine for_it (walk_zipT (K := K) (a := c) (b := r) (xs := ts.map vT) (ys := (ts.map vT).drop 1) (n := ts.length - 1) (by rw [List.length_drop, List.length_map]; omega))
          (fun i σ H2 => ∃ y3 y4, σ = [some (vT x), some (.ref c), y3, y4] ∧ Same H1 H2 ∧ ∀ j a b, j < i → ts[j]? = some a → ts[j + 1]? = some b → stepB a b = true)
          ⟨_, _, rfl, .refl _, fun j a b hj => absurd hj (Nat.not_lt_zero _)⟩ (fun i σ H2 _ hP => ?_) (fun i x0 σ H2 H3 il hP y0 => ?_) (fun σ H2 hP => ?_)
        · obtain ⟨_, _, _, s2, _⟩ := hP
          exact ⟨sqT_same s2 tr1.seq, sqT_same s2 sq1⟩
        · obtain ⟨y3, y4, rfl, s2, dn⟩ := hP
          obtain ⟨T, x1, x2, rfl, nT, rfl, e1, e2⟩ := y0
          have e1 : (ts.map vT)[i]? = some x1 := e1
          have e2 : ((ts.map vT).drop 1)[i]? = some x2 := e2
          rw [List.getElem?_map] at e1
          rw [List.getElem?_drop, List.getElem?_map] at e2
          obtain ⟨a, ha, rfl⟩ := Option.map_eq_some_iff.mp e1
          obtain ⟨b, hb, rfl⟩ := Option.map_eq_some_iff.mp e2
          rw [Nat.add_comm] at hb
          obtain ⟨oa, sa⟩ := tr.ok a (List.mem_of_getElem? ha)
          obtain ⟨ob, sb⟩ := tr.ok b (List.mem_of_getElem? hb)
          have next : stepB a b = true → ∀ j a b, j < i + 1 → ts[j]? = some a → ts[j + 1]? = some b → stepB a b = true := fun g j a' b' hj ha' hb' => by
            by_cases e : j = i
            · subst e
              rw [ha] at ha'
              rw [hb] at hb'
              cases ha'
              cases hb'
              exact g
            · exact dn j a' b' (by omega) ha' hb'
          refine ⟨T, _, rfl, .inl (.inl upd_same), rfl, _, _, rfl, _, _, rfl, rfl, ?_⟩
          have sT := sameUpd (o := .tup [vT a, vT b]) nT
          refine ⟨_, rfl, _, rfl, a, b, rfl, oa, ob, sa, sb, fun H4 s4 => ⟨_, rfl, ?_⟩⟩
          rcases hab : stepB a b with _ | _
          · refine iteT ?_
            rw [links_no ha hb hab] at q
            exact q _ (s1.trans ((s2.trans sT).trans s4))
          · exact iteF ⟨_, _, rfl, (s2.trans sT).trans s4, next hab⟩
        · obtain ⟨y3, y4, rfl, s2, dn⟩ := hP
          rw [(links_iff _ ts).mpr fun i a b ha hb => dn i a b (by
            have := (List.getElem?_eq_some_iff.mp hb).1
            omega) ha hb] at q
          exact q H2 (s1.trans s2)
      · have q : ∀ H', Same H H' → Q (.bl false) H' := fun H' s => by
          have := q H' s
          rw [show (match (some u : Option Trm) with | some u => decide (nf u = u) | none => false) = false from decide_eq_false nu, Bool.false_and] at this
          exact this
        rw [decide_eq_false nu]
        exact iteT (q H0 s0)
    · have : ¬ (some x = some t) := fun z => ex (Option.some.inj z)
      rw [decide_eq_false this, Bool.false_and] at q
      rw [decide_eq_false ex]
      exact iteT (iteT (q H (.refl H)))
end
end K78

set_option maxHeartbeats 16000000
namespace K78
open PySem PySem.Spec PyProof.Rows L2 GG MT
abbrev sDown : Stmt := topS 34
abbrev sLLeads : Stmt := topS 36
theorem scDown : FnScope ["dice", "term", "found", "turn", "steps"] ["dice", "term"] (defScope sDown) := ⟨rfl, rfl, rfl, by decide +kernel, rfl, by decide +kernel, by decide +kernel⟩
theorem scLLeads : FnScope ["one", "other", "step"] ["one", "other"] (defScope sLLeads) := ⟨rfl, rfl, rfl, by decide +kernel, rfl, by decide +kernel, by decide +kernel⟩
def spDown : Sp := fun vs H Q _ => ∃ (l : Addr) (t : Trm), vs = [.ref l, vT t] ∧ Dice H l ∧ Ok t ∧ size t ≤ 160 ∧
  ∀ H' p ts, But l H H' → Dice H' l → H p = none → H' p = some (.lst (ts.map vT)) → ChainOf t ts → Q (.ref p) H'
def spLLeads : Sp := fun vs H Q _ => ∃ t u : Trm, vs = [vT t, vT u] ∧ Ok t ∧ Ok u ∧ size t ≤ 200 ∧ ∀ H', Same H H' → Q (.bl (stepB t u)) H'
/-- ahead of each turn -/
structure DnS (H : Hp) (l F : Addr) (t : Trm) (i : Nat) (ts : List Trm) (cur : Trm) (H2 : Hp) : Prop where
  but : But l H H2
  dice : Dice H2 l
  at_ : H2 F = some (.lst ((ts ++ [cur]).map vT))
  chn : Chn (ts ++ [cur])
  head : (ts ++ [cur]).head? = some t
  ok : ∀ u ∈ ts ++ [cur], Ok u ∧ size u ≤ size t
  form : nf cur = nf t
  len : ts.length + size cur ≤ size t
  at2 : ts.length = i
theorem eqv_nil (ss : List (Nat × Nat × List Nat)) : PyData.eqv (.list (ss.map stepD)) (.list []) = decide (ss = []) := by
  cases ss with
  | nil => rfl
  | cons a as => rfl
section
variable {P : Program} {w : World} {K : PySem.W.Frag} {mg : Str → Option Value} {base : Heap}
theorem ok_down {f fS fK : Addr} {fd fdS fdK : FuncData} (F : Fun K "_law_down" "_law_down" sDown f fd) (bS : Binds K fdS ["term"] []) (bK : Binds K fdK ["dice", "items"] [])
    (GS : FnOk P w K mg base CX0 4 fS fdS ["term"] spSteps0) (GK : FnOk P w K mg base CX0 2 fK fdK ["dice", "items"] (spPick K)) (gS : mg "_law_steps" = some (.ref fS)) (gK : mg "_law_pick" = some (.ref fK))
    (kS : PySem.W.keepIn K (.ref fS) = true) (kK : PySem.W.keepIn K (.ref fK) = true) (mr : mg "range" = none) (ml : mg "len" = none) : FnOk P w K mg base CX0 5 f fd ["dice", "term"] spDown := by
  refine F.ok scDown (fun vs H Q E h => ?_) (fun cdv A outer s H vs Q E hr h => ?_)
  · obtain ⟨l, t, rfl, _⟩ := h
    rfl
  · obtain ⟨l, t, rfl, hd, ok, sz, q⟩ := h
    have N := scDown.nd
    have fl := flat_len t
    have sl := sizeLine_eq
    have un := hr.units
    refine ⟨_, pss_cons (ps_set (i := 2) N rfl (.inl rfl) (pe_lst (pa_cons (pv 1) pa_nil)))
      (C8.pss_cut (ps_for PassesOwn.never rfl (pi_range1 (by rfl) mr (pa_cons (pe_callB call_len_str (by rfl) ml PySem.boot_len (pa_cons (pv 1) pa_nil)) pa_nil)) (pg_name (i := 3) N rfl (.inl rfl))
        (pss_cons (ps_set (i := 4) N rfl (.inl rfl) (pe_call GS hr (by rfl) gS kS bS .nil pass0 (pa_cons (pe_ix ix_list (pv 2) (pe_un un_neg pe_int) (fun _ _ => rfl)) pa_nil)))
        (pss_cons (ps_if (pt_cmpR (op_eqD un) (pv 4) (pe_lst pa_nil) (nomark _)) (pss_one ps_break) pss_nil)
        (pss_one (ps_expr (pe_bm PySem.F.plainAttrs_list PySem.F.slot_list_append PySem.F.type_list_append mt_append (pv 2) (pa_cons
          (pe_ix (ixTupK (K := K) rfl) (pe_call GK (hr.mono (by decide)) (by rfl) gK kK bK .nil pass0 (pa_cons (pv 0) (pa_cons (pv 4) pa_nil))) pe_int (fun _ _ => rfl)) pa_nil)))))))
      (pss_one (ps_ret (pv 2)))), ?_⟩
    refine ⟨_, rfl, (by show 1 ≤ sizeLine; decide), fun F0 nF => ?_⟩
    have s0 := sameUpd (o := .lst [vT t]) nF
    have lF : l ≠ F0 := by
      obtain ⟨_, _, _, e, _⟩ := hd
      exact ne_of_none e nF
    refine ⟨fun σ' H' => (∃ ts cur, DnS H l F0 t ts.length ts cur H' ∧ steps cur = []) ∧ σ'[2]? = some (some (.ref F0)), ?_, ?_⟩
    · refine ⟨_, rfl, S (flat t), rfl, by rw [S_len]; omega, _, rfl, ?_⟩
      rw [S_len]
      refine ⟨by omega, by omega, ?_⟩
      rw [Int.toNat_natCast]
      refine for_it (walk_range (lo := 0) (n := (flat t).length)) (fun i σ H2 => ∃ y3 y4 ts cur, σ = [some (.ref l), some (vT t), some (.ref F0), y3, y4] ∧ DnS H l F0 t i ts cur H2)
        ⟨_, _, [], t, rfl, .ofSame s0, hd.same s0, upd_same, trivial, rfl, fun u hu => by
          have : u = t := by simpa using hu
          rw [this]
          exact ⟨ok, Nat.le_refl _⟩, rfl, by simp, rfl⟩ (fun _ _ _ _ _ => trivial) (fun i x σ H2 H3 il hP y => ?_) (fun σ H2 hP => ?_)
      · obtain ⟨y3, y4, ts, cur, rfl, D⟩ := hP
        obtain ⟨rfl, rfl⟩ := y
        obtain ⟨oc, sc⟩ := D.ok cur (by simp)
        have at1 : atI ((ts ++ [cur]).map vT) (-1) = some (vT cur) := by
          rw [List.map_append]
          exact atI_end _ _
        refine ⟨_, rfl, 1, rfl, F0, _, -1, _, rfl, rfl, .inl (.inl (D.at_)), at1, cur, rfl, oc, by omega, fun H4 p us s4 np hp au => ?_⟩
        have so := steps_allok oc (show size cur ≤ 200 by omega)
        have fc := flat_len cur
        have ln : (steps cur).length ≤ 1000 := by
          have := stepsFrom_len (flat cur) (subs cur) 0
          rw [subs_len] at this
          unfold steps
          omega
        refine ⟨_, rfl, (by show 0 ≤ sizeLine; decide), fun p4 n4 => ?_⟩
        have s5 := s4.trans (sameUpd (o := .lst []) n4)
        have s45 := sameUpd (o := .lst []) n4
        refine ⟨_, _, .lst (.inl (.inl (s45 _ _ hp))) (steps_dp (au.imp fun _ _ _ g => g.same s45)), .lst (.inl (.inl upd_same)) .nil, steps_shaped so, rfl, _, rfl, ?_⟩
        rw [eqv_nil]
        have D5 : DnS H l F0 t i ts cur (upd H4 p4 (.lst [])) := ⟨D.but.same s5, D.dice.same s5, s5 _ _ D.at_, D.chn, D.head, D.ok, D.form, D.len, D.at2⟩
        have hp5 := s45 _ _ hp
        have au5 : All2 (StepR (upd H4 p4 (.lst []))) (steps cur) us := au.imp fun _ _ _ g => g.same s45
        have np3 : H3 p = none := np
        generalize upd H4 p4 (.lst []) = H5 at D5 hp5 au5 ⊢
        refine ite2 (fun e => ?_) (fun e => ?_)
        · exact ⟨⟨ts, cur, by rw [D.at2]; exact D5, of_decide_eq_true e⟩, rfl⟩
        · have lu := au5.len
          have pl : p ≠ l := fun z => by
            obtain ⟨_, _, _, e1, _⟩ := D.dice
            rw [z, e1] at np3
            cases np3
          have pF : p ≠ F0 := fun z => by
            rw [z, D.at_] at np3
            cases np3
          have pos : 0 < us.length := by
            rcases Nat.eq_zero_or_pos us.length with z | z
            · exact absurd (decide_eq_true (List.eq_nil_of_length_eq_zero (by omega))) e
            · exact z
          refine ⟨_, rfl, .inl ⟨rfl, _, .inl (.inl D5.at_)⟩, ?_⟩
          refine ⟨_, rfl, _, rfl, l, p, us, rfl, D5.dice, pl, .inl (.inl (.inl hp5)), pos, by omega, fun H6 j v b6 d6 hv => ?_⟩
          obtain ⟨st, es, qq, rfl, hq⟩ := au5.get j v hv
          obtain ⟨t', e1, o1, z1, n1⟩ := MT.steps_down oc st (List.mem_of_getElem? es)
          have ql : qq ≠ l := fun z => by
            obtain ⟨_, _, _, e1, _⟩ := D5.dice
            rw [z, e1] at hq
            cases hq
          have hq6 := b6 _ _ ql hq
          have hF6 := b6 _ _ (Ne.symm lF) D5.at_
          refine ⟨qq, _, 2, _, rfl, rfl, .inl (.inl hq6), rfl, F0, _, _, rfl, rfl, hF6, ?_, ?_⟩
          · have := D.len
            rw [List.length_map, List.length_append]
            simp only [List.length_cons, List.length_nil]
            omega
          have dn : Down cur t' := ⟨st, List.mem_of_getElem? es, e1.symm⟩
          have lF' : l ≠ F0 := lF
          obtain ⟨da, db, dc, de, dp⟩ := d6
          refine ⟨_, _, ts ++ [cur], t', rfl, fun b o nb eb => ?_, ⟨da, db, dc, by rw [upd_ne lF']; exact de, dp⟩, ?_, ?_, ?_, fun u hu => ?_, n1.trans D.form, ?_, ?_⟩
          · rw [upd_ne (ne_of_none eb nF)]
            exact b6 _ _ nb (D5.but _ _ nb eb)
          · rw [upd_same, ← e1]
            simp
          · have := chn_snoc D.chn dn
            simpa using this
          · have := D.head
            cases ts with
            | nil => exact this
            | cons a ts => exact this
          · rcases List.mem_append.mp hu with hu | hu
            · exact D.ok u hu
            · have : u = t' := by simpa using hu
              rw [this]
              exact ⟨o1, by omega⟩
          · have := D.len
            rw [List.length_append]
            simp only [List.length_cons, List.length_nil]
            omega
          · rw [List.length_append, D.at2]
            rfl
      · obtain ⟨y3, y4, ts, cur, rfl, D⟩ := hP
        exfalso
        have := D.len
        have := D.at2
        have := size_pos cur
        have := size_pos t
        omega
    · rintro σ' H' ⟨⟨ts, cur, D, e⟩, hσ⟩
      refine ⟨_, hσ, q H' F0 (ts ++ [cur]) D.but D.dice nF D.at_ ⟨D.head, ⟨ts, cur, rfl, e, D.form⟩, D.chn, D.ok, ?_⟩⟩
      have := D.len
      have := size_pos cur
      rw [List.length_append]
      simp only [List.length_cons, List.length_nil]
      omega
theorem inV_txt (u : Trm) (ss : List (Nat × Nat × List Nat)) : inV (vT u) (ss.map fun s => V.str (S s.2.2)) = ss.any fun s => decide (s.2.2 = flat u) := by
  unfold inV
  rw [List.any_map]
  congr 1
  funext s
  show (S s.2.2 == S (flat u)) = _
  by_cases e : s.2.2 = flat u
  · rw [e]
    simp
  · rw [decide_eq_false e]
    rw [beq_eq_false_iff_ne]
    exact fun z => e (S_inj z)
theorem ok_lleads {f fS : Addr} {fd fdS : FuncData} (F : Fun K "_law_leads" "_law_leads" sLLeads f fd) (bS : Binds K fdS ["term"] [])
    (GS : FnOk P w K mg base CX0 4 fS fdS ["term"] spSteps0) (gS : mg "_law_steps" = some (.ref fS)) (kS : PySem.W.keepIn K (.ref fS) = true) : FnOk P w K mg base CX0 5 f fd ["one", "other"] spLLeads := by
  refine F.ok scLLeads (fun vs H Q E h => ?_) (fun cdv A outer s H vs Q E hr h => ?_)
  · obtain ⟨t, u, rfl, _⟩ := h
    rfl
  · obtain ⟨t, u, rfl, ot, ou, st, q⟩ := h
    have N := scLLeads.nd
    have sl := sizeLine_eq
    refine ⟨_, pss_one (ps_ret (pe_cmpR (inSeqK (K := K) rfl) (pv 1) (pe_lc (own := [("step", 2)]) (g := gName 2) (tt := tYes) rfl N (pi_list (pe_call GS hr (by rfl) gS kS bS .nil pass0 (pa_cons (pv 0) pa_nil))) (blkOk_by (own := [("step", 2)]) (N := ["one", "other", "step"]) (sc := defScope sLLeads) (by decide +kernel))
          (fun _ _ _ _ _ => pg_name (i := 2) N rfl (Or.inl rfl)) (fun _ _ _ _ _ => pts_nil)
          (fun _ _ _ _ _ => pe_ix (ixTupK (K := K) rfl) (pv 2) pe_int (fun _ _ => rfl))) (by rfl))), ?_⟩
    refine ⟨_, rfl, _, rfl, t, rfl, ot, st, fun H1 p us s1 np hp au => ⟨p, rfl, ⟨us, .inl (.inl hp)⟩, fun D nD => ?_⟩⟩
    have la := au.len
    have ls := stepsFrom_len (flat t) (subs t) 0
    rw [subs_len] at ls
    have ls' : (steps t).length ≤ 3 * (flat t).length := ls
    have fl := flat_len t
    refine lc_it (walk_list (K := K) (a := p) (xs := us)) (fun i H2 => Same H1 H2 ∧ H2 D = some (.lst (((steps t).take i).map fun s => V.str (S s.2.2)))) ⟨sameUpd nD, upd_same⟩ (fun i H2 _ hP => .inl (.inl (hP.1 _ _ hp))) (fun i x H2 H3 il hP y => ?_) (fun H2 hP => ?_)
    · obtain ⟨sm, hD⟩ := hP
      obtain ⟨rfl, hx⟩ := y
      obtain ⟨s0, es, qq, rfl, hq⟩ := au.get i x hx
      refine ⟨rfl, _, rfl, qq, _, 2, _, rfl, rfl, .inl (.inl (sm _ _ hq)), rfl, _, hD, by rw [List.length_map, List.length_take]; omega, fun b o e => ?_, ?_⟩
      · rw [upd_ne (ne_of_none e nD)]
        exact sm b o e
      · rw [upd_same, List.take_add_one, es, List.map_append]
        rfl
    · obtain ⟨sm, hD⟩ := hP
      rw [← la, List.take_length] at hD
      refine ⟨D, _, rfl, .inl (.inl (.inl hD)), rfl, ?_, ?_⟩
      · rw [List.all_map]
        exact List.all_eq_true.mpr fun _ _ => rfl
      · show Q (.bl (inV (vT u) _)) H2
        rw [inV_txt]
        exact q H2 (s1.trans sm)
end
end K78

set_option maxHeartbeats 16000000
namespace K78
open PySem PySem.Spec PyProof.Rows L2 GG MT
/-- an element of a paper: a tuple of terms, or no tuple -/
inductive El (K : PySem.W.Frag) (H : Hp) : V → Option (List Trm) → Prop
  | no {v : V} : NoTup K H v → El K H v none
  | yes {c : Addr} {ts : List Trm} : TrT K H c ts → El K H (.ref c) (some ts)
theorem NoTup.same {K : PySem.W.Frag} {H H' : Hp} {v : V} (h : NoTup K H v) (s : Same H H') : NoTup K H' v := by
  obtain ⟨t, ty, kb⟩ := h
  exact ⟨t, tyX_same s ty, kb⟩
theorem El.same {K : PySem.W.Frag} {H H' : Hp} {v : V} {o : Option (List Trm)} (h : El K H v o) (s : Same H H') : El K H' v o := by
  cases h with
  | no h => exact .no (h.same s)
  | yes h => exact .yes (h.same s)
def goodE : Option (List Trm) → Bool
  | some ts => goodN ts.length
  | none => false
def isKey (k : V) (x : Str) : Bool := decide (k = .str x)
def paperB (t u : Trm) (k : V) : List (Option (List Trm)) → Bool
  | [some ts] => goodN ts.length && (isKey k "equal" && joinB t u ts)
  | [some ts, some us] => goodN ts.length && (goodN us.length && (isKey k "unequal" && (leadB t ts && (leadB u us && !decide (ts.getLast? = us.getLast?)))))
  | _ => false
def KeyV (k : V) : Prop := (∃ x : Str, k = .str x) ∨ ∃ i : Int, k = .int i
def spIsPaperX (K : PySem.W.Frag) : Sp := fun vs H Q _ => ∃ v t u, vs = [vT t, vT u, v] ∧ Ok t ∧ Ok u ∧ size t ≤ 200 ∧ size u ≤ 200 ∧
  ((NoTup K H v ∧ Q (.bl false) H) ∨ (∃ p ws, v = .ref p ∧ SqT K H p ws ∧ ws.length < 2 ∧ Q (.bl false) H) ∨
   ∃ p k cs es, v = .ref p ∧ SqT K H p (k :: cs) ∧ 1 ≤ cs.length ∧ cs.length ≤ 2 ∧ KeyV k ∧ All2 (fun o v => El K H v o) es cs ∧ ∀ H', Same H H' → Q (.bl (paperB t u k es)) H')
theorem paperB_bad {t u : Trm} {k : V} {es : List (Option (List Trm))} (h : (es.map goodE).all id = false) : paperB t u k es = false := by
  match es with
  | [] => rfl
  | [none] => rfl
  | [some ts] =>
    have h : (goodN ts.length && true) = false := h
    rw [Bool.and_true] at h
    show (goodN ts.length && _) = false
    rw [h, Bool.false_and]
  | [none, _] => rfl
  | [some ts, none] => rfl
  | [some ts, some us] =>
    have h : (goodN ts.length && (goodN us.length && true)) = false := h
    rw [Bool.and_true] at h
    show (goodN ts.length && (goodN us.length && _)) = false
    rw [← Bool.and_assoc, h, Bool.false_and]
  | none :: _ :: _ :: _ => rfl
  | some _ :: none :: _ :: _ => rfl
  | some _ :: some _ :: _ :: _ => rfl
theorem El.some {K : PySem.W.Frag} {H : Hp} {v : V} {o : Option (List Trm)} (h : El K H v o) (g : goodE o = true) : ∃ c ts, v = .ref c ∧ o = Option.some ts ∧ TrT K H c ts ∧ goodN ts.length = true := by
  cases h with
  | no _ => cases g
  | yes tr => exact ⟨_, _, rfl, rfl, tr, g⟩
theorem last_ne {a b : List Trm} {x y : Trm} (ha : a.getLast? = some x) (hb : b.getLast? = some y) (ox : Ok x) (oy : Ok y) : decide (vT x = vT y) = decide (a.getLast? = b.getLast?) := by
  rw [vT_eq ox oy, ha, hb]
  exact decide_eq_decide.mpr ⟨fun h => by rw [h], fun h => Option.some.inj h⟩
theorem all2_12 {α : Type} {R : α → V → Prop} : ∀ {es : List α} {cs : List V}, All2 R es cs → 1 ≤ cs.length → cs.length ≤ 2 → (∃ o v, es = [o] ∧ cs = [v] ∧ R o v) ∨ ∃ o1 v1 o2 v2, es = [o1, o2] ∧ cs = [v1, v2] ∧ R o1 v1 ∧ R o2 v2
  | [o], [v], h, _, _ => .inl ⟨o, v, rfl, rfl, h.1⟩
  | [o1, o2], [v1, v2], h, _, _ => .inr ⟨o1, v1, o2, v2, rfl, rfl, h.1, h.2.1⟩
  | [], [], _, h, _ => by cases h
  | [], _ :: _, h, _, _ => h.elim
  | _ :: _, [], h, _, _ => h.elim
  | [_], _ :: _ :: _, h, _, _ => h.2.elim
  | _ :: _ :: _, [_], h, _, _ => h.2.elim
  | _ :: _ :: _ :: _, [_, _], h, _, _ => h.2.2.elim
  | [_, _], _ :: _ :: _ :: _, h, _, _ => h.2.2.elim
  | _ :: _ :: _ :: _, _ :: _ :: _ :: _, _, _, h => by
    simp at h
section
variable {P : Program} {w : World} {K : PySem.W.Frag} {mg : Str → Option Value} {base : Heap}
theorem ok_ispaperx {f fT fI fJ fL : Addr} {fd fdT fdI fdJ fdL : FuncData} (F : Fun K "is_equality_paper" "is_equality_paper" sIsPaper f fd) (bT : Binds K fdT ["value"] []) (bI : Binds K fdI ["value"] []) (bJ : Binds K fdJ ["one", "other", "chain"] []) (bL : Binds K fdL ["term", "chain"] [])
    (GT : FnOk P w K mg base CX0 3 fT fdT ["value"] spCkTerm) (GI : FnOk P w K mg base CX0 3 fI fdI ["value"] (spIsChainX K)) (GJ : FnOk P w K mg base CX0 6 fJ fdJ ["one", "other", "chain"] (spJoinsX K)) (GL : FnOk P w K mg base CX0 7 fL fdL ["term", "chain"] (spLeadsX K))
    (gT : mg "check_term" = some (.ref fT)) (gI : mg "_is_chain" = some (.ref fI)) (gJ : mg "_joins" = some (.ref fJ)) (gL : mg "_leads_down" = some (.ref fL))
    (kT : PySem.W.keepIn K (.ref fT) = true) (kI : PySem.W.keepIn K (.ref fI) = true) (kJ : PySem.W.keepIn K (.ref fJ) = true) (kL : PySem.W.keepIn K (.ref fL) = true)
    (ms : mg "isinstance" = none) (mt : mg "tuple" = none) (ml : mg "len" = none) (ma : mg "all" = none) : FnOk P w K mg base CX0 8 f fd ["one", "other", "value"] (spIsPaperX K) := by
  refine F.ok scIsPaper (fun vs H Q E h => ?_) (fun cdv A outer s H vs Q E hr h => ?_)
  · obtain ⟨v, t, u, rfl, _⟩ := h
    rfl
  · obtain ⟨v, t, u, rfl, ot, ou, st, su, h⟩ := h
    have N := scIsPaper.nd
    have sl := sizeLine_eq
    have hr3 := hr.mono (show 3 ≤ 7 by decide)
    have hr6 := hr.mono (show 6 ≤ 7 by decide)
    refine ⟨_, pss_cons (ps_expr (pe_call GT hr3 (by rfl) gT kT bT .nil pass0 (pa_cons (pv 0) pa_nil))) (pss_cons (ps_expr (pe_call GT hr3 (by rfl) gT kT bT .nil pass0 (pa_cons (pv 1) pa_nil)))
      (pss_cons (ps_if (PW.pt (pw_or (pt_not (pt_val (pe_callB call_isi (by rfl) ms (by decide +kernel) (pa_cons (pv 2) (pa_cons (pe_bltn (v := .ty "tuple") (by rfl) mt (by decide +kernel) rfl) pa_nil)))))
          (pw_or (pt_cmpR op_lt (pe_callB call_len_seq (by rfl) ml PySem.boot_len (pa_cons (pv 2) pa_nil)) pe_int (nomark _))
          (pw_or1 (pt_not (pt_val (pe_callB (cr_all rfl) (by rfl) ma (by decide +kernel) (pa_cons
            (pe_lc (own := [("chain", 3)]) (g := gName 3) (tt := tYes) rfl N (pi_tup (pe_slice (slK (K := K) rfl) (pv 2) (po_some pe_int) po_none)) (blkOk_by (own := [("chain", 3)]) (N := ["one", "other", "value", "chain"]) (sc := defScope sIsPaper) (by decide +kernel))
              (fun _ _ _ _ _ => pg_name (i := 3) N rfl (Or.inl rfl)) (fun _ _ _ _ _ => pts_nil)
              (fun _ _ _ _ _ => pe_call GI hr3 (by rfl) gI kI bI .nil pass0 (pa_cons (pv 3) pa_nil))) pa_nil)))))))) (pss_one (ps_ret pe_bl)) pss_nil)
      (pss_cons (ps_if (PW.pt (pw_and (pt_cmpR op_eq (pe_ix (ixTupK (K := K) rfl) (pv 2) pe_int (fun _ _ => rfl)) pe_str (nomark _)) (pw_and1 (pt_cmpR op_eq (pe_callB call_len_seq (by rfl) ml PySem.boot_len (pa_cons (pv 2) pa_nil)) pe_int (nomark _)))))
        (pss_one (ps_ret (pe_call GJ hr6 (by rfl) gJ kJ bJ .nil pass0 (pa_cons (pv 0) (pa_cons (pv 1) (pa_cons (pe_ix (ixTupK (K := K) rfl) (pv 2) pe_int (fun _ _ => rfl)) pa_nil)))))) pss_nil)
      (pss_cons (ps_if (PW.pt (pw_and (pt_cmpR op_eq (pe_ix (ixTupK (K := K) rfl) (pv 2) pe_int (fun _ _ => rfl)) pe_str (nomark _)) (pw_and1 (pt_cmpR op_eq (pe_callB call_len_seq (by rfl) ml PySem.boot_len (pa_cons (pv 2) pa_nil)) pe_int (nomark _)))))
        (pss_one (ps_ret (pe_and (pe_call GL hr (by rfl) gL kL bL .nil pass0 (pa_cons (pv 0) (pa_cons (pe_ix (ixTupK (K := K) rfl) (pv 2) pe_int (fun _ _ => rfl)) pa_nil)))
          (pe_and (pe_call GL hr (by rfl) gL kL bL .nil pass0 (pa_cons (pv 1) (pa_cons (pe_ix (ixTupK (K := K) rfl) (pv 2) pe_int (fun _ _ => rfl)) pa_nil)))
          (pe_one (pe_cmpR op_ne (pe_ix (ixTupK (K := K) rfl) (pe_ix (ixTupK (K := K) rfl) (pv 2) pe_int (fun _ _ => rfl)) (pe_un un_neg pe_int) (fun _ _ => rfl)) (pe_ix (ixTupK (K := K) rfl) (pe_ix (ixTupK (K := K) rfl) (pv 2) pe_int (fun _ _ => rfl)) (pe_un un_neg pe_int) (fun _ _ => rfl)) (nomark _)))))) ) pss_nil)
      (pss_one (ps_ret pe_bl)))))), ?_⟩
    refine ⟨_, rfl, t, rfl, ot, st, _, rfl, u, rfl, ou, su, ?_⟩
    rcases h with ⟨⟨ty, ht, kb⟩, q⟩ | ⟨p, ws, rfl, hp, lw, q⟩ | ⟨p, k, cs, es, rfl, hp, c1, c2, hk, al, q⟩
    · exact ⟨_, rfl, _, _, _, _, false, rfl, .ty _, ht, kit_ty kb, false, rfl, iteT (iteT q)⟩
    · refine ⟨_, rfl, _, _, _, _, true, rfl, .ty _, sqT_ty hp, kit_ty (by decide +kernel), true, rfl, iteF ?_⟩
      exact ⟨_, rfl, p, _, rfl, .inr hp, _, _, rfl, rfl, _, rfl, iteTo (decide_eq_true (by omega)) (iteT q)⟩
    · refine ⟨_, rfl, _, _, _, _, true, rfl, .ty _, sqT_ty hp, kit_ty (by decide +kernel), true, rfl, iteF ?_⟩
      refine ⟨_, rfl, p, _, rfl, .inr hp, _, _, rfl, rfl, _, rfl, iteFo (decide_eq_false (by rw [List.length_cons]; omega)) ?_⟩
      refine ⟨_, rfl, 1, rfl, p, _, rfl, hp, fun r H1 s1 sq1 => ⟨r, rfl, ⟨_, sq1⟩, fun D nD => ?_⟩⟩
      rw [cutV_tail] at sq1
      have sq1 : SqT K H1 r cs := sq1
      have le := al.len
      refine lc_tup (K := K) (a := r) (xs := cs) (fun i H2 => Same H1 H2 ∧ H2 D = some (.lst (((es.take i).map goodE).map V.bl))) ⟨sameUpd nD, upd_same⟩ (fun i H2 _ hP => sqT_same hP.1 sq1) (fun i v H2 hv hP => ?_) (fun H2 hP => ?_)
      · obtain ⟨sm, hD⟩ := hP
        obtain ⟨o, eo, hel⟩ := al.get i v hv
        have il := (List.getElem?_eq_some_iff.mp eo).1
        have hel := (hel.same s1).same sm
        have fin : ∀ H3, Same H2 H3 → ∃ xs, H3 D = some (.lst xs) ∧ xs.length + 1 ≤ sizeLine ∧ Same H1 (upd H3 D (.lst (xs ++ [V.bl (goodE o)]))) ∧ (upd H3 D (.lst (xs ++ [V.bl (goodE o)]))) D = some (.lst (((es.take (i + 1)).map goodE).map V.bl)) := fun H3 s3 => by
          refine ⟨_, s3 _ _ hD, by rw [List.length_map, List.length_map, List.length_take]; omega, fun b o' e => ?_, ?_⟩
          · rw [upd_ne (ne_of_none e nD)]
            exact s3 _ _ (sm b o' e)
          · rw [upd_same, List.take_add_one, eo, List.map_append, List.map_append]
            rfl
        cases hel with
        | no nt =>
          obtain ⟨xs, f1, f2, f3, f4⟩ := fin H2 (.refl _)
          exact ⟨rfl, _, rfl, _, rfl, .inl ⟨nt, xs, f1, f2, f3, f4⟩⟩
        | yes tr =>
          refine ⟨rfl, _, rfl, _, rfl, .inr ⟨_, _, rfl, tr, fun H3 s3 => ?_⟩⟩
          obtain ⟨xs, f1, f2, f3, f4⟩ := fin H3 s3
          exact ⟨xs, f1, f2, f3, f4⟩
      · obtain ⟨sm, hD⟩ := hP
        have s2 := s1.trans sm
        have hp2 := sqT_same s2 hp
        rw [← le, List.take_length] at hD
        refine ⟨D, es.map goodE, rfl, .of hD, _, rfl, ?_⟩
        rcases hg : (es.map goodE).all id with _ | _
        · rw [paperB_bad hg] at q
          exact iteT (q H2 s2)
        · refine iteF ?_
          have sc : ∀ y : Str, scal k (.str y) = true := fun y => by
            rcases hk with ⟨_, rfl⟩ | ⟨_, rfl⟩ <;> rfl
          have nb : isKey k "equal" = true → isKey k "unequal" = false := fun e => by
            have e := of_decide_eq_true e
            subst e
            decide +kernel
          refine ⟨_, rfl, p, _, 0, _, rfl, rfl, hp2, atI_nat (j := 0) rfl, sc _, _, rfl, ?_⟩
          rcases all2_12 al c1 c2 with ⟨o, v, rfl, rfl, al1⟩ | ⟨o1, v1, o2, v2, rfl, rfl, al1, al2⟩
          · have hg : (goodE o && true) = true := hg
            rw [Bool.and_true] at hg
            obtain ⟨c, ts, rfl, rfl, tr, gn⟩ := (al1.same s2).some hg
            have q : ∀ H', Same H H' → Q (.bl (isKey k "equal" && joinB t u ts)) H' := fun H' s => by
              have := q H' s
              rw [show paperB t u k [some ts] = (goodN ts.length && (isKey k "equal" && joinB t u ts)) from rfl, gn, Bool.true_and] at this
              exact this
            rcases he : isKey k "equal" with _ | _
            · rw [he, Bool.false_and] at q
              refine iteFo he (iteF ?_)
              refine ⟨_, rfl, p, _, 0, _, rfl, rfl, hp2, atI_nat (j := 0) rfl, sc _, _, rfl, ?_⟩
              rcases hu : isKey k "unequal" with _ | _
              · exact iteFo hu (iteF (q H2 s2))
              · exact iteTo hu ⟨_, rfl, p, _, rfl, .inr hp2, rfl, _, rfl, iteF (q H2 s2)⟩
            · rw [he, Bool.true_and] at q
              refine iteTo he ⟨_, rfl, p, _, rfl, .inr hp2, rfl, _, rfl, iteT ?_⟩
              exact ⟨_, rfl, _, rfl, _, rfl, p, _, 1, _, rfl, rfl, hp2, rfl, c, ts, t, u, rfl, tr.trms gn, ot, ou, fun H3 s3 => q H3 (s2.trans s3)⟩
          · have hg : (goodE o1 && (goodE o2 && true)) = true := hg
            rw [Bool.and_true, Bool.and_eq_true] at hg
            obtain ⟨c, ts, rfl, rfl, tr, gn⟩ := (al1.same s2).some hg.1
            obtain ⟨d, us, rfl, rfl, tu, gm⟩ := (al2.same s2).some hg.2
            have q : ∀ H', Same H H' → Q (.bl (isKey k "unequal" && (leadB t ts && (leadB u us && !decide (ts.getLast? = us.getLast?))))) H' := fun H' s => by
              have := q H' s
              rw [show paperB t u k [some ts, some us] = (goodN ts.length && (goodN us.length && (isKey k "unequal" && (leadB t ts && (leadB u us && !decide (ts.getLast? = us.getLast?)))))) from rfl, gn, gm, Bool.true_and, Bool.true_and] at this
              exact this
            rcases he : isKey k "equal" with _ | _
            · refine iteFo he (iteF ?_)
              refine ⟨_, rfl, p, _, 0, _, rfl, rfl, hp2, atI_nat (j := 0) rfl, sc _, _, rfl, ?_⟩
              rcases hu : isKey k "unequal" with _ | _
              · rw [hu, Bool.false_and] at q
                exact iteFo hu (iteF (q H2 s2))
              · rw [hu, Bool.true_and] at q
                refine iteTo hu ⟨_, rfl, p, _, rfl, .inr hp2, rfl, _, rfl, iteT ?_⟩
                refine ⟨_, rfl, _, rfl, p, _, 1, _, rfl, rfl, hp2, rfl, c, ts, t, rfl, tr.trms gn, ot, fun H3 s3 => ⟨_, rfl, ?_⟩⟩
                rcases l1 : leadB t ts with _ | _
                · rw [l1, Bool.false_and] at q
                  exact iteF (q H3 (s2.trans s3))
                rw [l1, Bool.true_and] at q
                refine iteT ?_
                have hp3 := sqT_same s3 hp2
                refine ⟨_, rfl, _, rfl, p, _, 2, _, rfl, rfl, hp3, rfl, d, us, u, rfl, (tu.same s3).trms gm, ou, fun H4 s4 => ⟨_, rfl, ?_⟩⟩
                have s24 := s3.trans s4
                rcases l2 : leadB u us with _ | _
                · rw [l2, Bool.false_and] at q
                  exact iteF (q H4 (s2.trans s24))
                rw [l2, Bool.true_and] at q
                refine iteT ?_
                have hp4 := sqT_same s4 hp3
                obtain ⟨x, la1, m1⟩ := last_some (tr.trms gn).pos
                obtain ⟨y, la2, m2⟩ := last_some (tu.trms gm).pos
                refine ⟨_, rfl, p, _, 1, _, rfl, rfl, hp4, rfl, 1, rfl, c, _, -1, _, rfl, rfl, (tr.same s24).seq, last_at la1, ?_⟩
                refine ⟨_, rfl, p, _, 2, _, rfl, rfl, hp4, rfl, 1, rfl, d, _, -1, _, rfl, rfl, (tu.same s24).seq, last_at la2, rfl, ?_⟩
                rw [last_ne la1 la2 (tr.ok x m1).1 (tu.ok y m2).1]
                exact q H4 (s2.trans s24)
            · rw [nb he, Bool.false_and] at q
              refine iteTo he ⟨_, rfl, p, _, rfl, .inr hp2, rfl, _, rfl, iteF ?_⟩
              refine ⟨_, rfl, p, _, 0, _, rfl, rfl, hp2, atI_nat (j := 0) rfl, sc _, _, rfl, iteFo (nb he) (iteF (q H2 s2))⟩
end
end K78

set_option maxHeartbeats 16000000
namespace K78
open PySem PySem.Spec PyProof.Rows L2 GG MT
abbrev sTakes : Stmt := topS 37
abbrev sTDown : Stmt := topS 38
theorem scTakes : FnScope ["one", "other", "chain", "at"] ["one", "other", "chain"] (defScope sTakes) := ⟨rfl, rfl, rfl, by decide +kernel, rfl, by decide +kernel, by decide +kernel⟩
theorem scTDown : FnScope ["term", "chain", "at"] ["term", "chain"] (defScope sTDown) := ⟨rfl, rfl, rfl, by decide +kernel, rfl, by decide +kernel, by decide +kernel⟩
def spTakes (K : PySem.W.Frag) : Sp := fun vs H Q _ => ∃ c ts t u, vs = [vT t, vT u, .ref c] ∧ TrT K H c ts ∧ Ok t ∧ Ok u ∧ ∀ H', Same H H' → Q (.bl (goodN ts.length && joinB t u ts)) H'
def spTDown (K : PySem.W.Frag) : Sp := fun vs H Q _ => ∃ c ts t, vs = [vT t, .ref c] ∧ TrT K H c ts ∧ Ok t ∧ ∀ H', Same H H' → Q (.bl (decide (1 ≤ ts.length) && leadB t ts)) H'
theorem atM {ts : List Trm} {i : Nat} {a : Trm} (h : ts[i]? = some a) : atI (ts.map vT) (i : Int) = some (vT a) := atI_nat (by rw [List.getElem?_map, h]; rfl)
theorem two_at {ts : List Trm} {i : Nat} (h : i + 1 < ts.length) : ∃ a b, ts[i]? = some a ∧ ts[i + 1]? = some b := ⟨ts[i], ts[i + 1], List.getElem?_eq_getElem (by omega), List.getElem?_eq_getElem h⟩
theorem leadB_last (t : Trm) {ts : List Trm} {u : Trm} (la : ts.getLast? = some u) : leadB t ts = (decide (ts.head? = some t) && (decide (steps u = []) && links stepB ts)) := by
  unfold leadB
  rw [la]
  show (_ && (decide (nf u = u) && _)) = _
  rw [show decide (nf u = u) = decide (steps u = []) from decide_eq_decide.mpr steps_nil.symm]
section
variable {P : Program} {w : World} {K : PySem.W.Frag} {mg : Str → Option Value} {base : Heap}
theorem ok_takes {f fL : Addr} {fd fdL : FuncData} (F : Fun K "_law_takes" "_law_takes" sTakes f fd) (bL : Binds K fdL ["one", "other"] [])
    (GL : FnOk P w K mg base CX0 5 fL fdL ["one", "other"] spLLeads) (gL : mg "_law_leads" = some (.ref fL)) (kL : PySem.W.keepIn K (.ref fL) = true) (mr : mg "range" = none) (ml : mg "len" = none) :
    FnOk P w K mg base CX0 6 f fd ["one", "other", "chain"] (spTakes K) := by
  refine F.ok scTakes (fun vs H Q E h => ?_) (fun cdv A outer s H vs Q E hr h => ?_)
  · obtain ⟨c, ts, t, u, rfl, _⟩ := h
    rfl
  · obtain ⟨c, ts, t, u, rfl, tr, ot, ou, q⟩ := h
    have N := scTakes.nd
    have few := tr.few
    refine ⟨_, pss_cons (ps_if (PW.pt (pw_or (pt_cmpR op_eq (pe_callB (call_lenK (K := K) rfl) (by rfl) ml PySem.boot_len (pa_cons (pv 2) pa_nil)) pe_int (nomark _))
          (pw_or (pt_cmpR op_gt (pe_callB (call_lenK (K := K) rfl) (by rfl) ml PySem.boot_len (pa_cons (pv 2) pa_nil)) pe_int (nomark _))
          (pw_or (pt_cmpR op_ne (pe_ix (ixTupK (K := K) rfl) (pv 2) pe_int (fun _ _ => rfl)) (pv 0) (nomark _)) (pw_or1 (pt_cmpR op_ne (pe_ix (ixTupK (K := K) rfl) (pv 2) (pe_un un_neg pe_int) (fun _ _ => rfl)) (pv 1) (nomark _))))))) (pss_one (ps_ret pe_bl)) pss_nil)
      (pss_cons (ps_for PassesOwn.never rfl (pi_range1 (by rfl) mr (pa_cons (pe_op op_sub (pe_callB (call_lenK (K := K) rfl) (by rfl) ml PySem.boot_len (pa_cons (pv 2) pa_nil)) pe_int) pa_nil)) (pg_name (i := 3) N rfl (.inl rfl))
        (pss_one (ps_if (PW.pt (pw_and (pt_not (pt_val (pe_call GL hr (by rfl) gL kL bL .nil pass0 (pa_cons (pe_ix (ixTupK (K := K) rfl) (pv 2) (pv 3) (fun _ _ => rfl)) (pa_cons (pe_ix (ixTupK (K := K) rfl) (pv 2) (pe_op op_add (pv 3) pe_int) (fun _ _ => rfl)) pa_nil)))))
            (pw_and1 (pt_not (pt_val (pe_call GL hr (by rfl) gL kL bL .nil pass0 (pa_cons (pe_ix (ixTupK (K := K) rfl) (pv 2) (pe_op op_add (pv 3) pe_int) (fun _ _ => rfl)) (pa_cons (pe_ix (ixTupK (K := K) rfl) (pv 2) (pv 3) (fun _ _ => rfl)) pa_nil))))))))
          (pss_one (ps_ret pe_bl)) pss_nil)))
      (pss_one (ps_ret pe_bl))), ?_⟩
    unfold goodN at q
    refine ⟨_, rfl, c, _, rfl, .inr tr.seq, rfl, _, rfl, ?_⟩
    rw [List.length_map]
    by_cases p1 : 1 ≤ ts.length
    · rw [decide_eq_true p1, Bool.true_and] at q
      refine iteFo (decide_eq_false (fun z => by
        have := V.int.inj z
        omega)) ?_
      refine ⟨_, rfl, c, _, rfl, .inr tr.seq, _, _, rfl, rfl, _, rfl, ?_⟩
      rw [List.length_map]
      by_cases p2 : ts.length ≤ 400
      · rw [decide_eq_true p2, Bool.true_and] at q
        refine iteFo (decide_eq_false (by omega)) ?_
        obtain ⟨x, hd, mx⟩ := head_some p1
        obtain ⟨y, la, my⟩ := last_some p1
        obtain ⟨ox, _⟩ := tr.ok x mx
        obtain ⟨oy, _⟩ := tr.ok y my
        unfold joinB at q
        rw [hd, la] at q
        refine ⟨_, rfl, c, _, 0, _, rfl, rfl, tr.seq, head_at hd, _, rfl, rfl, _, rfl, ?_⟩
        rw [vT_eq ox ot]
        by_cases ex : x = t
        · subst ex
          rw [decide_eq_true rfl, Bool.true_and] at q
          rw [decide_eq_true rfl]
          refine iteF ⟨_, rfl, 1, rfl, c, _, -1, _, rfl, rfl, tr.seq, last_at la, _, rfl, rfl, _, rfl, ?_⟩
          rw [vT_eq oy ou]
          by_cases ey : y = u
          · subst ey
            rw [decide_eq_true rfl, Bool.true_and] at q
            rw [decide_eq_true rfl]
            refine iteF ⟨_, rfl, c, _, rfl, .inr tr.seq, _, _, rfl, rfl, _, rfl, ?_⟩
            rw [List.length_map]
            refine ⟨by omega, by omega, ?_⟩
            rw [show (((ts.length : Nat) : Int) - 1).toNat = ts.length - 1 by omega]
            refine for_it (walk_range (lo := 0) (n := ts.length - 1))
              (fun i σ H2 => ∃ y3, σ = [some (vT x), some (vT y), some (.ref c), y3] ∧ Same H H2 ∧ ∀ j a b, j < i → ts[j]? = some a → ts[j + 1]? = some b → (stepB a b || stepB b a) = true)
              ⟨_, rfl, .refl _, fun j a b hj => absurd hj (Nat.not_lt_zero _)⟩ (fun _ _ _ _ _ => trivial) (fun i x0 σ H2 H3 il hP y0 => ?_) (fun σ H2 hP => ?_)
            · obtain ⟨y3, rfl, s2, dn⟩ := hP
              obtain ⟨rfl, hx⟩ := y0
              have hx : x0 = .int (i : Int) := hx.trans (by show V.int (0 + (i : Int)) = _; rw [Int.zero_add])
              subst hx
              obtain ⟨a, b, ha, hb⟩ := two_at (ts := ts) (i := i) (by omega)
              obtain ⟨oa, sa⟩ := tr.ok a (List.mem_of_getElem? ha)
              obtain ⟨ob, sb⟩ := tr.ok b (List.mem_of_getElem? hb)
              have next : (stepB a b || stepB b a) = true → ∀ j a b, j < i + 1 → ts[j]? = some a → ts[j + 1]? = some b → (stepB a b || stepB b a) = true := fun g j a' b' hj ha' hb' => by
                by_cases e : j = i
                · subst e
                  rw [ha] at ha'
                  rw [hb] at hb'
                  cases ha'
                  cases hb'
                  exact g
                · exact dn j a' b' (by omega) ha' hb'
              have at2 : atI (ts.map vT) ((i : Int) + 1) = some (vT b) := by
                rw [show (i : Int) + 1 = ((i + 1 : Nat) : Int) by omega]
                exact atM hb
              have sq3 := sqT_same s2 tr.seq
              refine ⟨_, rfl, _, rfl, c, _, _, _, rfl, rfl, sq3, atM ha, _, rfl, _, rfl, _, _, rfl, rfl, c, _, _, _, rfl, rfl, sq3, at2, a, b, rfl, oa, ob, sa, fun H4 s4 => ⟨_, rfl, ?_⟩⟩
              have sq4 := sqT_same s4 sq3
              rcases hab : stepB a b with _ | _
              · refine iteT ⟨_, rfl, _, rfl, _, _, rfl, rfl, c, _, _, _, rfl, rfl, sq4, at2, _, rfl, _, rfl, c, _, _, _, rfl, rfl, sq4, atM ha, b, a, rfl, ob, oa, sb, fun H5 s5 => ⟨_, rfl, ?_⟩⟩
                rcases hba : stepB b a with _ | _
                · refine iteT ?_
                  rw [links_no ha hb (by rw [hab, hba]; rfl)] at q
                  exact q _ ((s2.trans s4).trans s5)
                · exact iteF ⟨_, rfl, (s2.trans s4).trans s5, next (by rw [hab, hba]; rfl)⟩
              · exact iteF (iteF ⟨_, rfl, s2.trans s4, next (by rw [hab]; rfl)⟩)
            · obtain ⟨y3, rfl, s2, dn⟩ := hP
              rw [(links_iff _ ts).mpr fun i a b ha hb => dn i a b (by
                have := (List.getElem?_eq_some_iff.mp hb).1
                omega) ha hb] at q
              exact q H2 s2
          · have : ¬ (some y = some u) := fun z => ey (Option.some.inj z)
            rw [decide_eq_false this, Bool.false_and] at q
            rw [decide_eq_false ey]
            exact iteT (q H (.refl H))
        · have : ¬ (some x = some t) := fun z => ex (Option.some.inj z)
          rw [decide_eq_false this, Bool.false_and] at q
          rw [decide_eq_false ex]
          exact iteT (iteT (q H (.refl H)))
      · rw [decide_eq_false p2, Bool.false_and] at q
        exact iteTo (decide_eq_true (by omega)) (iteT (q H (.refl H)))
    · rw [decide_eq_false p1, Bool.false_and, Bool.false_and] at q
      exact iteTo (decide_eq_true (congrArg V.int (by omega))) (iteT (q H (.refl H)))
theorem eqv_ints (js : List Int) : PyData.eqv (.list (js.map PyData.int)) (.list []) = decide (js = []) := by
  cases js with
  | nil => rfl
  | cons a as => rfl
theorem ok_tdown {f fL fS : Addr} {fd fdL fdS : FuncData} (F : Fun K "_law_takes_down" "_law_takes_down" sTDown f fd) (bL : Binds K fdL ["one", "other"] []) (bS : Binds K fdS ["term"] [])
    (GL : FnOk P w K mg base CX0 5 fL fdL ["one", "other"] spLLeads) (GS : FnOk P w K mg base CX0 4 fS fdS ["term"] spSteps0) (gL : mg "_law_leads" = some (.ref fL)) (gS : mg "_law_steps" = some (.ref fS))
    (kL : PySem.W.keepIn K (.ref fL) = true) (kS : PySem.W.keepIn K (.ref fS) = true) (mr : mg "range" = none) (ml : mg "len" = none) : FnOk P w K mg base CX0 6 f fd ["term", "chain"] (spTDown K) := by
  refine F.ok scTDown (fun vs H Q E h => ?_) (fun cdv A outer s H vs Q E hr h => ?_)
  · obtain ⟨c, ts, t, rfl, _⟩ := h
    rfl
  · obtain ⟨c, ts, t, rfl, tr, ot, q⟩ := h
    have N := scTDown.nd
    have few := tr.few
    have sl := sizeLine_eq
    have un := hr.units
    have hr4 := hr.mono (show 4 ≤ 5 by decide)
    refine ⟨_, pss_cons (ps_if (PW.pt (pw_or (pt_cmpR op_eq (pe_callB (call_lenK (K := K) rfl) (by rfl) ml PySem.boot_len (pa_cons (pv 1) pa_nil)) pe_int (nomark _))
          (pw_or (pt_cmpR op_ne (pe_ix (ixTupK (K := K) rfl) (pv 1) pe_int (fun _ _ => rfl)) (pv 0) (nomark _))
          (pw_or1 (pt_cmpR (op_neD un) (pe_call GS hr4 (by rfl) gS kS bS .nil pass0 (pa_cons (pe_ix (ixTupK (K := K) rfl) (pv 1) (pe_un un_neg pe_int) (fun _ _ => rfl)) pa_nil)) (pe_lst pa_nil) (nomark _)))))) (pss_one (ps_ret pe_bl)) pss_nil)
      (pss_one (ps_ret (pe_cmpR (op_eqD un) (pe_lc (own := [("at", 2)]) (g := gName 2) rfl N (pi_range1 (by rfl) mr (pa_cons (pe_op op_sub (pe_callB (call_lenK (K := K) rfl) (by rfl) ml PySem.boot_len (pa_cons (pv 1) pa_nil)) pe_int) pa_nil))
              (blkOk_by (own := [("at", 2)]) (N := ["term", "chain", "at"]) (sc := defScope sTDown) (by decide +kernel)) (fun _ _ _ _ _ => pg_name (i := 2) N rfl (Or.inl rfl))
              (fun _ _ _ _ _ => pts_one (pt_not (pt_val (pe_call GL hr (by rfl) gL kL bL .nil pass0 (pa_cons (pe_ix (ixTupK (K := K) rfl) (pv 1) (pv 2) (fun _ _ => rfl)) (pa_cons (pe_ix (ixTupK (K := K) rfl) (pv 1) (pe_op op_add (pv 2) pe_int) (fun _ _ => rfl)) pa_nil))))))
              (fun _ _ _ _ _ => pv 2)) (pe_lst pa_nil) (nomark _)))), ?_⟩
    refine ⟨_, rfl, c, _, rfl, .inr tr.seq, rfl, _, rfl, ?_⟩
    rw [List.length_map]
    by_cases p1 : 1 ≤ ts.length
    · rw [decide_eq_true p1, Bool.true_and] at q
      refine iteFo (decide_eq_false (fun z => by
        have := V.int.inj z
        omega)) ?_
      obtain ⟨x, hd, mx⟩ := head_some p1
      obtain ⟨u, la, mu⟩ := last_some p1
      obtain ⟨ox, _⟩ := tr.ok x mx
      obtain ⟨ou, su⟩ := tr.ok u mu
      rw [leadB_last t la, hd] at q
      refine ⟨_, rfl, c, _, 0, _, rfl, rfl, tr.seq, head_at hd, _, rfl, rfl, _, rfl, ?_⟩
      rw [vT_eq ox ot]
      by_cases ex : x = t
      · subst ex
        rw [decide_eq_true rfl, Bool.true_and] at q
        rw [decide_eq_true rfl]
        refine iteF ⟨_, rfl, 1, rfl, c, _, -1, _, rfl, rfl, tr.seq, last_at la, u, rfl, ou, su, fun H4 p us s4 np hp au => ?_⟩
        have so := steps_allok ou su
        have fu := flat_len u
        refine ⟨(by show 0 ≤ sizeLine; decide), fun p4 n4 => ?_⟩
        have s45 := sameUpd (o := .lst []) n4
        have s5 := s4.trans s45
        refine ⟨_, _, .lst (.inl (.inl (s45 _ _ hp))) (steps_dp (au.imp fun _ _ _ g => g.same s45)), .lst (.inl (.inl upd_same)) .nil, steps_shaped so, rfl, _, rfl, ?_⟩
        rw [eqv_nil]
        generalize upd H4 p4 (.lst []) = H5 at s5 ⊢
        by_cases e : steps u = []
        · rw [decide_eq_true e, Bool.true_and] at q
          rw [decide_eq_true e]
          refine iteF ⟨_, rfl, c, _, rfl, .inr (sqT_same s5 tr.seq), _, _, rfl, rfl, _, rfl, ?_⟩
          rw [List.length_map]
          refine ⟨by omega, by omega, ?_⟩
          rw [show (((ts.length : Nat) : Int) - 1).toNat = ts.length - 1 by omega]
          refine fun D nD => ?_
          refine lc_it (walk_range (lo := 0) (n := ts.length - 1)) (fun i H8 => Same H5 H8 ∧ ∃ js : List Int, H8 D = some (.lst (js.map V.int)) ∧ js.length ≤ i ∧ ((js = [] ∧ ∀ j a b, j < i → ts[j]? = some a → ts[j + 1]? = some b → stepB a b = true) ∨ (js ≠ [] ∧ links stepB ts = false)))
            ⟨sameUpd nD, [], upd_same, Nat.le_refl _, .inl ⟨rfl, fun j a b hj => absurd hj (Nat.not_lt_zero _)⟩⟩ (fun _ _ _ _ => trivial) (fun k xk H8 H9 kl hP y => ?_) (fun H8 hP => ?_)
          · obtain ⟨s8, js, hD, jl, dn⟩ := hP
            obtain ⟨rfl, hxk⟩ := y
            have hxk : xk = .int (k : Int) := hxk.trans (by show V.int (0 + (k : Int)) = _; rw [Int.zero_add])
            subst hxk
            obtain ⟨a, b, ha, hb⟩ := two_at (ts := ts) (i := k) (by omega)
            obtain ⟨oa, sa⟩ := tr.ok a (List.mem_of_getElem? ha)
            obtain ⟨ob, sb⟩ := tr.ok b (List.mem_of_getElem? hb)
            have at2 : atI (ts.map vT) ((k : Int) + 1) = some (vT b) := by
              rw [show (k : Int) + 1 = ((k + 1 : Nat) : Int) by omega]
              exact atM hb
            have sq3 := sqT_same (s5.trans s8) tr.seq
            refine ⟨rfl, _, rfl, _, rfl, c, _, _, _, rfl, rfl, sq3, atM ha, _, rfl, _, rfl, _, _, rfl, rfl, c, _, _, _, rfl, rfl, sq3, at2, a, b, rfl, oa, ob, sa, fun H10 s10 => ⟨_, rfl, ?_⟩⟩
            rcases hab : stepB a b with _ | _
            · refine iteT ⟨_, rfl, _, s10 _ _ hD, by rw [List.length_map]; omega, fun b o e => ?_, js ++ [(k : Int)], ?_, ?_, .inr ⟨by simp, links_no ha hb hab⟩⟩
              · rw [upd_ne (ne_of_none e nD)]
                exact s10 _ _ (s8 _ _ e)
              · rw [upd_same, List.map_append]
                rfl
              · rw [List.length_append]
                simp only [List.length_cons, List.length_nil]
                omega
            · refine iteF ⟨s8.trans s10, js, s10 _ _ hD, by omega, ?_⟩
              rcases dn with ⟨e0, dn⟩ | dn
              · refine .inl ⟨e0, fun j a' b' hj ha' hb' => ?_⟩
                by_cases e : j = k
                · subst e
                  rw [ha] at ha'
                  rw [hb] at hb'
                  cases ha'
                  cases hb'
                  exact hab
                · exact dn j a' b' (by omega) ha' hb'
              · exact .inr dn
          · obtain ⟨s8, js, hD, jl, dn⟩ := hP
            refine ⟨(by show 0 ≤ sizeLine; decide), fun p9 n9 => ?_⟩
            have s9 := sameUpd (o := .lst []) n9
            refine ⟨.list (js.map PyData.int), .list [], .lst (.inl (.inl (s9 _ _ hD))) (dpAll_ints js), .lst (.inl (.inl upd_same)) .nil, list_shaped js, rfl, ?_⟩
            rw [eqv_ints]
            rcases dn with ⟨e0, dn⟩ | ⟨e0, dn⟩
            · rw [(links_iff _ ts).mpr fun i a b ha hb => dn i a b (by
                have := (List.getElem?_eq_some_iff.mp hb).1
                omega) ha hb] at q
              rw [decide_eq_true e0]
              exact q _ ((s5.trans s8).trans s9)
            · rw [dn] at q
              rw [decide_eq_false e0]
              exact q _ ((s5.trans s8).trans s9)
        · rw [decide_eq_false e, Bool.false_and] at q
          rw [decide_eq_false e]
          exact iteT (q H5 s5)
      · have : ¬ (some x = some t) := fun z => ex (Option.some.inj z)
        rw [decide_eq_false this, Bool.false_and] at q
        rw [decide_eq_false ex]
        exact iteT (iteT (q H (.refl H)))
    · rw [decide_eq_false p1, Bool.false_and] at q
      exact iteTo (decide_eq_true (congrArg V.int (by omega))) (iteT (q H (.refl H)))
end
end K78

set_option maxHeartbeats 16000000
namespace K78
open PySem PySem.Spec PyProof.Rows L2 GG MT
abbrev sNear : Stmt := topS 39
theorem scNear : FnScope ["dice", "chain", "letters", "at", "way", "fresh", "more"] ["dice", "chain", "letters"] (defScope sNear) := ⟨rfl, rfl, rfl, by decide +kernel, rfl, by decide +kernel, by decide +kernel⟩
theorem sqT_but {K : PySem.W.Frag} {H H' : Hp} {l c : Addr} {xs : List V} (hb : But l H H') (hd : Dice H l) (h : SqT K H c xs) : SqT K H' c xs := by
  obtain ⟨_, _, _, e, _⟩ := hd
  rcases h with (h | ⟨o, h⟩) | h
  · exact .inl (.inl (hb _ _ (fun z => by rw [z, e] at h; cases h) h))
  · exact .inl (.inr ⟨o, hb _ _ (fun z => by rw [z, e] at h; cases h) h⟩)
  · exact .inr h
theorem TrT.but {K : PySem.W.Frag} {H H' : Hp} {l c : Addr} {ts : List Trm} (h : TrT K H c ts) (hb : But l H H') (hd : Dice H l) : TrT K H' c ts := ⟨sqT_but hb hd h.seq, h.few, h.ok⟩
theorem cutV_to (xs : List V) (n : Nat) : cutV xs none (some (n : Int)) = xs.take n := by
  show (xs.drop 0).take (HT.sIx xs.length xs.length (some (n : Int)) - 0) = _
  rw [List.drop_zero, HT.sIx_nat, Nat.sub_zero, ← List.take_take, List.take_of_length_le (Nat.le_refl _)]
theorem cutV_from (xs : List V) (n : Nat) : cutV xs (some (n : Int)) none = xs.drop n := by
  show (xs.drop (HT.sIx xs.length 0 (some (n : Int)))).take (xs.length - HT.sIx xs.length 0 (some (n : Int))) = _
  rw [HT.sIx_nat]
  by_cases h : n ≤ xs.length
  · rw [Nat.min_eq_left h, List.take_of_length_le (by rw [List.length_drop]; exact Nat.le_refl _)]
  · rw [Nat.min_eq_right (by omega), Nat.sub_self, List.take_zero, List.drop_of_length_le (by omega)]
/-- a chain with something else at one place -/
def spNear (K : PySem.W.Frag) : Sp := fun vs H Q _ => ∃ (l c : Addr) (ts : List Trm) (ls : List Nat), vs = [.ref l, .ref c, .str (S ls)] ∧ Dice H l ∧ SqT K H c (ts.map vT) ∧ Lets ls ∧ 1 ≤ ts.length ∧ ts.length ≤ 500 ∧ (∀ t ∈ ts, Ok t ∧ size t ≤ 90) ∧
  ∀ H' p us, But l H H' → Dice H' l → TrT K H' p us → us.length ≤ ts.length + 2 → Q (.ref p) H'
section
variable {P : Program} {w : World} {K : PySem.W.Frag} {mg : Str → Option Value} {base : Heap}
theorem ok_near {f fR fG fU : Addr} {fd fdR fdG fdU : FuncData} (F : Fun K "_law_near" "_law_near" sNear f fd) (bR : Binds K fdR ["dice", "total"] []) (bG : Binds K fdG ["dice", "letters", "size"] []) (bU : Binds K fdU ["dice", "term", "letters"] [])
    (GR : FnOk P w K mg base CX0 1 fR fdR ["dice", "total"] spRoll) (GG : FnOk P w K mg base CX0 7 fG fdG ["dice", "letters", "size"] (spGrown 4)) (GU : FnOk P w K mg base CX0 3 fU fdU ["dice", "term", "letters"] spUp)
    (gR : mg "_law_roll" = some (.ref fR)) (gG : mg "_law_grown_term" = some (.ref fG)) (gU : mg "_law_up" = some (.ref fU))
    (kR : PySem.W.keepIn K (.ref fR) = true) (kG : PySem.W.keepIn K (.ref fG) = true) (kU : PySem.W.keepIn K (.ref fU) = true) (ml : mg "len" = none) : FnOk P w K mg base CX0 8 f fd ["dice", "chain", "letters"] (spNear K) := by
  refine F.ok scNear (fun vs H Q E h => ?_) (fun cdv A outer s H vs Q E hr h => ?_)
  · obtain ⟨l, c, ts, ls, rfl, _⟩ := h
    rfl
  · obtain ⟨l, c, ts, ls, rfl, hd, sq, lt, p1, p2, ok, q⟩ := h
    have N := scNear.nd
    have sl := sizeLine_eq
    have hr1 := hr.mono (show 1 ≤ 7 by decide)
    have hr3 := hr.mono (show 3 ≤ 7 by decide)
    refine ⟨_, pss_cons (ps_par (by rfl) N (i := 3) (j := 4) rfl rfl (by decide) rfl rfl (pa_cons (pe_call GR hr1 (by rfl) gR kR bR .nil pass0 (pa_cons (pv 0) (pa_cons (pe_callB (call_lenK (K := K) rfl) (by rfl) ml PySem.boot_len (pa_cons (pv 1) pa_nil)) pa_nil)))
          (pa_cons (pe_call GR hr1 (by rfl) gR kR bR .nil pass0 (pa_cons (pv 0) (pa_cons pe_int pa_nil))) pa_nil)) (by rfl))
      (pss_cons (ps_if (pt_cmpR op_eq (pv 4) pe_int (nomark _)) (pss_one (ps_ret (pe_op (catK (K := K) rfl) (pe_slice (slK (K := K) rfl) (pv 1) po_none (po_some (pv 3))) (pe_slice (slK (K := K) rfl) (pv 1) (po_some (pe_op op_add (pv 3) pe_int)) po_none)))) pss_nil)
      (pss_cons (ps_if (pt_cmpR op_eq (pv 4) pe_int (nomark _)) (pss_one (ps_ret (pe_op (catK (K := K) rfl) (pe_op (catK (K := K) rfl) (pe_slice (slK (K := K) rfl) (pv 1) po_none (po_some (pv 3))) (pe_tup (pa_cons (pe_ix (ixTupK (K := K) rfl) (pv 1) (pv 3) (fun _ _ => rfl)) pa_nil)))
          (pe_slice (slK (K := K) rfl) (pv 1) (po_some (pv 3)) po_none)))) pss_nil)
      (pss_cons (ps_if (pt_cmpR op_eq (pv 4) pe_int (nomark _)) (pss_cons (ps_set (i := 5) N rfl (.inl rfl) (pe_call GG hr (by rfl) gG kG bG .nil pass0 (pa_cons (pv 0) (pa_cons (pv 2) (pa_cons (pe_op op_add pe_int (pe_call GR hr1 (by rfl) gR kR bR .nil pass0 (pa_cons (pv 0) (pa_cons pe_int pa_nil)))) pa_nil)))))
          (pss_one (ps_ret (pe_op (catK (K := K) rfl) (pe_op (catK (K := K) rfl) (pe_slice (slK (K := K) rfl) (pv 1) po_none (po_some (pv 3))) (pe_tup (pa_cons (pv 5) pa_nil)))
          (pe_slice (slK (K := K) rfl) (pv 1) (po_some (pe_op op_add (pv 3) pe_int)) po_none))))) pss_nil)
      (pss_cons (ps_set (i := 6) N rfl (.inl rfl) (pe_tup (pa_cons (pe_ix (ixTupK (K := K) rfl) (pv 1) (pv 3) (fun _ _ => rfl)) (pa_cons (pe_call GU hr3 (by rfl) gU kU bU .nil pass0 (pa_cons (pv 0) (pa_cons (pe_ix (ixTupK (K := K) rfl) (pv 1) (pv 3) (fun _ _ => rfl)) (pa_cons (pv 2) pa_nil))))
          (pa_cons (pe_ix (ixTupK (K := K) rfl) (pv 1) (pv 3) (fun _ _ => rfl)) pa_nil)))))
      (pss_one (ps_ret (pe_op (catK (K := K) rfl) (pe_op (catK (K := K) rfl) (pe_slice (slK (K := K) rfl) (pv 1) po_none (po_some (pv 3))) (pv 6))
          (pe_slice (slK (K := K) rfl) (pv 1) (po_some (pe_op op_add (pv 3) pe_int)) po_none)))))))), ?_⟩
    refine ⟨_, rfl, _, rfl, c, _, rfl, .inr sq, l, _, rfl, hd, ?_, ?_, fun H1 r b1 d1 r0 r1 => ?_⟩
    · rw [List.length_map]
      omega
    · rw [List.length_map]
      omega
    rw [List.length_map] at r1
    obtain ⟨k, rfl⟩ := Int.eq_ofNat_of_zero_le r0
    refine ⟨_, rfl, l, 4, rfl, d1, by decide, by decide, fun H2 wy b2 d2 w0 w1 => ⟨_, _, rfl, ?_⟩⟩
    have b12 := b1.trans b2
    have sq2 := sqT_but b2 d1 (sqT_but b1 hd sq)
    have kl : k < ts.length := by omega
    have ek : ts[k]? = some ts[k] := List.getElem?_eq_getElem kl
    obtain ⟨okk, szk⟩ := ok _ (List.mem_of_getElem? ek)
    have atk : atI (ts.map vT) (k : Int) = some (vT ts[k]) := atM ek
    have k1 : ((k : Int) + 1) = ((k + 1 : Nat) : Int) := by omega
    -- the end of each way
    have fin : ∀ (mid : List Trm) (n : Nat) (H' : Hp) (p : Addr), mid.length ≤ 3 → (mid.length ≤ 2 ∨ n = k + 1) → k ≤ n → But l H H' → Dice H' l → (∀ t ∈ mid, Ok t ∧ size t ≤ 200) → SqT K H' p ((ts.take k ++ (mid ++ ts.drop n)).map vT) → Q (.ref p) H' := fun mid n H' p ml1 ml2 kn bb dd om sqq => by
      have ll : (ts.take k ++ (mid ++ ts.drop n)).length ≤ ts.length + 2 := by
        rw [List.length_append, List.length_append, List.length_take, List.length_drop]
        omega
      refine q H' p _ bb dd ⟨sqq, by omega, fun t ht => ?_⟩ ll
      rcases List.mem_append.mp ht with ht | ht
      · have := ok t (List.mem_of_mem_take ht)
        exact ⟨this.1, by omega⟩
      · rcases List.mem_append.mp ht with ht | ht
        · exact om t ht
        · have := ok t (List.mem_of_mem_drop ht)
          exact ⟨this.1, by omega⟩
    have tl : (List.take k (ts.map vT)).length ≤ 500 := by
      rw [List.length_take, List.length_map]
      omega
    have dl : ∀ n, (List.drop n (ts.map vT)).length ≤ 500 := fun n => by
      rw [List.length_drop, List.length_map]
      omega
    refine ⟨_, rfl, rfl, _, rfl, ?_⟩
    by_cases e0 : wy = 0
    · refine iteTo (decide_eq_true (congrArg V.int e0)) ?_
      refine ⟨_, rfl, _, rfl, _, rfl, c, _, rfl, sq2, fun r1 H3 s3 sq3 => ?_⟩
      rw [cutV_to] at sq3
      refine ⟨_, rfl, _, rfl, _, _, rfl, rfl, _, rfl, c, _, rfl, sqT_same s3 sq2, fun r2 H4 s4 sq4 => ?_⟩
      rw [k1, cutV_from] at sq4
      have := dl (k + 1)
      refine ⟨r1, r2, _, _, rfl, rfl, sqT_same s4 sq3, sq4, by omega, fun r3 H5 s5 sq5 => ?_⟩
      have s := (s3.trans s4).trans s5
      refine fin [] (k + 1) H5 r3 (by simp) (.inr rfl) (by omega) (b12.same s) (d2.same s) (fun _ h => by cases h) ?_
      rw [List.nil_append, List.map_append, List.map_take, List.map_drop]
      exact sq5
    refine iteFo (decide_eq_false (fun z => e0 (V.int.inj z))) ?_
    refine ⟨_, rfl, rfl, _, rfl, ?_⟩
    by_cases e1 : wy = 1
    · refine iteTo (decide_eq_true (congrArg V.int e1)) ?_
      refine ⟨_, rfl, _, rfl, _, rfl, c, _, rfl, sq2, fun r1 H3 s3 sq3 => ?_⟩
      rw [cutV_to] at sq3
      have sq23 := sqT_same s3 sq2
      refine ⟨_, rfl, _, rfl, c, _, _, _, rfl, rfl, sq23, atk, (by show 1 ≤ sizeLine; decide), fun T nT => ?_⟩
      have sT := sameUpd (o := .tup [vT ts[k]]) nT
      refine ⟨r1, T, _, _, rfl, rfl, sqT_same sT sq3, .inl (.inl upd_same), ?_, fun r3 H5 s5 sq5 => ?_⟩
      · simp only [List.length_cons, List.length_nil]
        omega
      have s45 := sT.trans s5
      refine ⟨_, rfl, _, rfl, _, rfl, c, _, rfl, sqT_same s45 sq23, fun r2 H6 s6 sq6 => ?_⟩
      rw [cutV_from] at sq6
      have := dl k
      refine ⟨r3, r2, _, _, rfl, rfl, sqT_same s6 sq5, sq6, ?_, fun r4 H7 s7 sq7 => ?_⟩
      · rw [List.length_append]
        simp only [List.length_cons, List.length_nil]
        omega
      have s := ((s3.trans s45).trans s6).trans s7
      refine fin [ts[k]] k H7 r4 (by simp) (.inl (by simp)) (by omega) (b12.same s) (d2.same s) (fun t h => by
        have : t = ts[k] := by simpa using h
        rw [this]
        exact ⟨okk, by omega⟩) ?_
      rw [List.append_assoc] at sq7
      rw [List.map_append, List.map_append, List.map_take, List.map_drop]
      exact sq7
    refine iteFo (decide_eq_false (fun z => e1 (V.int.inj z))) ?_
    refine ⟨_, rfl, rfl, _, rfl, ?_⟩
    by_cases e2 : wy = 2
    · refine iteTo (decide_eq_true (congrArg V.int e2)) ?_
      refine ⟨_, rfl, _, rfl, _, rfl, l, 4, rfl, d2, by decide, by decide, fun H3 x b3 d3 x0 x1 => ?_⟩
      have b13 := b12.trans b3
      have sq3 := sqT_but b3 d2 sq2
      obtain ⟨x', rfl⟩ := Int.eq_ofNat_of_zero_le x0
      refine ⟨_, _, rfl, rfl, l, ls, 1 + x', rfl, d3, lt, by omega, by omega, by omega, fun H4 g b4 d4 og sg => ?_⟩
      have b14 := b13.trans b4
      have sq4 := sqT_but b4 d3 sq3
      refine ⟨_, rfl, _, rfl, _, rfl, c, _, rfl, sq4, fun r1 H5 s5 sq5 => ?_⟩
      rw [cutV_to] at sq5
      refine ⟨_, rfl, (by show 1 ≤ sizeLine; decide), fun T nT => ?_⟩
      have sT := sameUpd (o := .tup [vT g]) nT
      refine ⟨r1, T, _, _, rfl, rfl, sqT_same sT sq5, .inl (.inl upd_same), ?_, fun r3 H6 s6 sq6 => ?_⟩
      · simp only [List.length_cons, List.length_nil]
        omega
      have s46 := (s5.trans sT).trans s6
      refine ⟨_, rfl, _, rfl, _, _, rfl, rfl, _, rfl, c, _, rfl, sqT_same s46 sq4, fun r2 H7 s7 sq7 => ?_⟩
      rw [k1, cutV_from] at sq7
      have := dl (k + 1)
      refine ⟨r3, r2, _, _, rfl, rfl, sqT_same s7 sq6, sq7, ?_, fun r4 H8 s8 sq8 => ?_⟩
      · rw [List.length_append]
        simp only [List.length_cons, List.length_nil]
        omega
      have s := (s46.trans s7).trans s8
      refine fin [g] (k + 1) H8 r4 (by simp) (.inr rfl) (by omega) (b14.same s) (d4.same s) (fun t h => by
        have : t = g := by simpa using h
        rw [this]
        exact ⟨og, by omega⟩) ?_
      rw [List.append_assoc] at sq8
      rw [List.map_append, List.map_append, List.map_take, List.map_drop]
      exact sq8
    refine iteFo (decide_eq_false (fun z => e2 (V.int.inj z))) ?_
    refine ⟨_, rfl, _, rfl, c, _, _, _, rfl, rfl, sq2, atk, ?_⟩
    refine ⟨_, rfl, _, rfl, _, rfl, c, _, _, _, rfl, rfl, sq2, atk, _, rfl, l, ts[k], ls, rfl, d2, okk, by omega, lt, fun H3 g b3 d3 og sg ng => ?_⟩
    have b13 := b12.trans b3
    have sq3 := sqT_but b3 d2 sq2
    refine ⟨_, rfl, _, rfl, c, _, _, _, rfl, rfl, sq3, atk, (by show 3 ≤ sizeLine; decide), fun T nT => ?_⟩
    have sT := sameUpd (o := .tup [vT ts[k], vT g, vT ts[k]]) nT
    have hT : (upd H3 T (.tup [vT ts[k], vT g, vT ts[k]])) T = some (.tup [vT ts[k], vT g, vT ts[k]]) := upd_same
    have d4 := d3.same sT
    have b14 := b13.same sT
    have sq4 := sqT_same sT sq3
    refine ⟨_, rfl, _, rfl, _, rfl, c, _, rfl, sq4, fun r1 H5 s5 sq5 => ?_⟩
    rw [cutV_to] at sq5
    refine ⟨_, rfl, r1, T, _, _, rfl, rfl, sq5, .inl (.inl (s5 _ _ hT)), ?_, fun r3 H6 s6 sq6 => ?_⟩
    · simp only [List.length_cons, List.length_nil]
      omega
    have s46 := s5.trans s6
    refine ⟨_, rfl, _, rfl, _, _, rfl, rfl, _, rfl, c, _, rfl, sqT_same s46 sq4, fun r2 H7 s7 sq7 => ?_⟩
    rw [k1, cutV_from] at sq7
    have := dl (k + 1)
    refine ⟨r3, r2, _, _, rfl, rfl, sqT_same s7 sq6, sq7, ?_, fun r4 H8 s8 sq8 => ?_⟩
    · rw [List.length_append]
      simp only [List.length_cons, List.length_nil]
      omega
    have s := (s46.trans s7).trans s8
    refine fin [ts[k], g, ts[k]] (k + 1) H8 r4 (by simp) (.inr rfl) (by omega) (b14.same s) (d4.same s) (fun t h => ?_) ?_
    · simp only [List.mem_cons, List.mem_nil_iff, or_false] at h
      rcases h with rfl | rfl | rfl
      · exact ⟨okk, by omega⟩
      · exact ⟨og, by omega⟩
      · exact ⟨okk, by omega⟩
    · rw [List.append_assoc] at sq8
      rw [List.map_append, List.map_append, List.map_take, List.map_drop]
      exact sq8
end
end K78

set_option maxHeartbeats 16000000
namespace K78
open PySem PySem.Spec PyProof.Rows L2 GG MT
abbrev sRight : Stmt := topS 40
theorem scRight : FnScope ["dice", "letters", "chain", "turn", "steps", "is_down", "fresh", "one", "other", "some", "third", "first", "second", "pairs", "more", "due", "odd", "value"] ["dice", "letters"] (defScope sRight) := ⟨rfl, rfl, rfl, by decide +kernel, rfl, by decide +kernel, by decide +kernel⟩
def spRight : Sp := fun vs H Q _ => ∃ (l : Addr) (ls : List Nat), vs = [.ref l, .str (S ls)] ∧ Dice H l ∧ Lets ls ∧ ∀ H', But l H H' → Dice H' l → Q (.bl true) H'
theorem StepR.but {H H' : Hp} {l : Addr} {st : Nat × Nat × List Nat} {v : V} (h : StepR H st v) (hb : But l H H') (hd : Dice H l) : StepR H' st v := by
  obtain ⟨q, rfl, hq⟩ := h
  obtain ⟨_, _, _, e, _⟩ := hd
  exact ⟨q, rfl, hb _ _ (fun z => by rw [z, e] at hq; cases hq) hq⟩
/-- the chain so far -/
structure ChS (K : PySem.W.Frag) (H : Hp) (l c : Addr) (t0 : Trm) (ts : List Trm) (H2 : Hp) : Prop where
  but : But l H H2
  dice : Dice H2 l
  seq : SqT K H2 c (ts.map vT)
  ok : ∀ t ∈ ts, Ok t ∧ size t ≤ 82 ∧ nf t = nf t0
theorem ChS.same {K : PySem.W.Frag} {H H2 H3 : Hp} {l c : Addr} {t0 : Trm} {ts : List Trm} (h : ChS K H l c t0 ts H2) (s : Same H2 H3) : ChS K H l c t0 ts H3 := ⟨h.but.same s, h.dice.same s, sqT_same s h.seq, h.ok⟩
theorem ChS.go {K : PySem.W.Frag} {H H2 H3 : Hp} {l c : Addr} {t0 : Trm} {ts : List Trm} (h : ChS K H l c t0 ts H2) (b : But l H2 H3) (d : Dice H3 l) : ChS K H l c t0 ts H3 := ⟨h.but.trans b, d, sqT_but b h.dice h.seq, h.ok⟩
theorem sqT_upd {K : PySem.W.Frag} {H : Hp} {L c : Addr} {xs0 : List V} {o : HO} {xs : List V} (e : H L = some (.lst xs0)) (h : SqT K H c xs) : SqT K (upd H L o) c xs := by
  rcases h with (h | ⟨o', h⟩) | h
  · exact .inl (.inl (by rw [upd_ne (fun z => by rw [z, e] at h; cases h)]; exact h))
  · exact .inl (.inr ⟨o', by rw [upd_ne (fun z => by rw [z, e] at h; cases h)]; exact h⟩)
  · exact .inr h
theorem TrT.upd {K : PySem.W.Frag} {H : Hp} {L c : Addr} {xs0 : List V} {o : HO} {ts : List Trm} (h : TrT K H c ts) (e : H L = some (.lst xs0)) : TrT K (upd H L o) c ts := ⟨sqT_upd e h.seq, h.few, h.ok⟩
/-- two chains in a tuple -/
def PairT (K : PySem.W.Frag) (H : Hp) (v : V) : Prop := ∃ T a b as bs, v = .ref T ∧ H T = some (.tup [.ref a, .ref b]) ∧ TrT K H a as ∧ TrT K H b bs ∧ as.length ≤ 400 ∧ bs.length ≤ 400
theorem PairT.same {K : PySem.W.Frag} {H H' : Hp} {v : V} (h : PairT K H v) (s : Same H H') : PairT K H' v := by
  obtain ⟨T, a, b, as, bs, e, hT, ta, tb, la, lb⟩ := h
  exact ⟨T, a, b, as, bs, e, s _ _ hT, ta.same s, tb.same s, la, lb⟩
theorem PairT.but {K : PySem.W.Frag} {H H' : Hp} {l : Addr} {v : V} (h : PairT K H v) (hb : But l H H') (hd : Dice H l) : PairT K H' v := by
  obtain ⟨T, a, b, as, bs, e, hT, ta, tb, la, lb⟩ := h
  refine ⟨T, a, b, as, bs, e, hb _ _ (fun z => ?_) hT, ta.but hb hd, tb.but hb hd, la, lb⟩
  obtain ⟨_, _, _, e2, _⟩ := hd
  rw [z, e2] at hT
  cases hT
theorem PairT.upd {K : PySem.W.Frag} {H : Hp} {L : Addr} {xs0 : List V} {o : HO} {v : V} (h : PairT K H v) (e : H L = some (.lst xs0)) : PairT K (upd H L o) v := by
  obtain ⟨T, a, b, as, bs, ev, hT, ta, tb, la, lb⟩ := h
  exact ⟨T, a, b, as, bs, ev, by rw [upd_ne (fun z => by rw [z, e] at hT; cases hT)]; exact hT, ta.upd e, tb.upd e, la, lb⟩
theorem due_eq {t u : Trm} {as bs : List Trm} (la : as.length ≤ 400) (lb : bs.length ≤ 400) : paperB t u (.str "unequal") [some as, some bs] = ((decide (1 ≤ as.length) && leadB t as) && ((decide (1 ≤ bs.length) && leadB u bs) && !decide (as.getLast? = bs.getLast?))) := by
  show (goodN as.length && (goodN bs.length && (isKey (.str "unequal") "unequal" && (leadB t as && (leadB u bs && !decide (as.getLast? = bs.getLast?)))))) = _
  rw [show isKey (.str "unequal") "unequal" = true by decide +kernel]
  unfold goodN
  rw [decide_eq_true la, decide_eq_true lb]
  generalize decide (1 ≤ as.length) = a
  generalize decide (1 ≤ bs.length) = b
  generalize leadB t as = x
  generalize leadB u bs = y
  generalize (!decide (as.getLast? = bs.getLast?)) = z
  cases a <;> cases b <;> cases x <;> cases y <;> cases z <;> rfl
theorem ChS.trt {K : PySem.W.Frag} {H H2 : Hp} {l c : Addr} {t0 : Trm} {ts : List Trm} (h : ChS K H l c t0 ts H2) (n : ts.length ≤ 1000) : TrT K H2 c ts := ⟨h.seq, n, fun t ht => ⟨(h.ok t ht).1, by
  have := (h.ok t ht).2.1
  omega⟩⟩
/-- what is no paper -/
def OddV (K : PySem.W.Frag) (H : Hp) (t u : Trm) (v : V) : Prop := NoTup K H v ∨ (∃ p ws, v = .ref p ∧ SqT K H p ws ∧ ws.length < 2) ∨
  ∃ p k cs es, v = .ref p ∧ SqT K H p (k :: cs) ∧ 1 ≤ cs.length ∧ cs.length ≤ 2 ∧ KeyV k ∧ All2 (fun o v => El K H v o) es cs ∧ paperB t u k es = false
theorem OddV.same {K : PySem.W.Frag} {H H' : Hp} {t u : Trm} {v : V} (h : OddV K H t u v) (s : Same H H') : OddV K H' t u v := by
  rcases h with h | ⟨p, ws, e, h, n⟩ | ⟨p, k, cs, es, e, h, n1, n2, ky, al, pb⟩
  · exact .inl (h.same s)
  · exact .inr (.inl ⟨p, ws, e, sqT_same s h, n⟩)
  · exact .inr (.inr ⟨p, k, cs, es, e, sqT_same s h, n1, n2, ky, al.imp fun _ _ _ g => g.same s, pb⟩)
theorem odd_snoc {K : PySem.W.Frag} {H H' : Hp} {t u : Trm} {xs : List V} {v : V} (h : ∀ x ∈ xs, OddV K H t u x) (s : Same H H') (hv : OddV K H' t u v) : ∀ x ∈ xs ++ [v], OddV K H' t u x := fun x hx => by
  rcases List.mem_append.mp hx with hx | hx
  · exact (h x hx).same s
  · have : x = v := by simpa using hx
    rw [this]
    exact hv
theorem odd_same {K : PySem.W.Frag} {H H' : Hp} {t u : Trm} {xs : List V} (h : ∀ x ∈ xs, OddV K H t u x) (s : Same H H') : ∀ x ∈ xs, OddV K H' t u x := fun x hx => (h x hx).same s
theorem noTup_lst {K : PySem.W.Frag} {H : Hp} {p : Addr} {xs : List V} (e : H p = some (.lst xs)) : NoTup K H (.ref p) := ⟨_, .base (.lst e), by decide +kernel⟩
theorem odd_one {K : PySem.W.Frag} {H : Hp} {t u : Trm} {p : Addr} {k v : V} {o : Option (List Trm)} (h : H p = some (.tup [k, v])) (ky : KeyV k) (e : El K H v o) (pb : paperB t u k [o] = false) : OddV K H t u (.ref p) :=
  .inr (.inr ⟨p, k, [v], [o], rfl, .inl (.inl h), by simp, by simp, ky, ⟨e, trivial⟩, pb⟩)
theorem odd_two {K : PySem.W.Frag} {H : Hp} {t u : Trm} {p : Addr} {k v v' : V} {o o' : Option (List Trm)} (h : H p = some (.tup [k, v, v'])) (ky : KeyV k) (e : El K H v o) (e' : El K H v' o') (pb : paperB t u k [o, o'] = false) : OddV K H t u (.ref p) :=
  .inr (.inr ⟨p, k, [v, v'], [o, o'], rfl, .inl (.inl h), by simp, by simp, ky, ⟨e, e', trivial⟩, pb⟩)
theorem paper_key {t u : Trm} {k : V} {ts : List Trm} (h : isKey k "equal" = false) : paperB t u k [some ts] = false := by
  show (goodN ts.length && (isKey k "equal" && joinB t u ts)) = false
  rw [h, Bool.false_and, Bool.and_false]
theorem paper_key2 {t u : Trm} {k : V} {ts us : List Trm} (h : isKey k "unequal" = false) : paperB t u k [some ts, some us] = false := by
  show (goodN ts.length && (goodN us.length && (isKey k "unequal" && _))) = false
  rw [h, Bool.false_and, Bool.and_false, Bool.and_false]
section
variable {P : Program} {w : World} {K : PySem.W.Frag} {mg : Str → Option Value} {base : Heap}
theorem ok_right {f fR fG fN fI fT fY fS fK fU fD : Addr} {fd fdR fdG fdN fdI fdT fdY fdS fdK fdU fdD : FuncData} (F : Fun K "_law_right" "_law_right" sRight f fd)
    (bR : Binds K fdR ["dice", "total"] []) (bG : Binds K fdG ["dice", "letters", "size"] []) (bN : Binds K fdN ["dice", "chain", "letters"] []) (bI : Binds K fdI ["one", "other", "value"] []) (bT : Binds K fdT ["one", "other", "chain"] []) (bY : Binds K fdY ["term", "chain"] [])
    (bS : Binds K fdS ["term"] []) (bK : Binds K fdK ["dice", "items"] []) (bU : Binds K fdU ["dice", "term", "letters"] []) (bD : Binds K fdD ["dice", "term"] [])
    (GR : FnOk P w K mg base CX0 1 fR fdR ["dice", "total"] spRoll) (GG' : ∀ n, FnOk P w K mg base CX0 (n + 3) fG fdG ["dice", "letters", "size"] (spGrown n)) (GN : FnOk P w K mg base CX0 8 fN fdN ["dice", "chain", "letters"] (spNear K))
    (GI : FnOk P w K mg base CX0 8 fI fdI ["one", "other", "value"] (spIsPaperX K)) (GT : FnOk P w K mg base CX0 6 fT fdT ["one", "other", "chain"] (spTakes K)) (GY : FnOk P w K mg base CX0 6 fY fdY ["term", "chain"] (spTDown K))
    (GS : FnOk P w K mg base CX0 4 fS fdS ["term"] spSteps0) (GK : FnOk P w K mg base CX0 2 fK fdK ["dice", "items"] (spPick K)) (GU : FnOk P w K mg base CX0 3 fU fdU ["dice", "term", "letters"] spUp) (GD : FnOk P w K mg base CX0 5 fD fdD ["dice", "term"] spDown)
    (gR : mg "_law_roll" = some (.ref fR)) (gG : mg "_law_grown_term" = some (.ref fG)) (gN : mg "_law_near" = some (.ref fN)) (gI : mg "is_equality_paper" = some (.ref fI)) (gT : mg "_law_takes" = some (.ref fT)) (gY : mg "_law_takes_down" = some (.ref fY))
    (gS : mg "_law_steps" = some (.ref fS)) (gK : mg "_law_pick" = some (.ref fK)) (gU : mg "_law_up" = some (.ref fU)) (gD : mg "_law_down" = some (.ref fD))
    (kR : PySem.W.keepIn K (.ref fR) = true) (kG : PySem.W.keepIn K (.ref fG) = true) (kN : PySem.W.keepIn K (.ref fN) = true) (kI : PySem.W.keepIn K (.ref fI) = true) (kT : PySem.W.keepIn K (.ref fT) = true) (kY : PySem.W.keepIn K (.ref fY) = true)
    (kS : PySem.W.keepIn K (.ref fS) = true) (kK : PySem.W.keepIn K (.ref fK) = true) (kU : PySem.W.keepIn K (.ref fU) = true) (kD : PySem.W.keepIn K (.ref fD) = true)
    (mp : mg "repr" = none) (mt : mg "tuple" = none) (mq : mg "list" = none) (mr : mg "range" = none) (ml : mg "len" = none) : FnG P w K mg base CX0 10 f fd ["dice", "letters"] spRight := by
  refine fnG0 F scRight (fun vs H Q E h => ?_) (fun cdv A outer s H vs Q E gd hr h => ?_)
  · obtain ⟨l, ls, rfl, _⟩ := h
    rfl
  · obtain ⟨l, ls, rfl, hd, hls, q⟩ := h
    have N := scRight.nd
    have sl := sizeLine_eq
    have un := hr.units
    have hr1 := hr.mono (show 1 ≤ 9 by decide)
    have hr2 := hr.mono (show 2 ≤ 9 by decide)
    have hr3 := hr.mono (show 3 ≤ 9 by decide)
    have hr4 := hr.mono (show 4 ≤ 9 by decide)
    have hr5 := hr.mono (show 5 ≤ 9 by decide)
    have hr6 := hr.mono (show 6 ≤ 9 by decide)
    have hr8 := hr.mono (show 8 ≤ 9 by decide)
    refine ⟨_, PSs.nox (pss_cons (ps_set (i := 2) N rfl (.inl rfl) (pe_tup (pa_cons (pe_call (GG' 6) hr (by rfl) gG kG bG .nil pass0 (pa_cons (pv 0) (pa_cons (pv 1) (pa_cons (pe_op op_add pe_int (pe_call GR hr1 (by rfl) gR kR bR .nil pass0 (pa_cons (pv 0) (pa_cons pe_int pa_nil)))) pa_nil)))) pa_nil)))
      (pss_cons (ps_for PassesOwn.never rfl (pi_range1 (by rfl) mr (pa_cons (pe_call GR hr1 (by rfl) gR kR bR .nil pass0 (pa_cons (pv 0) (pa_cons pe_int pa_nil))) pa_nil)) (pg_name (i := 3) N rfl (.inl rfl))
        (pss_cons (ps_set (i := 4) N rfl (.inl rfl) (pe_call GS hr4 (by rfl) gS kS bS .nil pass0 (pa_cons (pe_ix (ixTupK (K := K) rfl) (pv 2) (pe_un un_neg pe_int) (fun _ _ => rfl)) pa_nil)))
        (C8.pss_cut (ps_set (i := 5) N rfl (.inl rfl) (pe_and (pe_cmpR (op_neD un) (pv 4) (pe_lst pa_nil) (nomark _)) (pe_one (pe_or (pe_cmpR op_gt (pe_callB call_len_str (by rfl) ml PySem.boot_len (pa_cons (pe_ix (ixTupK (K := K) rfl) (pv 2) (pe_un un_neg pe_int) (fun _ _ => rfl)) pa_nil)) pe_int (nomark _)) (pe_one (pe_cmpR op_eq (pe_call GR hr1 (by rfl) gR kR bR .nil pass0 (pa_cons (pv 0) (pa_cons pe_int pa_nil))) pe_int (nomark _)))))))
        (C8.pss_cut (ps_set (i := 6) N rfl (.inl rfl) (pe_ifExp (pt_val (pv 5)) (pe_ix (ixTupK (K := K) rfl) (pe_call GK hr2 (by rfl) gK kK bK .nil pass0 (pa_cons (pv 0) (pa_cons (pv 4) pa_nil))) pe_int (fun _ _ => rfl)) (pe_call GU hr3 (by rfl) gU kU bU .nil pass0 (pa_cons (pv 0) (pa_cons (pe_ix (ixTupK (K := K) rfl) (pv 2) (pe_un un_neg pe_int) (fun _ _ => rfl)) (pa_cons (pv 1) pa_nil))))))
        (pss_one (ps_set (i := 2) N rfl (.inl rfl) (pe_op (catK (K := K) rfl) (pv 2) (pe_tup (pa_cons (pv 6) pa_nil)))))))))
      (C8.pss_cut (ps_asg (pe_tup (pa_cons (pe_ix (ixTupK (K := K) rfl) (pv 2) pe_int (fun _ _ => rfl)) (pa_cons (pe_ix (ixTupK (K := K) rfl) (pv 2) (pe_un un_neg pe_int) (fun _ _ => rfl)) pa_nil))) (pg_tup rfl (pgs_cons (pg_name (i := 7) N rfl (.inr rfl)) (pgs_cons (pg_name (i := 8) N rfl (.inr rfl)) pgs_nil))))
      (pss_cons (ps_for PassesOwn.never rfl (pi_list (pe_lst (pa_cons (pv 2) (pa_cons (pe_call GN hr8 (by rfl) gN kN bN .nil pass0 (pa_cons (pv 0) (pa_cons (pv 2) (pa_cons (pv 1) pa_nil)))) (pa_cons (pe_call GN hr8 (by rfl) gN kN bN .nil pass0 (pa_cons (pv 0) (pa_cons (pv 2) (pa_cons (pv 1) pa_nil)))) pa_nil))))) (pg_name (i := 9) N rfl (.inl rfl))
        (pss_one (ps_if (pt_cmpR op_ne (pe_callB (call_reprD gd hr) (by rfl) mp (by decide +kernel) (pa_cons (pe_call GI hr8 (by rfl) gI kI bI .nil pass0 (pa_cons (pv 7) (pa_cons (pv 8) (pa_cons (pe_tup (pa_cons pe_str (pa_cons (pv 9) pa_nil))) pa_nil)))) pa_nil)) (pe_callB (call_reprD gd hr) (by rfl) mp (by decide +kernel) (pa_cons (pe_call GT hr6 (by rfl) gT kT bT .nil pass0 (pa_cons (pv 7) (pa_cons (pv 8) (pa_cons (pv 9) pa_nil)))) pa_nil)) (nomark _)) (pss_one (ps_ret pe_bl)) pss_nil)))
      (pss_cons (ps_set (i := 10) N rfl (.inl rfl) (pe_call (GG' 6) hr (by rfl) gG kG bG .nil pass0 (pa_cons (pv 0) (pa_cons (pv 1) (pa_cons (pe_op op_add pe_int (pe_call GR hr1 (by rfl) gR kR bR .nil pass0 (pa_cons (pv 0) (pa_cons pe_int pa_nil)))) pa_nil)))))
      (pss_cons (ps_par (by rfl) N (i := 11) (j := 12) rfl rfl (by decide) rfl rfl (pa_cons (pe_callTy call_tuple_of (by rfl) mt (by decide +kernel) (pa_cons (pe_call GD hr5 (by rfl) gD kD bD .nil pass0 (pa_cons (pv 0) (pa_cons (pv 7) pa_nil))) pa_nil)) (pa_cons (pe_callTy call_tuple_of (by rfl) mt (by decide +kernel) (pa_cons (pe_call GD hr5 (by rfl) gD kD bD .nil pass0 (pa_cons (pv 0) (pa_cons (pv 10) pa_nil))) pa_nil)) pa_nil)) (by rfl))
      (pss_cons (ps_set (i := 13) N rfl (.inl rfl) (pe_lst (pa_cons (pe_tup (pa_cons (pv 11) (pa_cons (pv 12) pa_nil))) (pa_cons (pe_tup (pa_cons (pe_slice (slK (K := K) rfl) (pv 11) po_none (po_some (pe_un un_neg pe_int))) (pa_cons (pv 12) pa_nil))) (pa_cons (pe_tup (pa_cons (pe_call GN hr8 (by rfl) gN kN bN .nil pass0 (pa_cons (pv 0) (pa_cons (pv 11) (pa_cons (pv 1) pa_nil)))) (pa_cons (pv 12) pa_nil))) pa_nil)))))
      (pss_cons (ps_expr (pe_bm PySem.F.plainAttrs_list PySem.F.slot_list_append PySem.F.type_list_append mt_append (pv 13) (pa_cons (pe_tup (pa_cons (pv 11) (pa_cons (pe_call GN hr8 (by rfl) gN kN bN .nil pass0 (pa_cons (pv 0) (pa_cons (pv 12) (pa_cons (pv 1) pa_nil)))) pa_nil))) pa_nil)))
      (pss_cons (ps_for PassesOwn.never rfl (pi_list (pe_op op_cat (pv 13) (pe_lst (pa_cons (pe_tup (pa_cons (pv 12) (pa_cons (pv 11) pa_nil))) (pa_cons (pe_tup (pa_cons (pv 11) (pa_cons (pv 11) pa_nil))) pa_nil))))) (pg_tup rfl (pgs_cons (pg_name (i := 9) N rfl (.inl rfl)) (pgs_cons (pg_name (i := 14) N rfl (.inl rfl)) pgs_nil)))
        (C8.pss_cut (ps_set (i := 15) N rfl (.inl rfl) (pe_and (pe_call GY hr6 (by rfl) gY kY bY .nil pass0 (pa_cons (pv 7) (pa_cons (pv 9) pa_nil))) (pe_and (pe_call GY hr6 (by rfl) gY kY bY .nil pass0 (pa_cons (pv 10) (pa_cons (pv 14) pa_nil))) (pe_one (pe_cmpR op_ne (pe_ix (ixTupK (K := K) rfl) (pv 9) (pe_un un_neg pe_int) (fun _ _ => rfl)) (pe_ix (ixTupK (K := K) rfl) (pv 14) (pe_un un_neg pe_int) (fun _ _ => rfl)) (nomark _))))))
        (pss_one (ps_if (pt_cmpR op_ne (pe_callB (call_reprD gd hr) (by rfl) mp (by decide +kernel) (pa_cons (pe_call GI hr8 (by rfl) gI kI bI .nil pass0 (pa_cons (pv 7) (pa_cons (pv 10) (pa_cons (pe_tup (pa_cons pe_str (pa_cons (pv 9) (pa_cons (pv 14) pa_nil)))) pa_nil)))) pa_nil)) (pe_callB (call_reprD gd hr) (by rfl) mp (by decide +kernel) (pa_cons (pv 15) pa_nil)) (nomark _)) (pss_one (ps_ret pe_bl)) pss_nil))))
      (pss_cons (ps_set (i := 16) N rfl (.inl rfl) (pe_lst (pa_cons pe_non (pa_cons pe_int (pa_cons (pe_tup pa_nil) (pa_cons (pe_tup (pa_cons pe_str pa_nil)) (pa_cons (pe_lst (pa_cons pe_str (pa_cons (pv 2) pa_nil))) (pa_cons (pe_tup (pa_cons pe_str (pa_cons (pe_callTy call_list_of (by rfl) mq (by decide +kernel) (pa_cons (pv 2) pa_nil)) pa_nil))) (pa_cons (pe_tup (pa_cons pe_str (pa_cons (pv 2) pa_nil))) (pa_cons pe_dnewK (pa_cons pe_str pa_nil)))))))))))
      (pss_cons (ps_set (i := 16) N rfl (.inl rfl) (pe_op op_cat (pv 16) (pe_lst (pa_cons (pe_tup (pa_cons pe_str (pa_cons (pv 11) pa_nil))) (pa_cons (pe_tup (pa_cons pe_str (pa_cons (pv 11) (pa_cons pe_non pa_nil)))) (pa_cons (pe_tup (pa_cons pe_str (pa_cons pe_non pa_nil))) (pa_cons (pe_tup (pa_cons pe_str (pa_cons (pe_tup pa_nil) pa_nil))) (pa_cons (pe_tup (pa_cons pe_int (pa_cons (pv 2) pa_nil))) pa_nil))))))))
      (pss_cons (ps_set (i := 16) N rfl (.inl rfl) (pe_op op_cat (pv 16) (pe_lst (pa_cons (pe_tup (pa_cons pe_str (pa_cons (pv 7) pa_nil))) (pa_cons (pe_tup (pa_cons pe_str (pa_cons (pv 2) (pa_cons (pv 2) pa_nil)))) pa_nil)))))
      (pss_one (ps_ret (pe_cmpR (op_eqD un) (pe_lc (own := [("value", 17)]) (g := gName 17) rfl N (pi_list (pv 16)) (blkOk_by (own := [("value", 17)]) (N := ["dice", "letters", "chain", "turn", "steps", "is_down", "fresh", "one", "other", "some", "third", "first", "second", "pairs", "more", "due", "odd", "value"]) (sc := defScope sRight) (by decide +kernel))
        (fun _ _ _ _ _ => pg_name (i := 17) N rfl (Or.inl rfl)) (fun _ _ _ _ _ => pts_one (pt_cmpR op_notBl (pe_call GI hr8 (by rfl) gI kI bI .nil pass0 (pa_cons (pv 7) (pa_cons (pv 8) (pa_cons (pv 17) pa_nil)))) pe_bl (nomark _))) (fun _ _ _ _ _ => pv 17)) (pe_lst pa_nil) (nomark _)))))))))))))))), ?_⟩
    refine ⟨_, rfl, _, rfl, _, rfl, l, 6, rfl, hd, by decide, by decide, fun H1 r b1 d1 r0 r1 => ⟨_, _, rfl, rfl, ?_⟩⟩
    obtain ⟨m, rfl⟩ := Int.eq_ofNat_of_zero_le r0
    refine ⟨l, ls, 1 + m, by show [V.ref l, V.str (S ls), V.int (1 + (m : Int))] = _; rw [show (1 : Int) + (m : Int) = ((1 + m : Nat) : Int) by omega], d1, hls, by omega, by omega, by decide, fun H2 t0 b2 d2 ot0 st0 => ?_⟩
    refine ⟨(by show 1 ≤ sizeLine; decide), fun c0 n0 => ?_⟩
    have sc0 := sameUpd (o := .tup [vT t0]) n0
    have zn : size (nf t0) ≤ 6 := by
      have := nf_size t0
      omega
    have C0 : ChS K H l c0 t0 [t0] (upd H2 c0 (.tup [vT t0])) := ⟨(b1.trans b2).same sc0, d2.same sc0, .inl (.inl upd_same), fun t ht => by
      have : t = t0 := by simpa using ht
      subst this
      exact ⟨ot0, by omega, rfl⟩⟩
    refine ⟨_, rfl, l, 6, rfl, C0.dice, by decide, by decide, fun H3 r2 b3 d3 r20 r21 => ⟨_, rfl, by omega, by omega, ?_⟩⟩
    have hn : r2.toNat ≤ 5 := by omega
    generalize r2.toNat = cnt at hn ⊢
    have C3 := C0.go b3 d3
    refine for_range (lo := 0) (fun i σ H4 => ∃ c ts y3 y4 y5 y6, σ = [some (.ref l), some (.str (S ls)), some (.ref c), y3, y4, y5, y6, none, none, none, none, none, none, none, none, none, none, none] ∧ ChS K H l c t0 ts H4 ∧ ts.length = i + 1)
      ⟨_, [t0], _, _, _, _, rfl, C3, rfl⟩ (fun i σ H4 hi hP => ?_) (fun σ H4 hP => ?_)
    · obtain ⟨c, ts, y3, y4, y5, y6, rfl, C4, lt⟩ := hP
      obtain ⟨cur, la, mc⟩ := last_some (ts := ts) (by omega)
      obtain ⟨oc, zc, nc⟩ := C4.ok cur mc
      have fc := flat_len cur
      have at1 := last_at la
      have so := steps_allok oc (show size cur ≤ 200 by omega)
      refine ⟨_, rfl, 1, rfl, c, _, -1, _, rfl, rfl, C4.seq, at1, cur, rfl, oc, by omega, fun H5 p us s5 np hp au => ?_⟩
      have C5 := C4.same s5
      have pl : p ≠ l := fun z => by
        obtain ⟨_, _, _, e1, _⟩ := C4.dice
        rw [z, e1] at np
        cases np
      refine ⟨fun σ' H' => ∃ b : Bool, σ' = [some (.ref l), some (.str (S ls)), some (.ref c), some (.int (0 + (i : Int))), some (.ref p), some (.bl b), y6, none, none, none, none, none, none, none, none, none, none, none] ∧
        ChS K H l c t0 ts H' ∧ H' p = some (.lst us) ∧ All2 (StepR H') (steps cur) us ∧ (b = true → steps cur ≠ []) ∧ (b = false → steps cur = [] ∨ size cur ≤ 40), ?_, ?_⟩
      · refine ⟨_, rfl, (by show 0 ≤ sizeLine; decide), fun p6 n6 => ?_⟩
        have s6 := sameUpd (o := .lst []) n6
        have hp6 := s6 _ _ hp
        have au6 : All2 (StepR (upd H5 p6 (.lst []))) (steps cur) us := au.imp fun _ _ _ g => g.same s6
        have C6 := C5.same s6
        refine ⟨_, _, .lst (.inl (.inl hp6)) (steps_dp au6), .lst (.inl (.inl upd_same)) .nil, steps_shaped so, rfl, ?_⟩
        rw [eqv_nil]
        generalize upd H5 p6 (.lst []) = H6 at hp6 au6 C6 ⊢
        refine ⟨_, rfl, ?_⟩
        by_cases e : steps cur = []
        · rw [decide_eq_true e]
          exact iteF ⟨_, rfl, C6, hp6, au6, (fun z => by cases z), fun _ => .inl e⟩
        · rw [decide_eq_false e]
          refine iteT ⟨_, rfl, 1, rfl, c, _, -1, _, rfl, rfl, C6.seq, at1, S (flat cur), rfl, by rw [S_len]; omega, _, _, rfl, rfl, _, rfl, ?_⟩
          rw [S_len]
          refine ite2 (fun g => ?_) (fun g => ?_)
          · exact ⟨_, rfl, C6, hp6, au6, (fun _ => e), (fun z => by cases z)⟩
          · have small : size cur ≤ 40 := by
              have : ¬ (((flat cur).length : Int) > 80) := fun z => g (decide_eq_true z)
              omega
            refine ⟨_, rfl, l, 2, rfl, C6.dice, by decide, by decide, fun H7 x b7 d7 x0 x1 => ⟨rfl, ?_⟩⟩
            refine ⟨_, rfl, C6.go b7 d7, b7 _ _ pl hp6, au6.imp fun _ _ _ g => g.but b7 C6.dice, fun _ => e, fun _ => .inr small⟩
      · rintro σ' H6 ⟨b, rfl, C6, hp6, au6, bt, bf⟩
        refine ⟨fun σ' H' => ∃ t' : Trm, σ' = [some (.ref l), some (.str (S ls)), some (.ref c), some (.int (0 + (i : Int))), some (.ref p), some (.bl b), some (vT t'), none, none, none, none, none, none, none, none, none, none, none] ∧
          ChS K H l c t0 ts H' ∧ Ok t' ∧ size t' ≤ 82 ∧ nf t' = nf t0, ?_, ?_⟩
        · refine ⟨_, rfl, b, rfl, ?_⟩
          have lu := au6.len
          cases b with
          | true =>
            have ne := bt rfl
            have pos : 0 < us.length := by
              rcases Nat.eq_zero_or_pos us.length with z | z
              · exact absurd (List.eq_nil_of_length_eq_zero (by omega)) ne
              · exact z
            have ln : (steps cur).length ≤ 1000 := by
              have := stepsFrom_len (flat cur) (subs cur) 0
              rw [subs_len] at this
              unfold steps
              omega
            refine iteT ⟨_, rfl, _, rfl, l, p, us, rfl, C6.dice, pl, .inl (.inl (.inl hp6)), pos, by omega, fun H7 j v b7 d7 hv => ?_⟩
            obtain ⟨st, es, qq, rfl, hq⟩ := (au6.imp fun _ _ _ g => StepR.but g b7 C6.dice).get j v hv
            obtain ⟨t', e1, o1, z1, n1⟩ := MT.steps_down oc st (List.mem_of_getElem? es)
            refine ⟨qq, _, 2, _, rfl, rfl, .inl (.inl hq), rfl, t', ?_, C6.go b7 d7, o1, by omega, n1.trans nc⟩
            rw [← e1]
            rfl
          | false =>
            have zc' : size cur ≤ 40 := by
              rcases bf rfl with z | z
              · have : nf cur = cur := steps_nil.mp z
                rw [← this, nc]
                omega
              · exact z
            refine iteF ⟨_, rfl, _, rfl, 1, rfl, c, _, -1, _, rfl, rfl, C6.seq, at1, _, rfl, l, cur, ls, rfl, C6.dice, oc, by omega, hls, fun H7 t' b7 d7 o7 z7 n7 => ?_⟩
            exact ⟨t', rfl, C6.go b7 d7, o7, by omega, n7.trans nc⟩
        · rintro σ' H7 ⟨t', rfl, C7, o7, z7, n7⟩
          refine ⟨_, rfl, _, rfl, (by show 1 ≤ sizeLine; decide), fun T nT => ?_⟩
          have sT := sameUpd (o := .tup [vT t']) nT
          refine ⟨c, T, _, _, rfl, rfl, (C7.same sT).seq, .inl (.inl upd_same), ?_, fun r H8 s8 sq8 => ?_⟩
          · rw [List.length_map]
            simp only [List.length_cons, List.length_nil]
            omega
          have C8 := C7.same (sT.trans s8)
          refine ⟨r, ts ++ [t'], _, _, _, _, rfl, ⟨C8.but, C8.dice, by rw [List.map_append]; exact sq8, fun t ht => ?_⟩, by rw [List.length_append, lt]; rfl⟩
          rcases List.mem_append.mp ht with ht | ht
          · exact C7.ok t ht
          · have : t = t' := by simpa using ht
            rw [this]
            exact ⟨o7, z7, n7⟩
    obtain ⟨c, ts, y3, y4, y5, y6, rfl, C4, lt⟩ := hP
    obtain ⟨one, hd1, m1⟩ := head_some (ts := ts) (by omega)
    obtain ⟨oth, la1, m2⟩ := last_some (ts := ts) (by omega)
    obtain ⟨o1, z1, n1⟩ := C4.ok one m1
    obtain ⟨o2, z2, n2⟩ := C4.ok oth m2
    have bs : ∀ b : Bool, (PyData.bool b).showable = true ∧ (PyData.bool b).hasDict = false ∧ (PyData.bool b).depth ≤ 40 ∧ (PyData.bool b).shown.length ≤ sizeLine := fun b => ⟨rfl, rfl, Nat.zero_le _, by cases b <;> decide +kernel⟩
    refine ⟨fun σ' H' => σ' = [some (.ref l), some (.str (S ls)), some (.ref c), y3, y4, y5, y6, some (vT one), some (vT oth), none, none, none, none, none, none, none, none, none] ∧ ChS K H l c t0 ts H', ?_, ?_⟩
    · refine ⟨_, rfl, c, _, 0, _, rfl, rfl, C4.seq, head_at hd1, ?_⟩
      refine ⟨_, rfl, 1, rfl, c, _, -1, _, rfl, rfl, C4.seq, last_at la1, (by show 2 ≤ sizeLine; decide), fun T nT => ?_⟩
      exact ⟨T, _, rfl, .inl (.inl upd_same), rfl, _, _, rfl, _, _, rfl, rfl, rfl, C4.same (sameUpd nT)⟩
    rintro σ' H5 ⟨rfl, C5⟩
    have ok90 : ∀ t ∈ ts, Ok t ∧ size t ≤ 90 := fun t ht => ⟨(C5.ok t ht).1, by
      have := (C5.ok t ht).2.1
      omega⟩
    refine ⟨_, rfl, _, rfl, _, rfl, _, rfl, l, c, ts, ls, rfl, C5.dice, C5.seq, hls, by omega, by omega, ok90, fun H6 p6 us6 b6 d6 tr6 lu6 => ?_⟩
    have C6 := C5.go b6 d6
    refine ⟨_, rfl, _, rfl, _, rfl, l, c, ts, ls, rfl, d6, C6.seq, hls, by omega, by omega, ok90, fun H7 p7 us7 b7 d7 tr7 lu7 => ?_⟩
    have C7 := C6.go b7 d7
    have tr6' := tr6.but b7 d6
    refine ⟨(by show 3 ≤ sizeLine; decide), fun L nL => ⟨L, rfl, ⟨_, .inl (.inl upd_same)⟩, ?_⟩⟩
    have sL := sameUpd (o := .lst [.ref c, .ref p6, .ref p7]) nL
    have hL : (upd H7 L (.lst [.ref c, .ref p6, .ref p7])) L = some (.lst [.ref c, .ref p6, .ref p7]) := upd_same
    have C8 := C7.same sL
    have tr6L := tr6'.same sL
    have tr7L := tr7.same sL
    generalize upd H7 L (.lst [.ref c, .ref p6, .ref p7]) = H8 at hL C8 tr6L tr7L ⊢
    have trc : TrT K H8 c ts := ⟨C8.seq, by omega, fun t ht => ⟨(C8.ok t ht).1, by
      have := (C8.ok t ht).2.1
      omega⟩⟩
    refine for_it (walk_list (K := K) (a := L) (xs := [V.ref c, V.ref p6, V.ref p7])) (fun i σ H9 => ∃ y9, σ = [some (.ref l), some (.str (S ls)), some (.ref c), y3, y4, y5, y6, some (vT one), some (vT oth), y9, none, none, none, none, none, none, none, none] ∧ Same H8 H9)
      ⟨_, rfl, .refl _⟩ (fun i σ H9 _ hP => ?_) (fun i x0 σ H9 H10 il hP y0 => ?_) (fun σ H9 hP => ?_)
    · obtain ⟨_, _, s9⟩ := hP
      exact .inl (.inl (s9 _ _ hL))
    · obtain ⟨y9, rfl, s9⟩ := hP
      obtain ⟨rfl, hx⟩ := y0
      obtain ⟨cc, us, rfl, tr⟩ : ∃ cc us, x0 = .ref cc ∧ TrT K H8 cc us := by
        have := List.mem_of_getElem? hx
        simp only [List.mem_cons, List.mem_nil_iff, or_false] at this
        rcases this with rfl | rfl | rfl
        · exact ⟨_, _, rfl, trc⟩
        · exact ⟨_, _, rfl, tr6L⟩
        · exact ⟨_, _, rfl, tr7L⟩
      have tr := tr.same s9
      have pk : paperB one oth (.str "equal") [some us] = (goodN us.length && joinB one oth us) := by
        show (goodN us.length && (isKey (.str "equal") "equal" && joinB one oth us)) = _
        rw [show isKey (.str "equal") "equal" = true by decide +kernel, Bool.true_and]
      refine ⟨_, rfl, _, rfl, _, rfl, (by show 2 ≤ sizeLine; decide), fun T nT => ?_⟩
      have sT := sameUpd (o := .tup [.str "equal", .ref cc]) nT
      refine ⟨.ref T, one, oth, rfl, o1, o2, by omega, by omega, .inr (.inr ⟨T, .str "equal", [.ref cc], [some us], rfl, .inl (.inl upd_same), by simp, by simp, .inl ⟨_, rfl⟩, ⟨.yes (tr.same sT), trivial⟩, fun H11 s11 => ?_⟩)⟩
      refine ⟨_, .bool _, rfl, .bl _, bs _, ?_⟩
      refine ⟨_, rfl, _, rfl, _, rfl, cc, us, one, oth, rfl, (tr.same sT).same s11, o1, o2, fun H12 s12 => ?_⟩
      refine ⟨_, .bool _, rfl, .bl _, bs _, rfl, _, rfl, iteFo (neS (by rw [pk])) ?_⟩
      exact ⟨_, rfl, ((s9.trans sT).trans s11).trans s12⟩
    obtain ⟨y9, rfl, s9⟩ := hP
    have C9 := C8.same s9
    clear hL tr6L tr7L trc
    -- the third term, the two chains down
    refine ⟨_, rfl, _, rfl, _, rfl, l, 6, rfl, C9.dice, by decide, by decide, fun H10 r10 b10 d10 r100 r101 => ⟨_, _, rfl, rfl, ?_⟩⟩
    obtain ⟨m3, rfl⟩ := Int.eq_ofNat_of_zero_le r100
    refine ⟨l, ls, 1 + m3, by show [V.ref l, V.str (S ls), V.int (1 + (m3 : Int))] = _; rw [show (1 : Int) + (m3 : Int) = ((1 + m3 : Nat) : Int) by omega], d10, hls, by omega, by omega, by decide, fun H11 t3 b11 d11 o3 z3 => ?_⟩
    have C11 := (C9.go b10 d10).go b11 d11
    refine ⟨_, rfl, _, rfl, l, one, rfl, d11, o1, by omega, fun H12 q1 fs b12 d12 nq1 hq1 ch1 => ?_⟩
    refine ⟨q1, fs.map vT, rfl, .inl ⟨.inl (.inl hq1), fun a1 na1 => ?_⟩⟩
    have s13 := sameUpd (o := .tup (fs.map vT)) na1
    have C13 := (C11.go b12 d12).same s13
    have okf : ∀ t ∈ fs, Ok t ∧ size t ≤ 90 := fun t ht => ⟨(ch1.ok t ht).1, by
      have := (ch1.ok t ht).2
      omega⟩
    have lf := ch1.len
    have lf1 : 1 ≤ fs.length := by
      obtain ⟨us, u, e, _⟩ := ch1.last
      rw [e, List.length_append]
      simp
    have tr1 : TrT K (upd H12 a1 (.tup (fs.map vT))) a1 fs := ⟨.inl (.inl upd_same), by omega, fun t ht => ⟨(okf t ht).1, by
      have := (okf t ht).2
      omega⟩⟩
    generalize upd H12 a1 (.tup (fs.map vT)) = H13 at C13 tr1 ⊢
    refine ⟨_, rfl, _, rfl, l, t3, rfl, C13.dice, o3, by omega, fun H14 q2 gs b14 d14 nq2 hq2 ch2 => ?_⟩
    refine ⟨q2, gs.map vT, rfl, .inl ⟨.inl (.inl hq2), fun a2 na2 => ⟨_, _, rfl, ?_⟩⟩⟩
    have s15 := sameUpd (o := .tup (gs.map vT)) na2
    have C15 := (C13.go b14 d14).same s15
    have tr1 := (tr1.but b14 C13.dice).same s15
    have okg : ∀ t ∈ gs, Ok t ∧ size t ≤ 90 := fun t ht => ⟨(ch2.ok t ht).1, by
      have := (ch2.ok t ht).2
      omega⟩
    have lg := ch2.len
    have lg1 : 1 ≤ gs.length := by
      obtain ⟨us, u, e, _⟩ := ch2.last
      rw [e, List.length_append]
      simp
    have tr2 : TrT K (upd H14 a2 (.tup (gs.map vT))) a2 gs := ⟨.inl (.inl upd_same), by omega, fun t ht => ⟨(okg t ht).1, by
      have := (okg t ht).2
      omega⟩⟩
    generalize upd H14 a2 (.tup (gs.map vT)) = H15 at C15 tr1 tr2 ⊢
    -- the pairs
    refine ⟨_, rfl, _, rfl, (by show 2 ≤ sizeLine; decide), fun T1 nT1 => ?_⟩
    have sT1 := sameUpd (o := .tup [.ref a1, .ref a2]) nT1
    have C16 := C15.same sT1
    have tr1 := tr1.same sT1
    have tr2 := tr2.same sT1
    have P1 : PairT K (upd H15 T1 (.tup [.ref a1, .ref a2])) (.ref T1) := ⟨T1, a1, a2, fs, gs, rfl, upd_same, tr1, tr2, by omega, by omega⟩
    generalize upd H15 T1 (.tup [.ref a1, .ref a2]) = H16 at C16 tr1 tr2 P1 ⊢
    refine ⟨_, rfl, 1, rfl, -1, rfl, a1, _, rfl, tr1.seq, fun e1 H17 s17 sq17 => ?_⟩
    rw [cutV_init, ← List.map_dropLast] at sq17
    have C17 := C16.same s17
    have tr1 := tr1.same s17
    have tr2 := tr2.same s17
    have P1 := P1.same s17
    have tre : TrT K H17 e1 fs.dropLast := ⟨sq17, by rw [List.length_dropLast]; omega, fun t ht => tr1.ok t (List.dropLast_subset _ ht)⟩
    refine ⟨_, rfl, (by show 2 ≤ sizeLine; decide), fun T2 nT2 => ?_⟩
    have sT2 := sameUpd (o := .tup [.ref e1, .ref a2]) nT2
    have C18 := C17.same sT2
    have tr1 := tr1.same sT2
    have tr2 := tr2.same sT2
    have P1 := P1.same sT2
    have P2 : PairT K (upd H17 T2 (.tup [.ref e1, .ref a2])) (.ref T2) := ⟨T2, e1, a2, fs.dropLast, gs, rfl, upd_same, tre.same sT2, tr2, by rw [List.length_dropLast]; omega, by omega⟩
    clear tre sq17
    generalize upd H17 T2 (.tup [.ref e1, .ref a2]) = H18 at C18 tr1 tr2 P1 P2 ⊢
    refine ⟨_, rfl, _, rfl, _, rfl, l, a1, fs, ls, rfl, C18.dice, tr1.seq, hls, lf1, by omega, okf, fun H19 p19 us19 b19 d19 tr19 lu19 => ?_⟩
    have C19 := C18.go b19 d19
    have tr1 := tr1.but b19 C18.dice
    have tr2 := tr2.but b19 C18.dice
    have P1 := P1.but b19 C18.dice
    have P2 := P2.but b19 C18.dice
    refine ⟨_, rfl, (by show 2 ≤ sizeLine; decide), fun T3 nT3 => ?_⟩
    have sT3 := sameUpd (o := .tup [.ref p19, .ref a2]) nT3
    have C20 := C19.same sT3
    have tr1 := tr1.same sT3
    have tr2 := tr2.same sT3
    have P1 := P1.same sT3
    have P2 := P2.same sT3
    have P3 : PairT K (upd H19 T3 (.tup [.ref p19, .ref a2])) (.ref T3) := ⟨T3, p19, a2, us19, gs, rfl, upd_same, tr19.same sT3, tr2, by omega, by omega⟩
    generalize upd H19 T3 (.tup [.ref p19, .ref a2]) = H20 at C20 tr1 tr2 P1 P2 P3 ⊢
    refine ⟨(by show 3 ≤ sizeLine; decide), fun L2 nL2 => ?_⟩
    have hLn : ∀ b o, b ≠ l → H b = some o → b ≠ L2 := fun b o nb eb z => by
      have := C20.but _ _ nb eb
      rw [z, nL2] at this
      cases this
    have lL2 : l ≠ L2 := by
      obtain ⟨_, _, _, e, _⟩ := C20.dice
      exact ne_of_none e nL2
    have sL2 := sameUpd (o := .lst [.ref T1, .ref T2, .ref T3]) nL2
    have C21 := C20.same sL2
    have tr1 := tr1.same sL2
    have tr2 := tr2.same sL2
    have P1 := P1.same sL2
    have P2 := P2.same sL2
    have P3 := P3.same sL2
    have hL2 : (upd H20 L2 (.lst [.ref T1, .ref T2, .ref T3])) L2 = some (.lst [.ref T1, .ref T2, .ref T3]) := upd_same
    generalize upd H20 L2 (.lst [.ref T1, .ref T2, .ref T3]) = H21 at C21 tr1 tr2 P1 P2 P3 hL2 ⊢
    refine ⟨_, rfl, .inl ⟨rfl, _, .inl (.inl hL2)⟩, ?_⟩
    refine ⟨_, rfl, _, rfl, _, rfl, _, rfl, l, a2, gs, ls, rfl, C21.dice, tr2.seq, hls, lg1, by omega, okg, fun H22 p22 us22 b22 d22 tr22 lu22 => ?_⟩
    have C22 := C21.go b22 d22
    have tr1 := tr1.but b22 C21.dice
    have tr2 := tr2.but b22 C21.dice
    have P1 := P1.but b22 C21.dice
    have P2 := P2.but b22 C21.dice
    have P3 := P3.but b22 C21.dice
    have hL2 := b22 _ _ (Ne.symm lL2) hL2
    refine ⟨(by show 2 ≤ sizeLine; decide), fun T4 nT4 => ?_⟩
    have sT4 := sameUpd (o := .tup [.ref a1, .ref p22]) nT4
    have C23 := C22.same sT4
    have tr1 := tr1.same sT4
    have tr2 := tr2.same sT4
    have P1 := P1.same sT4
    have P2 := P2.same sT4
    have P3 := P3.same sT4
    have hL2 := sT4 _ _ hL2
    have P4 : PairT K (upd H22 T4 (.tup [.ref a1, .ref p22])) (.ref T4) := ⟨T4, a1, p22, fs, us22, rfl, upd_same, tr1, tr22.same sT4, by omega, by omega⟩
    generalize upd H22 T4 (.tup [.ref a1, .ref p22]) = H23 at C23 tr1 tr2 P1 P2 P3 P4 hL2 ⊢
    refine ⟨L2, _, _, rfl, rfl, hL2, (by show 3 + 1 ≤ sizeLine; decide), ?_⟩
    have C24 : ChS K H l c t0 ts (upd H23 L2 (.lst ([.ref T1, .ref T2, .ref T3] ++ [.ref T4]))) := by
      obtain ⟨da, db, dc, de, dp⟩ := C23.dice
      refine ⟨fun b o nb eb => ?_, ⟨da, db, dc, by rw [upd_ne lL2]; exact de, dp⟩, sqT_upd hL2 C23.seq, C23.ok⟩
      rw [upd_ne (hLn b o nb eb)]
      exact C23.but _ _ nb eb
    have tr1 := tr1.upd (o := .lst ([.ref T1, .ref T2, .ref T3] ++ [.ref T4])) hL2
    have tr2 := tr2.upd (o := .lst ([.ref T1, .ref T2, .ref T3] ++ [.ref T4])) hL2
    have P1 := P1.upd (o := .lst ([.ref T1, .ref T2, .ref T3] ++ [.ref T4])) hL2
    have P2 := P2.upd (o := .lst ([.ref T1, .ref T2, .ref T3] ++ [.ref T4])) hL2
    have P3 := P3.upd (o := .lst ([.ref T1, .ref T2, .ref T3] ++ [.ref T4])) hL2
    have P4 := P4.upd (o := .lst ([.ref T1, .ref T2, .ref T3] ++ [.ref T4])) hL2
    have hL2' : (upd H23 L2 (.lst ([.ref T1, .ref T2, .ref T3] ++ [.ref T4]))) L2 = some (.lst ([.ref T1, .ref T2, .ref T3] ++ [.ref T4])) := upd_same
    clear hL2
    generalize upd H23 L2 (.lst ([.ref T1, .ref T2, .ref T3] ++ [.ref T4])) = H24 at C24 tr1 tr2 P1 P2 P3 P4 hL2' ⊢
    -- the loop over six pairs
    refine ⟨_, rfl, _, rfl, _, rfl, (by show 2 ≤ sizeLine; decide), fun T5 nT5 => ?_⟩
    have s5 := sameUpd (o := .tup [.ref a2, .ref a1]) nT5
    have P5 : PairT K (upd H24 T5 (.tup [.ref a2, .ref a1])) (.ref T5) := ⟨T5, a2, a1, gs, fs, rfl, upd_same, tr2.same s5, tr1.same s5, by omega, by omega⟩
    refine ⟨_, rfl, _, rfl, (by show 2 ≤ sizeLine; decide), fun T6 nT6 => ?_⟩
    have s6 := sameUpd (o := .tup [.ref a1, .ref a1]) nT6
    have P6 : PairT K (upd (upd H24 T5 (.tup [.ref a2, .ref a1])) T6 (.tup [.ref a1, .ref a1])) (.ref T6) := ⟨T6, a1, a1, fs, fs, rfl, upd_same, (tr1.same s5).same s6, (tr1.same s5).same s6, by omega, by omega⟩
    have s56 := s5.trans s6
    have P5 := P5.same s6
    have P1 := P1.same s56
    have P2 := P2.same s56
    have P3 := P3.same s56
    have P4 := P4.same s56
    have hL2 := s56 _ _ hL2'
    have C26 := C24.same s56
    have tr1 := tr1.same s56
    generalize upd (upd H24 T5 (.tup [.ref a2, .ref a1])) T6 (.tup [.ref a1, .ref a1]) = H26 at C26 tr1 P1 P2 P3 P4 P5 P6 hL2 ⊢
    refine ⟨(by show 2 ≤ sizeLine; decide), fun L3 nL3 => ?_⟩
    have sL3 := sameUpd (o := .lst [.ref T5, .ref T6]) nL3
    refine ⟨L2, L3, _, _, rfl, rfl, sL3 _ _ hL2, upd_same, (by show 6 ≤ sizeLine; decide), fun L4 nL4 => ⟨L4, rfl, ⟨_, .inl (.inl upd_same)⟩, ?_⟩⟩
    have sL4 := sameUpd (o := .lst ([.ref T1, .ref T2, .ref T3] ++ [.ref T4] ++ [.ref T5, .ref T6])) nL4
    have s34 := sL3.trans sL4
    have all : ∀ v ∈ ([.ref T1, .ref T2, .ref T3] ++ [.ref T4] ++ [.ref T5, .ref T6] : List V), PairT K (upd (upd H26 L3 (.lst [.ref T5, .ref T6])) L4 (.lst ([.ref T1, .ref T2, .ref T3] ++ [.ref T4] ++ [.ref T5, .ref T6]))) v := fun v hv => by
      simp only [List.mem_append, List.mem_cons, List.mem_nil_iff, or_false] at hv
      rcases hv with ((rfl | rfl | rfl) | rfl) | (rfl | rfl)
      · exact P1.same s34
      · exact P2.same s34
      · exact P3.same s34
      · exact P4.same s34
      · exact P5.same s34
      · exact P6.same s34
    have C28 := C26.same s34
    have tr1 := tr1.same s34
    have hL4 : (upd (upd H26 L3 (.lst [.ref T5, .ref T6])) L4 (.lst ([.ref T1, .ref T2, .ref T3] ++ [.ref T4] ++ [.ref T5, .ref T6]))) L4 = some (.lst ([.ref T1, .ref T2, .ref T3] ++ [.ref T4] ++ [.ref T5, .ref T6])) := upd_same
    clear P1 P2 P3 P4 P5 P6 hL2 hL2'
    generalize upd (upd H26 L3 (.lst [.ref T5, .ref T6])) L4 (.lst ([.ref T1, .ref T2, .ref T3] ++ [.ref T4] ++ [.ref T5, .ref T6])) = H28 at C28 tr1 all hL4 ⊢
    refine for_it (walk_list (K := K) (a := L4) (xs := [.ref T1, .ref T2, .ref T3] ++ [.ref T4] ++ [.ref T5, .ref T6])) (fun i σ H9 => ∃ y9 y14 y15, σ = [some (.ref l), some (.str (S ls)), some (.ref c), y3, y4, y5, y6, some (vT one), some (vT oth), y9, some (vT t3), some (.ref a1), some (.ref a2), some (.ref L2), y14, y15, none, none] ∧ Same H28 H9)
      ⟨_, _, _, rfl, .refl _⟩ (fun i σ H9 _ hP => ?_) (fun i x0 σ H9 H10 il hP y0 => ?_) (fun σ H9 hP => ?_)
    · obtain ⟨_, _, _, _, s9⟩ := hP
      exact .inl (.inl (s9 _ _ hL4))
    · obtain ⟨y9, y14, y15, rfl, s9⟩ := hP
      obtain ⟨rfl, hx⟩ := y0
      obtain ⟨T, a, b, as, bs', rfl, hT, ta, tb, la, lb⟩ := (all x0 (List.mem_of_getElem? hx)).same s9
      refine ⟨T, _, rfl, .inl (.inl hT), rfl, _, _, rfl, _, _, rfl, rfl, ?_⟩
      generalize hdue : ((decide (1 ≤ as.length) && leadB one as) && ((decide (1 ≤ bs'.length) && leadB t3 bs') && !decide (as.getLast? = bs'.getLast?))) = due
      refine ⟨fun σ' H' => σ' = [some (.ref l), some (.str (S ls)), some (.ref c), y3, y4, y5, y6, some (vT one), some (vT oth), some (.ref a), some (vT t3), some (.ref a1), some (.ref a2), some (.ref L2), some (.ref b), some (.bl due), none, none] ∧ Same H10 H', ?_, ?_⟩
      · refine ⟨_, rfl, _, rfl, a, as, one, rfl, ta, o1, fun Ha sa => ⟨_, rfl, ?_⟩⟩
        rcases u1 : (decide (1 ≤ as.length) && leadB one as) with _ | _
        · rw [u1, Bool.false_and] at hdue
          rw [← hdue]
          exact iteF ⟨rfl, sa⟩
        rw [u1, Bool.true_and] at hdue
        refine iteT ⟨_, rfl, _, rfl, b, bs', t3, rfl, tb.same sa, o3, fun Hb sb => ⟨_, rfl, ?_⟩⟩
        rcases u2 : (decide (1 ≤ bs'.length) && leadB t3 bs') with _ | _
        · rw [u2, Bool.false_and] at hdue
          rw [← hdue]
          exact iteF ⟨rfl, sa.trans sb⟩
        rw [u2, Bool.true_and] at hdue
        rw [Bool.and_eq_true] at u1 u2
        obtain ⟨x, la1, mx⟩ := last_some (of_decide_eq_true u1.1)
        obtain ⟨y, la2, my⟩ := last_some (of_decide_eq_true u2.1)
        have sab := sa.trans sb
        refine iteT ⟨_, rfl, 1, rfl, a, _, -1, _, rfl, rfl, (ta.same sab).seq, last_at la1, ?_⟩
        refine ⟨_, rfl, 1, rfl, b, _, -1, _, rfl, rfl, (tb.same sab).seq, last_at la2, rfl, ?_⟩
        rw [last_ne la1 la2 (ta.ok x mx).1 (tb.ok y my).1, hdue]
        exact ⟨rfl, sab⟩
      · rintro σ' H11 ⟨rfl, s11⟩
        refine ⟨_, rfl, _, rfl, _, rfl, _, rfl, (by show 3 ≤ sizeLine; decide), fun U nU => ?_⟩
        have sU := sameUpd (o := .tup [.str "unequal", .ref a, .ref b]) nU
        have s12 := s11.trans sU
        refine ⟨.ref U, one, t3, rfl, o1, o3, by omega, by omega, .inr (.inr ⟨U, .str "unequal", [.ref a, .ref b], [some as, some bs'], rfl, .inl (.inl upd_same), by simp, by simp, .inl ⟨_, rfl⟩, ⟨.yes (ta.same s12), .yes (tb.same s12), trivial⟩, fun H13 s13 => ?_⟩)⟩
        refine ⟨_, .bool _, rfl, .bl _, bs _, _, rfl, _, .bool _, rfl, .bl _, bs _, rfl, _, rfl, iteFo (neS (by rw [due_eq la lb, hdue])) ?_⟩
        exact ⟨_, _, _, rfl, (s9.trans s12).trans s13⟩
    obtain ⟨y9', y14, y15, rfl, s29⟩ := hP
    have C29 := C28.same s29
    have tr1 := tr1.same s29
    have tc := C29.trt (by omega : ts.length ≤ 1000)
    have O0 : ∀ x ∈ [V.non, V.int 0, V.str "equal"], OddV K H9 one oth x := fun x hx => by
      simp only [List.mem_cons, List.mem_nil_iff, or_false] at hx
      rcases hx with rfl | rfl | rfl
      · exact .inl ⟨_, .base .non, by decide +kernel⟩
      · exact .inl ⟨_, .base (.int _), by decide +kernel⟩
      · exact .inl ⟨_, .base (.str _), by decide +kernel⟩
    refine ⟨(by show 0 ≤ sizeLine; decide), fun E0 nE0 => ?_⟩
    have sE0 := sameUpd (o := .tup []) nE0
    have C29 := C29.same sE0
    have tr1 := tr1.same sE0
    have tc := tc.same sE0
    have hE0 : (upd H9 E0 (.tup [])) E0 = some (.tup []) := upd_same
    have O0 := odd_snoc O0 sE0 (show OddV K _ one oth (.ref E0) from .inr (.inl ⟨E0, [], rfl, .inl (.inl hE0), by simp⟩))
    generalize hgE0 : upd H9 E0 (.tup []) = J0 at C29 tr1 tc O0 hE0 ⊢
    refine ⟨(by show 1 ≤ sizeLine; decide), fun E1 nE1 => ?_⟩
    have sE1 := sameUpd (o := .tup [.str "equal"]) nE1
    have C29 := C29.same sE1
    have tr1 := tr1.same sE1
    have tc := tc.same sE1
    have hE1 : (upd J0 E1 (.tup [.str "equal"])) E1 = some (.tup [.str "equal"]) := upd_same
    have O0 := odd_snoc O0 sE1 (show OddV K _ one oth (.ref E1) from .inr (.inl ⟨E1, _, rfl, .inl (.inl hE1), by simp⟩))
    generalize hgE1 : upd J0 E1 (.tup [.str "equal"]) = J1 at C29 tr1 tc O0 hE1 ⊢
    refine ⟨_, rfl, (by show 2 ≤ sizeLine; decide), fun E2 nE2 => ?_⟩
    have sE2 := sameUpd (o := .lst [.str "equal", .ref c]) nE2
    have C29 := C29.same sE2
    have tr1 := tr1.same sE2
    have tc := tc.same sE2
    have hE2 : (upd J1 E2 (.lst [.str "equal", .ref c])) E2 = some (.lst [.str "equal", .ref c]) := upd_same
    have O0 := odd_snoc O0 sE2 (show OddV K _ one oth (.ref E2) from .inl (noTup_lst hE2))
    generalize hgE2 : upd J1 E2 (.lst [.str "equal", .ref c]) = J2 at C29 tr1 tc O0 hE2 ⊢
    refine ⟨_, rfl, c, _, rfl, .inr tc.seq, fun E3 nE3 => ?_⟩
    have sE3 := sameUpd (o := .lst (ts.map vT)) nE3
    have C29 := C29.same sE3
    have tr1 := tr1.same sE3
    have tc := tc.same sE3
    have hE3 : (upd J2 E3 (.lst (ts.map vT))) E3 = some (.lst (ts.map vT)) := upd_same
    have O0 := odd_same O0 sE3
    generalize hgE3 : upd J2 E3 (.lst (ts.map vT)) = J3 at C29 tr1 tc O0 hE3 ⊢
    have n3 : NoTup K J3 (.ref E3) := noTup_lst hE3
    refine ⟨(by show 2 ≤ sizeLine; decide), fun E4 nE4 => ?_⟩
    have sE4 := sameUpd (o := .tup [.str "equal", .ref E3]) nE4
    have C29 := C29.same sE4
    have tr1 := tr1.same sE4
    have tc := tc.same sE4
    have hE4 : (upd J3 E4 (.tup [.str "equal", .ref E3])) E4 = some (.tup [.str "equal", .ref E3]) := upd_same
    have O0 := odd_snoc O0 sE4 (show OddV K _ one oth (.ref E4) from odd_one hE4 (.inl ⟨_, rfl⟩) (.no (n3.same sE4)) rfl)
    generalize hgE4 : upd J3 E4 (.tup [.str "equal", .ref E3]) = J4 at C29 tr1 tc O0 hE4 ⊢
    clear n3
    refine ⟨_, rfl, (by show 2 ≤ sizeLine; decide), fun E5 nE5 => ?_⟩
    have sE5 := sameUpd (o := .tup [.str "Equal", .ref c]) nE5
    have C29 := C29.same sE5
    have tr1 := tr1.same sE5
    have tc := tc.same sE5
    have hE5 : (upd J4 E5 (.tup [.str "Equal", .ref c])) E5 = some (.tup [.str "Equal", .ref c]) := upd_same
    have O0 := odd_snoc O0 sE5 (show OddV K _ one oth (.ref E5) from odd_one hE5 (.inl ⟨_, rfl⟩) (.yes tc) (paper_key (by decide +kernel)))
    generalize hgE5 : upd J4 E5 (.tup [.str "Equal", .ref c]) = J5 at C29 tr1 tc O0 hE5 ⊢
    refine fun E6 nE6 => ?_
    have sE6 := sameUpd (o := .dK []) nE6
    have C29 := C29.same sE6
    have tr1 := tr1.same sE6
    have tc := tc.same sE6
    have hE6 : (upd J5 E6 (.dK [])) E6 = some (.dK []) := upd_same
    have O0 := odd_snoc O0 sE6 (show OddV K _ one oth (.ref E6) from .inl ⟨_, .base (.dK hE6), by decide +kernel⟩)
    generalize hgE6 : upd J5 E6 (.dK []) = J6 at C29 tr1 tc O0 hE6 ⊢
    refine ⟨(by show 9 ≤ sizeLine; decide), fun O1 nO1 => ?_⟩
    have sO1 := sameUpd (o := .lst [.non, .int 0, .ref E0, .ref E1, .ref E2, .ref E4, .ref E5, .ref E6, .str "equal"]) nO1
    have C29 := C29.same sO1
    have tr1 := tr1.same sO1
    have tc := tc.same sO1
    have hO1 : (upd J6 O1 (.lst [.non, .int 0, .ref E0, .ref E1, .ref E2, .ref E4, .ref E5, .ref E6, .str "equal"])) O1 = some (.lst [.non, .int 0, .ref E0, .ref E1, .ref E2, .ref E4, .ref E5, .ref E6, .str "equal"]) := upd_same
    have O0 := odd_same O0 sO1
    generalize hgO1 : upd J6 O1 (.lst [.non, .int 0, .ref E0, .ref E1, .ref E2, .ref E4, .ref E5, .ref E6, .str "equal"]) = J7 at C29 tr1 tc O0 hO1 ⊢
    have hl1 : J7 O1 = some (.lst [.non, .int 0, .ref E0, .ref E1, .ref E2, .ref E4, .ref E5, .ref E6, .str "equal"]) := hO1
    refine ⟨_, rfl, _, rfl, (by show 2 ≤ sizeLine; decide), fun E7 nE7 => ?_⟩
    have sE7 := sameUpd (o := .tup [.str "unequal", .ref a1]) nE7
    have hl1 := sE7 _ _ hl1
    have C29 := C29.same sE7
    have tr1 := tr1.same sE7
    have tc := tc.same sE7
    have hE7 : (upd J7 E7 (.tup [.str "unequal", .ref a1])) E7 = some (.tup [.str "unequal", .ref a1]) := upd_same
    have O0 := odd_snoc O0 sE7 (show OddV K _ one oth (.ref E7) from odd_one hE7 (.inl ⟨_, rfl⟩) (.yes tr1) (paper_key (by decide +kernel)))
    generalize hgE7 : upd J7 E7 (.tup [.str "unequal", .ref a1]) = J8 at C29 tr1 tc O0 hE7 hl1 ⊢
    refine ⟨_, rfl, (by show 3 ≤ sizeLine; decide), fun E8 nE8 => ?_⟩
    have sE8 := sameUpd (o := .tup [.str "unequal", .ref a1, .non]) nE8
    have hl1 := sE8 _ _ hl1
    have C29 := C29.same sE8
    have tr1 := tr1.same sE8
    have tc := tc.same sE8
    have hE8 : (upd J8 E8 (.tup [.str "unequal", .ref a1, .non])) E8 = some (.tup [.str "unequal", .ref a1, .non]) := upd_same
    have O0 := odd_snoc O0 sE8 (show OddV K _ one oth (.ref E8) from odd_two hE8 (.inl ⟨_, rfl⟩) (.yes tr1) (.no ⟨_, .base .non, by decide +kernel⟩) rfl)
    generalize hgE8 : upd J8 E8 (.tup [.str "unequal", .ref a1, .non]) = J9 at C29 tr1 tc O0 hE8 hl1 ⊢
    refine ⟨(by show 2 ≤ sizeLine; decide), fun E9 nE9 => ?_⟩
    have sE9 := sameUpd (o := .tup [.str "equal", .non]) nE9
    have hl1 := sE9 _ _ hl1
    have C29 := C29.same sE9
    have tr1 := tr1.same sE9
    have tc := tc.same sE9
    have hE9 : (upd J9 E9 (.tup [.str "equal", .non])) E9 = some (.tup [.str "equal", .non]) := upd_same
    have O0 := odd_snoc O0 sE9 (show OddV K _ one oth (.ref E9) from odd_one hE9 (.inl ⟨_, rfl⟩) (.no ⟨_, .base .non, by decide +kernel⟩) rfl)
    generalize hgE9 : upd J9 E9 (.tup [.str "equal", .non]) = J10 at C29 tr1 tc O0 hE9 hl1 ⊢
    refine ⟨(by show 0 ≤ sizeLine; decide), fun Z nZ => ?_⟩
    have sZ := sameUpd (o := .tup []) nZ
    have hl1 := sZ _ _ hl1
    have C29 := C29.same sZ
    have tr1 := tr1.same sZ
    have tc := tc.same sZ
    have hZ : (upd J10 Z (.tup [])) Z = some (.tup []) := upd_same
    have O0 := odd_same O0 sZ
    generalize hgZ : upd J10 Z (.tup []) = J11 at C29 tr1 tc O0 hZ hl1 ⊢
    have tz : TrT K J11 Z [] := ⟨.inl (.inl hZ), by simp, fun _ h => by cases h⟩
    refine ⟨(by show 2 ≤ sizeLine; decide), fun E11 nE11 => ?_⟩
    have sE11 := sameUpd (o := .tup [.str "equal", .ref Z]) nE11
    have hl1 := sE11 _ _ hl1
    have C29 := C29.same sE11
    have tr1 := tr1.same sE11
    have tc := tc.same sE11
    have hE11 : (upd J11 E11 (.tup [.str "equal", .ref Z])) E11 = some (.tup [.str "equal", .ref Z]) := upd_same
    have O0 := odd_snoc O0 sE11 (show OddV K _ one oth (.ref E11) from odd_one hE11 (.inl ⟨_, rfl⟩) (.yes (tz.same sE11)) rfl)
    generalize hgE11 : upd J11 E11 (.tup [.str "equal", .ref Z]) = J12 at C29 tr1 tc O0 hE11 hl1 ⊢
    clear tz
    refine ⟨_, rfl, (by show 2 ≤ sizeLine; decide), fun E12 nE12 => ?_⟩
    have sE12 := sameUpd (o := .tup [.int 0, .ref c]) nE12
    have hl1 := sE12 _ _ hl1
    have C29 := C29.same sE12
    have tr1 := tr1.same sE12
    have tc := tc.same sE12
    have hE12 : (upd J12 E12 (.tup [.int 0, .ref c])) E12 = some (.tup [.int 0, .ref c]) := upd_same
    have O0 := odd_snoc O0 sE12 (show OddV K _ one oth (.ref E12) from odd_one hE12 (.inr ⟨_, rfl⟩) (.yes tc) (paper_key (by decide +kernel)))
    generalize hgE12 : upd J12 E12 (.tup [.int 0, .ref c]) = J13 at C29 tr1 tc O0 hE12 hl1 ⊢
    refine ⟨(by show 5 ≤ sizeLine; decide), fun O2 nO2 => ?_⟩
    have sO2 := sameUpd (o := .lst [.ref E7, .ref E8, .ref E9, .ref E11, .ref E12]) nO2
    have hl1 := sO2 _ _ hl1
    have C29 := C29.same sO2
    have tr1 := tr1.same sO2
    have tc := tc.same sO2
    have hO2 : (upd J13 O2 (.lst [.ref E7, .ref E8, .ref E9, .ref E11, .ref E12])) O2 = some (.lst [.ref E7, .ref E8, .ref E9, .ref E11, .ref E12]) := upd_same
    have O0 := odd_same O0 sO2
    generalize hgO2 : upd J13 O2 (.lst [.ref E7, .ref E8, .ref E9, .ref E11, .ref E12]) = J14 at C29 tr1 tc O0 hO2 hl1 ⊢
    refine ⟨O1, O2, _, _, rfl, rfl, hl1, hO2, (by show 14 ≤ sizeLine; decide), fun O3 nO3 => ?_⟩
    have sO3 := sameUpd (o := .lst ([.non, .int 0, .ref E0, .ref E1, .ref E2, .ref E4, .ref E5, .ref E6, .str "equal"] ++ [.ref E7, .ref E8, .ref E9, .ref E11, .ref E12])) nO3
    have hl1 := sO3 _ _ hl1
    have C29 := C29.same sO3
    have tr1 := tr1.same sO3
    have tc := tc.same sO3
    have hO3 : (upd J14 O3 (.lst ([.non, .int 0, .ref E0, .ref E1, .ref E2, .ref E4, .ref E5, .ref E6, .str "equal"] ++ [.ref E7, .ref E8, .ref E9, .ref E11, .ref E12]))) O3 = some (.lst ([.non, .int 0, .ref E0, .ref E1, .ref E2, .ref E4, .ref E5, .ref E6, .str "equal"] ++ [.ref E7, .ref E8, .ref E9, .ref E11, .ref E12])) := upd_same
    have O0 := odd_same O0 sO3
    generalize hgO3 : upd J14 O3 (.lst ([.non, .int 0, .ref E0, .ref E1, .ref E2, .ref E4, .ref E5, .ref E6, .str "equal"] ++ [.ref E7, .ref E8, .ref E9, .ref E11, .ref E12])) = J15 at C29 tr1 tc O0 hO3 hl1 ⊢
    have hl3 : J15 O3 = some (.lst ([.non, .int 0, .ref E0, .ref E1, .ref E2, .ref E4, .ref E5, .ref E6, .str "equal"] ++ [.ref E7, .ref E8, .ref E9, .ref E11, .ref E12])) := hO3
    clear hl1
    refine ⟨_, rfl, _, rfl, (by show 2 ≤ sizeLine; decide), fun E13 nE13 => ?_⟩
    have sE13 := sameUpd (o := .tup [.str "equal", vT one]) nE13
    have hl3 := sE13 _ _ hl3
    have C29 := C29.same sE13
    have tr1 := tr1.same sE13
    have tc := tc.same sE13
    have hE13 : (upd J15 E13 (.tup [.str "equal", vT one])) E13 = some (.tup [.str "equal", vT one]) := upd_same
    have O0 := odd_snoc O0 sE13 (show OddV K _ one oth (.ref E13) from odd_one hE13 (.inl ⟨_, rfl⟩) (.no ⟨_, .base (.str _), by decide +kernel⟩) rfl)
    generalize hgE13 : upd J15 E13 (.tup [.str "equal", vT one]) = J16 at C29 tr1 tc O0 hE13 hl3 ⊢
    refine ⟨_, rfl, _, rfl, (by show 3 ≤ sizeLine; decide), fun E14 nE14 => ?_⟩
    have sE14 := sameUpd (o := .tup [.str "equal", .ref c, .ref c]) nE14
    have hl3 := sE14 _ _ hl3
    have C29 := C29.same sE14
    have tr1 := tr1.same sE14
    have tc := tc.same sE14
    have hE14 : (upd J16 E14 (.tup [.str "equal", .ref c, .ref c])) E14 = some (.tup [.str "equal", .ref c, .ref c]) := upd_same
    have O0 := odd_snoc O0 sE14 (show OddV K _ one oth (.ref E14) from odd_two hE14 (.inl ⟨_, rfl⟩) (.yes tc) (.yes tc) (paper_key2 (by decide +kernel)))
    generalize hgE14 : upd J16 E14 (.tup [.str "equal", .ref c, .ref c]) = J17 at C29 tr1 tc O0 hE14 hl3 ⊢
    refine ⟨(by show 2 ≤ sizeLine; decide), fun O4 nO4 => ?_⟩
    have sO4 := sameUpd (o := .lst [.ref E13, .ref E14]) nO4
    have hl3 := sO4 _ _ hl3
    have C29 := C29.same sO4
    have tr1 := tr1.same sO4
    have tc := tc.same sO4
    have hO4 : (upd J17 O4 (.lst [.ref E13, .ref E14])) O4 = some (.lst [.ref E13, .ref E14]) := upd_same
    have O0 := odd_same O0 sO4
    generalize hgO4 : upd J17 O4 (.lst [.ref E13, .ref E14]) = J18 at C29 tr1 tc O0 hO4 hl3 ⊢
    refine ⟨O3, O4, _, _, rfl, rfl, hl3, hO4, (by show 16 ≤ sizeLine; decide), fun O5 nO5 => ?_⟩
    have sO5 := sameUpd (o := .lst (([.non, .int 0, .ref E0, .ref E1, .ref E2, .ref E4, .ref E5, .ref E6, .str "equal"] ++ [.ref E7, .ref E8, .ref E9, .ref E11, .ref E12]) ++ [.ref E13, .ref E14])) nO5
    have hl3 := sO5 _ _ hl3
    have C29 := C29.same sO5
    have tr1 := tr1.same sO5
    have tc := tc.same sO5
    have hO5 : (upd J18 O5 (.lst (([.non, .int 0, .ref E0, .ref E1, .ref E2, .ref E4, .ref E5, .ref E6, .str "equal"] ++ [.ref E7, .ref E8, .ref E9, .ref E11, .ref E12]) ++ [.ref E13, .ref E14]))) O5 = some (.lst (([.non, .int 0, .ref E0, .ref E1, .ref E2, .ref E4, .ref E5, .ref E6, .str "equal"] ++ [.ref E7, .ref E8, .ref E9, .ref E11, .ref E12]) ++ [.ref E13, .ref E14])) := upd_same
    have O0 := odd_same O0 sO5
    generalize hgO5 : upd J18 O5 (.lst (([.non, .int 0, .ref E0, .ref E1, .ref E2, .ref E4, .ref E5, .ref E6, .str "equal"] ++ [.ref E7, .ref E8, .ref E9, .ref E11, .ref E12]) ++ [.ref E13, .ref E14])) = J19 at C29 tr1 tc O0 hO5 hl3 ⊢
    have fin : ∀ x ∈ ((([.non, .int 0, .ref E0, .ref E1, .ref E2, .ref E4, .ref E5, .ref E6, .str "equal"] ++ [.ref E7, .ref E8, .ref E9, .ref E11, .ref E12]) ++ [.ref E13, .ref E14]) : List V), OddV K J19 one oth x := fun x hx => by
      refine O0 x ?_
      simp only [List.mem_append, List.mem_cons, List.mem_nil_iff, or_false] at hx
      rcases hx with ((h | h | h | h | h | h | h | h | h) | (h | h | h | h | h)) | (h | h) <;> (subst h; simp)
    refine ⟨_, rfl, O5, rfl, ⟨_, .inl (.inl hO5)⟩, fun D nD => ?_⟩
    refine lc_it (walk_list (K := K) (a := O5) (xs := (([.non, .int 0, .ref E0, .ref E1, .ref E2, .ref E4, .ref E5, .ref E6, .str "equal"] ++ [.ref E7, .ref E8, .ref E9, .ref E11, .ref E12]) ++ [.ref E13, .ref E14]))) (fun i G => Same J19 G ∧ G D = some (.lst [])) ⟨sameUpd nD, upd_same⟩ (fun i G _ hP => .inl (.inl (hP.1 _ _ hO5))) (fun i x G G2 il hP y => ?_) (fun G hP => ?_)
    · obtain ⟨rfl, hx⟩ := y
      obtain ⟨sg, hD⟩ := hP
      have od := (fin x (List.mem_of_getElem? hx)).same sg
      refine ⟨rfl, _, rfl, _, rfl, _, rfl, x, one, oth, rfl, o1, o2, by omega, by omega, ?_⟩
      rcases od with h | ⟨p, ws, e, h, n⟩ | ⟨p, k, cs, es, e, h, n1', n2', ky, al, pb⟩
      · exact .inl ⟨h, false, false, rfl, rfl, _, rfl, iteF ⟨sg, hD⟩⟩
      · exact .inr (.inl ⟨p, ws, e, h, n, false, false, rfl, rfl, _, rfl, iteF ⟨sg, hD⟩⟩)
      · refine .inr (.inr ⟨p, k, cs, es, e, h, n1', n2', ky, al, fun G3 s3 => ⟨false, false, ?_, rfl, _, rfl, iteF ⟨sg.trans s3, s3 _ _ hD⟩⟩⟩)
        rw [pb]
    · refine ⟨(by show 0 ≤ sizeLine; decide), fun p5 n5 => ?_⟩
      have s7 := sameUpd (o := .lst []) n5
      refine ⟨.list [], .list [], .lst (.inl (.inl (s7 _ _ hP.2))) .nil, .lst (.inl (.inl upd_same)) .nil, rfl, rfl, ?_⟩
      have C30 := (C29.same hP.1).same s7
      exact q _ C30.but C30.dice
end
end K78

set_option maxHeartbeats 16000000
namespace K78
open PySem PySem.Spec PyProof.Rows L2 GG MT
abbrev sLaw : Stmt := topS 41
theorem scLaw : FnScope ["script", "spot", "dice", "turn", "long", "told"] ["script"] (defScope sLaw) := ⟨rfl, rfl, rfl, by decide +kernel, rfl, by decide +kernel, by decide +kernel⟩
def spLaw (K : PySem.W.Frag) : Sp := fun vs H Q _ => ∃ (a : Addr) (ns : List Int), vs = [.ref a] ∧ SqL K H a (ns.map V.int) ∧ ns.length ≤ 63 ∧ ∀ H', Q (.bl true) H'
def lettersD : List PyData := [.str "a", .str "ab", .str "abc"]
def letsB : PyData → Bool
  | .str x => decide (Lets x.cps.toList)
  | _ => false
theorem letters_ok : ∀ d ∈ lettersD, letsB d = true := by decide +kernel
theorem rng_3 (L : Int) : -(2 ^ 62) ≤ (if (if L < 3 then L else 3) > 1 then (if L < 3 then L else 3) else 1) ∧ (if (if L < 3 then L else 3) > 1 then (if L < 3 then L else 3) else 1) < 2 ^ 62 ∧
    (if (if L < 3 then L else 3) > 1 then (if L < 3 then L else 3) else 1).toNat ≤ 3 := by
  refine ⟨?_, ?_, ?_⟩ <;> (repeat' split) <;> omega
theorem strS (x : Str) : S x.cps.toList = x := by
  cases x
  rfl
theorem but_seqL {H H' : Hp} {K : PySem.W.Frag} {a p : Addr} {xs : List V} (b : But p H H') (n : H p = none) (h : SqL K H a xs) : SqL K H' a xs := by
  rcases h with (h | ⟨o, h⟩) | h
  · exact .inl (.inl (b _ _ (ne_of_none h n) h))
  · exact .inl (.inr ⟨o, b _ _ (ne_of_none h n) h⟩)
  · exact .inr h
def tA : Trm := .mul (.let_ 97) (.let_ 98)
def tB : Trm := .mul (.let_ 97) (.mul (.mul (.let_ 97) (.let_ 98)) (.let_ 97))
def tX : Trm := .mul (.mul (.let_ 97) (.let_ 98)) (.mul (.let_ 98) (.let_ 99))
def tY : Trm := .mul (.mul (.let_ 100) (.let_ 98)) (.mul (.let_ 98) (.let_ 100))
def tb : Trm := .let_ 98
def longL : List Trm := (List.replicate 200 [tA, tB]).flatten
theorem long_len : longL.length = 400 := by decide +kernel
theorem long_join : joinB tA tB longL = true := by decide +kernel
theorem short_join : joinB tX tY [tX, tb, tY] = true := by decide +kernel
theorem long_map : longL.map vT = (List.replicate 200 [vT tA, vT tB]).flatten := by
  unfold longL
  rw [List.map_flatten, List.map_replicate]
  rfl
theorem long_mem {t : Trm} (h : t ∈ longL) : Ok t ∧ size t ≤ 200 := by
  unfold longL at h
  rw [List.mem_flatten] at h
  obtain ⟨l, hl, ht⟩ := h
  have := (List.mem_replicate.mp hl).2
  subst this
  simp only [List.mem_cons, List.mem_nil_iff, or_false] at ht
  rcases ht with rfl | rfl
  · exact ⟨by decide, by decide⟩
  · exact ⟨by decide, by decide⟩
theorem eA : Str.ofString "*ab" = S (flat tA) := by decide +kernel
theorem eB : Str.ofString "*a**aba" = S (flat tB) := by decide +kernel
theorem eX : Str.ofString "**ab*bc" = S (flat tX) := by decide +kernel
theorem eY : Str.ofString "**db*bd" = S (flat tY) := by decide +kernel
theorem eb : Str.ofString "b" = S (flat tb) := by decide +kernel
section
variable {P : Program} {w : World} {K : PySem.W.Frag} {mg : Str → Option Value} {base : Heap}
theorem ok_law {f fD fK fA fI : Addr} {fd fdD fdK fdA fdI : FuncData} (F : Fun K "law" "law" sLaw f fd)
    (bD : Binds K fdD ["script", "spot"] []) (bK : Binds K fdK ["dice", "items"] []) (bA : Binds K fdA ["dice", "letters"] []) (bI : Binds K fdI ["one", "other", "value"] [])
    (GD : FnOk P w K mg base CX0 1 fD fdD ["script", "spot"] (spDice K)) (GK : FnOk P w K mg base CX0 2 fK fdK ["dice", "items"] (spPick K)) (GA : FnG P w K mg base CX0 10 fA fdA ["dice", "letters"] spRight)
    (GI : FnOk P w K mg base CX0 8 fI fdI ["one", "other", "value"] (spIsPaperX K))
    (gD : mg "_law_dice" = some (.ref fD)) (gK : mg "_law_pick" = some (.ref fK)) (gA : mg "_law_right" = some (.ref fA)) (gI : mg "is_equality_paper" = some (.ref fI))
    (kD : PySem.W.keepIn K (.ref fD) = true) (kK : PySem.W.keepIn K (.ref fK) = true) (kA : PySem.W.keepIn K (.ref fA) = true) (kI : PySem.W.keepIn K (.ref fI) = true)
    (mr : mg "range" = none) (mx : mg "max" = none) (mn : mg "min" = none) (ml : mg "len" = none) :
    FnG P w K mg base CX0 11 f fd ["script"] (spLaw K) := by
  refine fnG0 F scLaw (fun vs H Q E h => ?_) (fun cdv A outer s H vs Q E gd hr h => ?_)
  · obtain ⟨a, ns, rfl, _⟩ := h
    rfl
  · obtain ⟨a, ns, rfl, hS, hlen, q⟩ := h
    have hr1 := hr.mono (show 1 ≤ 10 by decide)
    have hr2 := hr.mono (show 2 ≤ 10 by decide)
    have hr8 := hr.mono (show 8 ≤ 10 by decide)
    have un := hr.units
    have N := scLaw.nd
    refine ⟨_, PSs.nox (pss_cons (ps_for PassesOwn.never rfl (pi_range1 (by rfl) mr (pa_cons (pe_callB (call_max2 rfl) (by rfl) mx (by decide +kernel) (pa_cons pe_int (pa_cons
          (pe_callB (call_min2 rfl) (by rfl) mn (by decide +kernel) (pa_cons pe_int (pa_cons (pe_callB call_len_seq (by rfl) ml PySem.boot_len (pa_cons (pv 0) pa_nil)) pa_nil))) pa_nil))) pa_nil))
          (pg_name (i := 1) N rfl (.inl rfl))
        (pss_cons (ps_set (i := 2) N rfl (.inl rfl) (pe_call GD hr1 (by rfl) gD kD bD .nil pass0 (pa_cons (pv 0) (pa_cons (pv 1) pa_nil))))
        (pss_one (ps_for PassesOwn.never rfl (pi_range1 (by rfl) mr (pa_cons pe_int pa_nil)) (pg_name (i := 3) N rfl (.inl rfl))
          (pss_one (ps_if (pt_not (pt_val (pe_callG GA gd hr (by rfl) gA kA bA .nil pass0 (pa_cons (pv 2) (pa_cons (pe_call GK hr2 (by rfl) gK kK bK .nil pass0 (pa_cons (pv 2) (pa_cons (pe_lit _ (.list lettersD) (by kernel_rfl)) pa_nil))) pa_nil))))) (pss_one (ps_ret pe_bl)) pss_nil))))))
      (pss_cons (ps_set (i := 4) N rfl (.inl rfl) (pe_op (show OpR _ _ (rRepN K) from op_repN) (pe_tup (pa_cons pe_str (pa_cons pe_str pa_nil))) pe_int))
      (pss_cons (ps_set (i := 5) N rfl (.inl rfl) (pe_lst (pa_cons (pe_call GI hr8 (by rfl) gI kI bI .nil pass0 (pa_cons pe_str (pa_cons pe_str (pa_cons (pe_tup (pa_cons pe_str (pa_cons (pv 4) pa_nil))) pa_nil)))) pa_nil)))
      (pss_cons (ps_expr (pe_bm PySem.F.plainAttrs_list PySem.F.slot_list_append PySem.F.type_list_append mt_append (pv 5) (pa_cons
          (pe_call GI hr8 (by rfl) gI kI bI .nil pass0 (pa_cons pe_str (pa_cons pe_str (pa_cons (pe_tup (pa_cons pe_str (pa_cons (pe_op (catK (K := K) rfl) (pv 4) (pe_tup (pa_cons pe_str pa_nil))) pa_nil))) pa_nil)))) pa_nil)))
      (pss_cons (ps_expr (pe_bm PySem.F.plainAttrs_list PySem.F.slot_list_append PySem.F.type_list_append mt_append (pv 5) (pa_cons
          (pe_call GI hr8 (by rfl) gI kI bI .nil pass0 (pa_cons pe_str (pa_cons pe_str (pa_cons (pe_tup (pa_cons pe_str (pa_cons (pe_tup (pa_cons pe_str (pa_cons pe_str (pa_cons pe_str pa_nil)))) pa_nil))) pa_nil)))) pa_nil)))
      (pss_one (ps_ret (pe_cmpR (op_eqD un) (pv 5) (pe_lst (pa_cons pe_bl (pa_cons pe_bl (pa_cons pe_bl pa_nil)))) (nomark _))))))))), ?_⟩
    have hM := rng_3 (ns.map V.int).length
    refine ⟨.ref a, rfl, a, _, rfl, .inl hS, _, _, rfl, _, _, rfl, _, rfl, hM.1, hM.2.1, ?_⟩
    refine for_range (lo := 0) (fun i σ H1 => ∃ y1 y2 y3, σ = [some (.ref a), y1, y2, y3, none, none] ∧ SqL K H1 a (ns.map V.int))
      ⟨_, _, _, rfl, hS⟩ (fun i σ H1 hi hP => ?_) (fun σ H1 hP => ?_)
    · obtain ⟨y1, y2, y3, rfl, hS1⟩ := hP
      refine ⟨.ref a, rfl, _, rfl, a, ns, i, by rw [Int.zero_add]; rfl, hS1, by omega, fun H2 p s2 np d2 => ?_⟩
      have b0 : But p H1 H2 := .ofSame s2
      clear hM
      refine ⟨_, rfl, by decide, by decide, ?_⟩
      refine for_range (lo := 0) (fun j σ H3 => ∃ y3, σ = [some (.ref a), some (.int (0 + (i : Int))), some (.ref p), y3, none, none] ∧ But p H1 H3 ∧ Dice H3 p)
        ⟨_, rfl, b0, d2⟩ (fun j σ H3 hj hP => ?_) (fun σ H3 hP => ?_)
      · obtain ⟨y3, rfl, b3, d3⟩ := hP
        refine ⟨_, rfl, _, rfl, fun v1 H4 s4 dv1 => ?_⟩
        cases dv1 with
        | @lst a1 xs1 _ f1 e1 r1 =>
        have na1 : a1 ≠ p := fun z => by
          obtain ⟨_, _, _, hp, _⟩ := d3
          rw [z, hp] at f1
          cases f1
        have d4 := d3.same s4
        have b4 := b3.same s4
        have l1 : xs1.length = 3 := r1.len
        refine ⟨p, a1, xs1, rfl, d4, na1, .inl (.inl (.inl e1)), by omega, by omega, fun H5 jj v b5 d5 hv => ?_⟩
        obtain ⟨d, hd, dv⟩ := r1.get hv
        have okd := letters_ok d (List.mem_of_getElem? hd)
        obtain ⟨ls, rfl, hls⟩ : ∃ ls, v = .str (S ls) ∧ Lets ls := by
          cases dv with
          | str x => exact ⟨x.cps.toList, by rw [strS], of_decide_eq_true okd⟩
          | _ => cases okd
        refine ⟨p, ls, rfl, d5, hls, fun H6 b6 d6 => ⟨true, rfl, iteF ?_⟩⟩
        exact ⟨_, rfl, (b4.trans b5).trans b6, d6⟩
      · obtain ⟨y3, rfl, b3, d3⟩ := hP
        exact ⟨_, _, _, rfl, but_seqL b3 np hS1⟩
    · obtain ⟨y1, y2, y3, rfl, hS1⟩ := hP
      rw [eA, eB, eX, eY, eb]
      refine ⟨(by show 2 ≤ sizeLine; decide), fun P0 n0 => ?_⟩
      refine ⟨P0, 200, _, rfl, rfl, .inl (.inl upd_same), by simp, by decide, by decide, by decide, fun z => absurd z (by decide), fun _ c nc => ?_⟩
      have e2 : (List.replicate (200 : Int).toNat [V.str (S (flat tA)), V.str (S (flat tB))]).flatten = longL.map vT := by
        rw [long_map]
        rfl
      rw [e2]
      generalize upd H1 P0 (.tup [V.str (S (flat tA)), V.str (S (flat tB))]) = H2 at nc ⊢
      have tr : TrT K (upd H2 c (.tup (longL.map vT))) c longL := ⟨.inl (.inl upd_same), by rw [long_len]; decide, fun t ht => long_mem ht⟩
      generalize upd H2 c (.tup (longL.map vT)) = H3 at tr ⊢
      refine ⟨_, rfl, (by show 2 ≤ sizeLine; decide), fun T1 nT1 => ?_⟩
      have s1 := sameUpd (o := .tup [.str "equal", .ref c]) nT1
      refine ⟨.ref T1, tA, tB, rfl, by decide, by decide, by decide, by decide, .inr (.inr ⟨T1, .str "equal", [.ref c], [some longL], rfl, .inl (.inl upd_same), by simp, by simp, .inl ⟨_, rfl⟩, ⟨.yes (tr.same s1), trivial⟩, fun H4 s4 => ?_⟩)⟩
      have pb1 : paperB tA tB (.str "equal") [some longL] = true := by
        show (goodN longL.length && (isKey (.str "equal") "equal" && joinB tA tB longL)) = true
        rw [long_join, long_len]
        decide +kernel
      rw [pb1]
      refine ⟨(by show 1 ≤ sizeLine; decide), fun L nL => ?_⟩
      have sL := sameUpd (o := .lst [.bl true]) nL
      have hL : (upd H4 L (.lst [.bl true])) L = some (.lst [.bl true]) := upd_same
      have tr := ((tr.same s1).same s4).same sL
      generalize upd H4 L (.lst [.bl true]) = H5 at hL tr ⊢
      refine ⟨_, rfl, .inl ⟨rfl, _, .inl (.inl hL)⟩, ?_⟩
      refine ⟨_, rfl, (by show 1 ≤ sizeLine; decide), fun A1 nA1 => ?_⟩
      have sA1 := sameUpd (o := .tup [vT tA]) nA1
      refine ⟨c, A1, _, _, rfl, rfl, (tr.same sA1).seq, .inl (.inl upd_same), ?_, fun c2 H6 s6 sq6 => ?_⟩
      · rw [List.length_map, long_len]
        decide
      have tr2 : TrT K H6 c2 (longL ++ [tA]) := ⟨by rw [List.map_append]; exact sq6, by rw [List.length_append, long_len]; decide, fun t ht => by
        rcases List.mem_append.mp ht with ht | ht
        · exact long_mem ht
        · have : t = tA := by simpa using ht
          subst this
          exact ⟨by decide, by decide⟩⟩
      have hL := s6 _ _ (sA1 _ _ hL)
      refine ⟨(by show 2 ≤ sizeLine; decide), fun T2 nT2 => ?_⟩
      have s2 := sameUpd (o := .tup [.str "equal", .ref c2]) nT2
      refine ⟨.ref T2, tA, tA, rfl, by decide, by decide, by decide, by decide, .inr (.inr ⟨T2, .str "equal", [.ref c2], [some (longL ++ [tA])], rfl, .inl (.inl upd_same), by simp, by simp, .inl ⟨_, rfl⟩, ⟨.yes (tr2.same s2), trivial⟩, fun H7 s7 => ?_⟩)⟩
      have pb2 : paperB tA tA (.str "equal") [some (longL ++ [tA])] = false := by
        show (goodN (longL ++ [tA]).length && (isKey (.str "equal") "equal" && joinB tA tA (longL ++ [tA]))) = false
        rw [show goodN (longL ++ [tA]).length = false by rw [List.length_append, long_len]; rfl, Bool.false_and]
      rw [pb2]
      have hL := s7 _ _ (s2 _ _ hL)
      refine ⟨L, _, _, rfl, rfl, hL, (by show 1 + 1 ≤ sizeLine; decide), ?_⟩
      have hL2 : (upd H7 L (.lst ([.bl true] ++ [.bl false]))) L = some (.lst ([.bl true] ++ [.bl false])) := upd_same
      generalize upd H7 L (.lst ([.bl true] ++ [.bl false])) = H8 at hL2 ⊢
      refine ⟨_, rfl, .inl ⟨rfl, _, .inl (.inl hL2)⟩, ?_⟩
      refine ⟨(by show 3 ≤ sizeLine; decide), fun c3 nc3 => ?_⟩
      have s3 := sameUpd (o := .tup [vT tX, vT tb, vT tY]) nc3
      have tr3 : TrT K (upd H8 c3 (.tup [vT tX, vT tb, vT tY])) c3 [tX, tb, tY] := ⟨.inl (.inl upd_same), by decide, fun t ht => by
        simp only [List.mem_cons, List.mem_nil_iff, or_false] at ht
        rcases ht with rfl | rfl | rfl <;> exact ⟨by decide, by decide⟩⟩
      refine ⟨(by show 2 ≤ sizeLine; decide), fun T3 nT3 => ?_⟩
      have s3' := sameUpd (o := .tup [.str "equal", .ref c3]) nT3
      refine ⟨.ref T3, tX, tY, rfl, by decide, by decide, by decide, by decide, .inr (.inr ⟨T3, .str "equal", [.ref c3], [some [tX, tb, tY]], rfl, .inl (.inl upd_same), by simp, by simp, .inl ⟨_, rfl⟩, ⟨.yes (tr3.same s3'), trivial⟩, fun H9 s9 => ?_⟩)⟩
      have pb3 : paperB tX tY (.str "equal") [some [tX, tb, tY]] = true := by
        show (goodN 3 && (isKey (.str "equal") "equal" && joinB tX tY [tX, tb, tY])) = true
        rw [short_join]
        decide +kernel
      rw [pb3]
      have hL3 := s9 _ _ (s3' _ _ (s3 _ _ hL2))
      refine ⟨L, _, _, rfl, rfl, hL3, (by show 2 + 1 ≤ sizeLine; decide), ?_⟩
      have hL4 : (upd H9 L (.lst ([.bl true] ++ [.bl false] ++ [.bl true]))) L = some (.lst [.bl true, .bl false, .bl true]) := upd_same
      generalize upd H9 L (.lst ([.bl true] ++ [.bl false] ++ [.bl true])) = H10 at hL4 ⊢
      refine ⟨_, rfl, (by show 3 ≤ sizeLine; decide), fun U nU => ?_⟩
      have sU := sameUpd (o := .lst [.bl true, .bl false, .bl true]) nU
      refine ⟨.list [.bool true, .bool false, .bool true], .list [.bool true, .bool false, .bool true], .lst (.inl (.inl (sU _ _ hL4))) (.cons (.bl _) (.cons (.bl _) (.cons (.bl _) .nil))), .lst (.inl (.inl upd_same)) (.cons (.bl _) (.cons (.bl _) (.cons (.bl _) .nil))), rfl, rfl, ?_⟩
      exact q _
end
end K78

set_option maxHeartbeats 4000000
namespace GG
open PySem PySem.Spec PyProof.Rows L2
/-! ### the end of a law's row, the table of modules known -/
section
variable {P : Program} {w : World} {K : PySem.W.Frag} {mg mb : Str → Option Value} {CX : CXT} {k : Nat} {fa a : Addr} {fd : FuncData}
  {x : Str} {sp : Sp} {s₁ : Shared} {vs : List Value} {ns : List Int}
/-- from a heap in which the script alone may be tracked -/
theorem law_coreS {H : Hp} (KX : K.In s₁.heap) (ng : s₁.heap.Ns mainGlobals mg) (nb : s₁.heap.Ns builtinsNs mb)
    (bb : ∀ x : Str, x ≠ "__name__" → mb x = bootBuiltins x) (lim : s₁.heap.NoLimit) (sm : ∃ mm, s₁.heap.Ns sysModules mm) (g0 : s₁.gens = #[])
    (ha : s₁.heap.get? a = some { cls := .type "list", data := .seq vs.toArray }) (room : Room k callerA)
    (F : ∀ base : Heap, K.In base → base.Ns mainGlobals mg → (∃ mm, base.Ns sysModules mm) → FnG P w K mg base CX k fa fd [x] sp)
    (bind : ∀ (s : Shared) (u : Value), BindsTo s fd ⟨[u], []⟩ [(x, u)])
    (want : sp [.ref a] H (fun v _ => v = .bl true) fun _ _ _ => False)
    (noX : ∀ H e s', CX [] H s₁ (fun _ _ _ => False) e s' → False)
    (only : Only H) (ok : HOk P w H s₁.heap) (at_a : ∀ b, H b ≠ none → b = a) (notK : H a ≠ none → K.lookup a = none) :
    codeAny (model P w) callerA (.call (.ref fa) ⟨[.ref a], []⟩)
      (fun r s' => r = .ok (.ret (.bool true)) ∧ OldK s₁.heap s'.heap ∧ s'.os = s₁.os ∧ AllBare s'.gens) s₁ := by
  have dictFree : ∀ {b : Addr} {o : Obj} {es : Array DictEntry} {ep : Nat},
      s₁.heap.get? b = some o → o.data = .dict es ep → H b = none := by
    intro b o es ep e d
    rcases hq : H b with _ | u
    · rfl
    · have ba := at_a b (fun z => by rw [z] at hq; cases hq)
      rw [ba, ha] at e
      cases e
      cases (show Data.seq vs.toArray _ = Data.dict es ep from d)
  have ns : ∀ {b : Addr} {m : Str → Option Value}, s₁.heap.Ns b m → (hidT s₁.heap H).Ns b m := by
    rintro b m ⟨o, es, ep, e, d, r⟩
    exact ⟨o, es, ep, hidT_get e (dictFree e d), d, r⟩
  have KB : K.In (hidT s₁.heap H) := by
    intro b o e
    refine hidT_get (KX b o e) ?_
    rcases hq : H b with _ | u
    · rfl
    · have ba := at_a b (fun z => by rw [z] at hq; cases hq)
      rw [ba] at hq e
      rw [notK (fun z => by rw [z] at hq; cases hq)] at e
      cases e
  have en : Env0 P w K mg (hidT s₁.heap H) callerA [] s₁ H := by
    refine ⟨rfl, ⟨KB, ns ng, ⟨mb, ns nb, bb⟩, ?_⟩, fun b o e => of_hidT e, Nat.le_of_eq (hidT_size _ _), trivial, ?_, ok, .of_eq g0⟩
    · obtain ⟨mc, h1, h2⟩ := lim
      exact ⟨mc, ns h1, h2⟩
    · intro b z
      cases (show b ∈ ([] : List Addr) from z)
  refine codeAny_mono ((F _ KB (ns ng) (by obtain ⟨mm, h1⟩ := sm; exact ⟨mm, ns h1⟩)).go callerA [] s₁ H ⟨[.ref a], []⟩ [.ref a] [.ref a] _ _ rfl room en
    (bind s₁ (.ref a)) (.cons rfl .nil) want) ?_
  intro r s' z
  cases r with
  | error e => exact (noX H e s' z).elim
  | ok fl =>
    cases fl with
    | next => exact z.elim
    | brk => exact z.elim
    | cont => exact z.elim
    | ret u =>
      obtain ⟨v, H', os, bare, un, ok', rv, q⟩ := z
      cases (show v = .bl true from q)
      cases (show u = Value.bool true from rv)
      refine ⟨rfl, OldK.of_keep ?_, os, bare⟩
      intro b o e
      rcases only b with hq | ⟨ob, xs, hq⟩
      · exact un.keep b o e hq (fun z => by cases (show b ∈ ([] : List Addr) from z)) (fun z => by cases z)
      · have f1 := (ok b _ hq).left
        have f2 := (ok' b _ (un.frzs b ob _ hq)).left
        rw [e] at f1
        cases f1
        exact f2
theorem law_callS (KX : K.In s₁.heap) (ng : s₁.heap.Ns mainGlobals mg) (nb : s₁.heap.Ns builtinsNs mb)
    (bb : ∀ x : Str, x ≠ "__name__" → mb x = bootBuiltins x) (lim : s₁.heap.NoLimit) (sm : ∃ mm, s₁.heap.Ns sysModules mm) (g0 : s₁.gens = #[])
    (ha : s₁.heap.get? a = some { cls := .type "list", data := .seq vs.toArray }) (hi : IntsAre vs ns) (hl : ns.length ≤ sizeLine)
    (room : Room k callerA) (F : ∀ base : Heap, K.In base → base.Ns mainGlobals mg → (∃ mm, base.Ns sysModules mm) → FnG P w K mg base CX k fa fd [x] sp)
    (bind : ∀ (s : Shared) (u : Value), BindsTo s fd ⟨[u], []⟩ [(x, u)])
    (want : ∀ H : Hp, Only H → SqL K H a (ns.map V.int) → sp [.ref a] H (fun v _ => v = .bl true) fun _ _ _ => False)
    (noX : ∀ H e s', CX [] H s₁ (fun _ _ _ => False) e s' → False) :
    codeAny (model P w) callerA (.call (.ref fa) ⟨[.ref a], []⟩)
      (fun r s' => r = .ok (.ret (.bool true)) ∧ OldK s₁.heap s'.heap ∧ s'.os = s₁.os ∧ AllBare s'.gens) s₁ := by
  have vi := vals_ints hi
  rcases hk : K.lookup a with _ | o
  · have hH : ∀ b, (fun b => if b = a then some (HO.frz { cls := .type "list", data := .seq vs.toArray } (.lst (ns.map V.int))) else none : Hp) b ≠ none → b = a := by
      intro b z
      by_cases e : b = a
      · exact e
      · exact absurd (if_neg e) z
    refine law_coreS (H := fun b => if b = a then some (HO.frz { cls := .type "list", data := .seq vs.toArray } (.lst (ns.map V.int))) else none)
      KX ng nb bb lim sm g0 ha room F bind (want _ ?_ (.inl (.inr ⟨_, if_pos rfl⟩))) noX ?_ ?_ hH (fun _ => hk)
    all_goals first
      | (intro b
         by_cases e : b = a
         · exact .inr ⟨_, _, if_pos e⟩
         · exact .inl (if_neg e))
      | (intro b u z
         by_cases e : b = a
         · have z' := (if_pos e).symm.trans z
           cases z'
           rw [e]
           exact ⟨ha, by rw [List.length_map]; exact hl, vs, _, vi, ha⟩
         · have z' := (if_neg e).symm.trans z
           cases z')
  · have e := KX a o hk
    rw [ha] at e
    cases e
    refine law_coreS (H := fun _ => none) KX ng nb bb lim sm g0 ha room F bind (want _ (fun _ => .inl rfl) ?_) noX (fun _ => .inl rfl) ?_ (fun b z => absurd rfl z) (fun z => absurd rfl z)
    · exact .inr ⟨_, vs.toArray, _, hk, rfl, rfl, rfl, by rw [List.size_toArray, hi.length]; exact hl, by simpa using vi⟩
    · intro b u z
      cases (show (none : Option HO) = some u from z)
end
/-- the goal that the head leaves -/
theorem walkS {l : PySem.W.OpenLaw} {n k : Nat} {q : Program} {loose : List Str} {XP : (Str → Option Value) → Heap → Prop} {YP : World → Heap → Prop}
    {d : DefRec} {K : Params → PySem.W.Frag} {CX : World → CXT} {sp : World → Sp} {x : Str}
    (imp : importsNone q = true) (hn : l.most = some n) (hn2 : n ≤ sizeLine) (hdf : d.params.defaults = []) (room : Room k callerA)
    (hY : ∀ (w : World) (h : Heap), YP w h → (K w.params).In h)
    (F : ∀ (w : World) (mg : Str → Option Value) (fa : Addr) (h : Heap), (K w.params).In h → h.Ns mainGlobals mg → mg d.name = some (.ref fa) →
      ∃ fd : FuncData, (∀ (s : Shared) (u : Value), BindsTo s fd ⟨[u], []⟩ [(x, u)]) ∧
        ∀ base : Heap, (K w.params).In base → base.Ns mainGlobals mg → (∃ mm, base.Ns sysModules mm) → FnG l.prog w (K w.params) mg base (CX w) k fa fd [x] (sp w))
    (want : ∀ (w : World) (H : Hp) (a : Addr) (ns : List Int), ns.length ≤ n → Only H → SqL (K w.params) H a (ns.map V.int) →
      sp w [.ref a] H (fun v _ => v = .bl true) fun _ _ _ => False)
    (noX : ∀ (w : World) (H : Hp) (s : Shared) (e : Value) (s' : Shared), CX w [] H s (fun _ _ _ => False) e s' → False) :
    PySem.W.WalkO q loose XP YP l.row.toRowW d [] (fun f vs => PySem.call f vs) := by
  apply Att.attach_call hn hdf
  intro w s₀ s₁ mg mb fa o pm cd doc a vs ns G Y ho hd hcd hmg hobj hints hlen hg
  obtain ⟨fd, hb, hF⟩ := F w mg fa _ (hY w _ Y) G.T.g hmg
  exact law_callS (hY w _ Y) G.T.g G.T.b G.T.builtins G.T.nolimit (by obtain ⟨mm, h1, _⟩ := (G.T.seer imp).mods; exact ⟨mm, h1⟩) hg hobj hints (Nat.le_trans hlen hn2) room hF hb
    (fun H h1 h2 => want w H a ns hlen h1 h2) (fun H e s' => noX w H s₁ e s')
end GG

set_option maxHeartbeats 4000000
namespace K78
open PySem PySem.Spec PyProof.Rows L2 GG
theorem all_mk {l : PySem.W.OpenLaw} {w : World} {K : PySem.W.Frag} {h : Heap} {mg : Str → Option Value} {f_is_letter f_joined f_parts_of f_rules_at f_form_of_product f_form_part f_is_term f_check_term f_is_form f_is_equality_paper f__with_result f__is_chain f__is_step f__joins f__leads_down f__law_dice f__law_roll f__law_pick f__law_grown_term f__law_part_of f__law_sides f__law_rule_results f__law_steps f__law_down f__law_up f__law_leads f__law_takes f__law_takes_down f__law_near f__law_right f_law fa     PC f_PC_init  : Addr} 
    (X : K.In h) (G : h.Ns mainGlobals mg) (hfa : mg "law" = some (.ref fa))
    {od0 an0 : Option Addr} {sl0 : Array (Option Value)} {oc0 kV0 dc0 pm0 cd0 ct0 : Value}
    (a0 : PySem.W.nsIn K mainGlobals "is_letter" = some (some (.ref f_is_letter)))
    (l0 : K.lookup f_is_letter = some ⟨oc0, od0, .func (PySem.W.fnOf "is_letter" "is_letter" (defArgs sLetter) (defBody sLetter) (defScope sLetter) .none kV0 dc0 pm0 an0 cd0 ct0), sl0⟩)
    (c0 : PySem.W.codeIn K cd0 "is_letter" = true) (k0 : PySem.W.keepIn K (.ref f_is_letter) = true)
    {od1 an1 : Option Addr} {sl1 : Array (Option Value)} {oc1 kV1 dc1 pm1 cd1 ct1 : Value}
    (a1 : PySem.W.nsIn K mainGlobals "joined" = some (some (.ref f_joined)))
    (l1 : K.lookup f_joined = some ⟨oc1, od1, .func (PySem.W.fnOf "joined" "joined" (defArgs sJoined) (defBody sJoined) (defScope sJoined) .none kV1 dc1 pm1 an1 cd1 ct1), sl1⟩)
    (c1 : PySem.W.codeIn K cd1 "joined" = true) (k1 : PySem.W.keepIn K (.ref f_joined) = true)
    {od2 an2 : Option Addr} {sl2 : Array (Option Value)} {oc2 kV2 dc2 pm2 cd2 ct2 : Value}
    (a2 : PySem.W.nsIn K mainGlobals "parts_of" = some (some (.ref f_parts_of)))
    (l2 : K.lookup f_parts_of = some ⟨oc2, od2, .func (PySem.W.fnOf "parts_of" "parts_of" (defArgs sParts) (defBody sParts) (defScope sParts) .none kV2 dc2 pm2 an2 cd2 ct2), sl2⟩)
    (c2 : PySem.W.codeIn K cd2 "parts_of" = true) (k2 : PySem.W.keepIn K (.ref f_parts_of) = true)
    {od3 an3 : Option Addr} {sl3 : Array (Option Value)} {oc3 kV3 dc3 pm3 cd3 ct3 : Value}
    (a3 : PySem.W.nsIn K mainGlobals "rules_at" = some (some (.ref f_rules_at)))
    (l3 : K.lookup f_rules_at = some ⟨oc3, od3, .func (PySem.W.fnOf "rules_at" "rules_at" (defArgs sRules) (defBody sRules) (defScope sRules) .none kV3 dc3 pm3 an3 cd3 ct3), sl3⟩)
    (c3 : PySem.W.codeIn K cd3 "rules_at" = true) (k3 : PySem.W.keepIn K (.ref f_rules_at) = true)
    {od4 an4 : Option Addr} {sl4 : Array (Option Value)} {oc4 kV4 dc4 pm4 cd4 ct4 : Value}
    (a4 : PySem.W.nsIn K mainGlobals "form_of_product" = some (some (.ref f_form_of_product)))
    (l4 : K.lookup f_form_of_product = some ⟨oc4, od4, .func (PySem.W.fnOf "form_of_product" "form_of_product" (defArgs sFormP) (defBody sFormP) (defScope sFormP) .none kV4 dc4 pm4 an4 cd4 ct4), sl4⟩)
    (c4 : PySem.W.codeIn K cd4 "form_of_product" = true) (k4 : PySem.W.keepIn K (.ref f_form_of_product) = true)
    {od5 an5 : Option Addr} {sl5 : Array (Option Value)} {oc5 kV5 dc5 pm5 cd5 ct5 : Value}
    (a5 : PySem.W.nsIn K mainGlobals "form_part" = some (some (.ref f_form_part)))
    (l5 : K.lookup f_form_part = some ⟨oc5, od5, .func (PySem.W.fnOf "form_part" "form_part" (defArgs sFormT) (defBody sFormT) (defScope sFormT) .none kV5 dc5 pm5 an5 cd5 ct5), sl5⟩)
    (c5 : PySem.W.codeIn K cd5 "form_part" = true) (k5 : PySem.W.keepIn K (.ref f_form_part) = true)
    {od6 an6 : Option Addr} {sl6 : Array (Option Value)} {oc6 kV6 dc6 pm6 cd6 ct6 : Value}
    (a6 : PySem.W.nsIn K mainGlobals "is_term" = some (some (.ref f_is_term)))
    (l6 : K.lookup f_is_term = some ⟨oc6, od6, .func (PySem.W.fnOf "is_term" "is_term" (defArgs sTerm) (defBody sTerm) (defScope sTerm) .none kV6 dc6 pm6 an6 cd6 ct6), sl6⟩)
    (c6 : PySem.W.codeIn K cd6 "is_term" = true) (k6 : PySem.W.keepIn K (.ref f_is_term) = true)
    {od7 an7 : Option Addr} {sl7 : Array (Option Value)} {oc7 kV7 dc7 pm7 cd7 ct7 : Value}
    (a7 : PySem.W.nsIn K mainGlobals "check_term" = some (some (.ref f_check_term)))
    (l7 : K.lookup f_check_term = some ⟨oc7, od7, .func (PySem.W.fnOf "check_term" "check_term" (defArgs sCkTerm) (defBody sCkTerm) (defScope sCkTerm) .none kV7 dc7 pm7 an7 cd7 ct7), sl7⟩)
    (c7 : PySem.W.codeIn K cd7 "check_term" = true) (k7 : PySem.W.keepIn K (.ref f_check_term) = true)
    {od8 an8 : Option Addr} {sl8 : Array (Option Value)} {oc8 kV8 dc8 pm8 cd8 ct8 : Value}
    (a8 : PySem.W.nsIn K mainGlobals "is_form" = some (some (.ref f_is_form)))
    (l8 : K.lookup f_is_form = some ⟨oc8, od8, .func (PySem.W.fnOf "is_form" "is_form" (defArgs sIsForm) (defBody sIsForm) (defScope sIsForm) .none kV8 dc8 pm8 an8 cd8 ct8), sl8⟩)
    (c8 : PySem.W.codeIn K cd8 "is_form" = true) (k8 : PySem.W.keepIn K (.ref f_is_form) = true)
    {od9 an9 : Option Addr} {sl9 : Array (Option Value)} {oc9 kV9 dc9 pm9 cd9 ct9 : Value}
    (a9 : PySem.W.nsIn K mainGlobals "is_equality_paper" = some (some (.ref f_is_equality_paper)))
    (l9 : K.lookup f_is_equality_paper = some ⟨oc9, od9, .func (PySem.W.fnOf "is_equality_paper" "is_equality_paper" (defArgs sIsPaper) (defBody sIsPaper) (defScope sIsPaper) .none kV9 dc9 pm9 an9 cd9 ct9), sl9⟩)
    (c9 : PySem.W.codeIn K cd9 "is_equality_paper" = true) (k9 : PySem.W.keepIn K (.ref f_is_equality_paper) = true)
    {od10 an10 : Option Addr} {sl10 : Array (Option Value)} {oc10 kV10 dc10 pm10 cd10 ct10 : Value}
    (a10 : PySem.W.nsIn K mainGlobals "_with_result" = some (some (.ref f__with_result)))
    (l10 : K.lookup f__with_result = some ⟨oc10, od10, .func (PySem.W.fnOf "_with_result" "_with_result" (defArgs sWithR) (defBody sWithR) (defScope sWithR) .none kV10 dc10 pm10 an10 cd10 ct10), sl10⟩)
    (c10 : PySem.W.codeIn K cd10 "_with_result" = true) (k10 : PySem.W.keepIn K (.ref f__with_result) = true)
    {od11 an11 : Option Addr} {sl11 : Array (Option Value)} {oc11 kV11 dc11 pm11 cd11 ct11 : Value}
    (a11 : PySem.W.nsIn K mainGlobals "_is_chain" = some (some (.ref f__is_chain)))
    (l11 : K.lookup f__is_chain = some ⟨oc11, od11, .func (PySem.W.fnOf "_is_chain" "_is_chain" (defArgs sIsChain) (defBody sIsChain) (defScope sIsChain) .none kV11 dc11 pm11 an11 cd11 ct11), sl11⟩)
    (c11 : PySem.W.codeIn K cd11 "_is_chain" = true) (k11 : PySem.W.keepIn K (.ref f__is_chain) = true)
    {od12 an12 : Option Addr} {sl12 : Array (Option Value)} {oc12 kV12 dc12 pm12 cd12 ct12 : Value}
    (a12 : PySem.W.nsIn K mainGlobals "_is_step" = some (some (.ref f__is_step)))
    (l12 : K.lookup f__is_step = some ⟨oc12, od12, .func (PySem.W.fnOf "_is_step" "_is_step" (defArgs sIsStep) (defBody sIsStep) (defScope sIsStep) .none kV12 dc12 pm12 an12 cd12 ct12), sl12⟩)
    (c12 : PySem.W.codeIn K cd12 "_is_step" = true) (k12 : PySem.W.keepIn K (.ref f__is_step) = true)
    {od13 an13 : Option Addr} {sl13 : Array (Option Value)} {oc13 kV13 dc13 pm13 cd13 ct13 : Value}
    (a13 : PySem.W.nsIn K mainGlobals "_joins" = some (some (.ref f__joins)))
    (l13 : K.lookup f__joins = some ⟨oc13, od13, .func (PySem.W.fnOf "_joins" "_joins" (defArgs sJoins) (defBody sJoins) (defScope sJoins) .none kV13 dc13 pm13 an13 cd13 ct13), sl13⟩)
    (c13 : PySem.W.codeIn K cd13 "_joins" = true) (k13 : PySem.W.keepIn K (.ref f__joins) = true)
    {od14 an14 : Option Addr} {sl14 : Array (Option Value)} {oc14 kV14 dc14 pm14 cd14 ct14 : Value}
    (a14 : PySem.W.nsIn K mainGlobals "_leads_down" = some (some (.ref f__leads_down)))
    (l14 : K.lookup f__leads_down = some ⟨oc14, od14, .func (PySem.W.fnOf "_leads_down" "_leads_down" (defArgs sLeads) (defBody sLeads) (defScope sLeads) .none kV14 dc14 pm14 an14 cd14 ct14), sl14⟩)
    (c14 : PySem.W.codeIn K cd14 "_leads_down" = true) (k14 : PySem.W.keepIn K (.ref f__leads_down) = true)
    {od15 an15 : Option Addr} {sl15 : Array (Option Value)} {oc15 kV15 dc15 pm15 cd15 ct15 : Value}
    (a15 : PySem.W.nsIn K mainGlobals "_law_dice" = some (some (.ref f__law_dice)))
    (l15 : K.lookup f__law_dice = some ⟨oc15, od15, .func (PySem.W.fnOf "_law_dice" "_law_dice" (defArgs sDice) (defBody sDice) (defScope sDice) .none kV15 dc15 pm15 an15 cd15 ct15), sl15⟩)
    (c15 : PySem.W.codeIn K cd15 "_law_dice" = true) (k15 : PySem.W.keepIn K (.ref f__law_dice) = true)
    {od16 an16 : Option Addr} {sl16 : Array (Option Value)} {oc16 kV16 dc16 pm16 cd16 ct16 : Value}
    (a16 : PySem.W.nsIn K mainGlobals "_law_roll" = some (some (.ref f__law_roll)))
    (l16 : K.lookup f__law_roll = some ⟨oc16, od16, .func (PySem.W.fnOf "_law_roll" "_law_roll" (defArgs sRoll) (defBody sRoll) (defScope sRoll) .none kV16 dc16 pm16 an16 cd16 ct16), sl16⟩)
    (c16 : PySem.W.codeIn K cd16 "_law_roll" = true) (k16 : PySem.W.keepIn K (.ref f__law_roll) = true)
    {od17 an17 : Option Addr} {sl17 : Array (Option Value)} {oc17 kV17 dc17 pm17 cd17 ct17 : Value}
    (a17 : PySem.W.nsIn K mainGlobals "_law_pick" = some (some (.ref f__law_pick)))
    (l17 : K.lookup f__law_pick = some ⟨oc17, od17, .func (PySem.W.fnOf "_law_pick" "_law_pick" (defArgs sPick) (defBody sPick) (defScope sPick) .none kV17 dc17 pm17 an17 cd17 ct17), sl17⟩)
    (c17 : PySem.W.codeIn K cd17 "_law_pick" = true) (k17 : PySem.W.keepIn K (.ref f__law_pick) = true)
    {od18 an18 : Option Addr} {sl18 : Array (Option Value)} {oc18 kV18 dc18 pm18 cd18 ct18 : Value}
    (a18 : PySem.W.nsIn K mainGlobals "_law_grown_term" = some (some (.ref f__law_grown_term)))
    (l18 : K.lookup f__law_grown_term = some ⟨oc18, od18, .func (PySem.W.fnOf "_law_grown_term" "_law_grown_term" (defArgs sGrown) (defBody sGrown) (defScope sGrown) .none kV18 dc18 pm18 an18 cd18 ct18), sl18⟩)
    (c18 : PySem.W.codeIn K cd18 "_law_grown_term" = true) (k18 : PySem.W.keepIn K (.ref f__law_grown_term) = true)
    {od19 an19 : Option Addr} {sl19 : Array (Option Value)} {oc19 kV19 dc19 pm19 cd19 ct19 : Value}
    (a19 : PySem.W.nsIn K mainGlobals "_law_part_of" = some (some (.ref f__law_part_of)))
    (l19 : K.lookup f__law_part_of = some ⟨oc19, od19, .func (PySem.W.fnOf "_law_part_of" "_law_part_of" (defArgs sPartOf) (defBody sPartOf) (defScope sPartOf) .none kV19 dc19 pm19 an19 cd19 ct19), sl19⟩)
    (c19 : PySem.W.codeIn K cd19 "_law_part_of" = true) (k19 : PySem.W.keepIn K (.ref f__law_part_of) = true)
    {od20 an20 : Option Addr} {sl20 : Array (Option Value)} {oc20 kV20 dc20 pm20 cd20 ct20 : Value}
    (a20 : PySem.W.nsIn K mainGlobals "_law_sides" = some (some (.ref f__law_sides)))
    (l20 : K.lookup f__law_sides = some ⟨oc20, od20, .func (PySem.W.fnOf "_law_sides" "_law_sides" (defArgs sLSides) (defBody sLSides) (defScope sLSides) .none kV20 dc20 pm20 an20 cd20 ct20), sl20⟩)
    (c20 : PySem.W.codeIn K cd20 "_law_sides" = true) (k20 : PySem.W.keepIn K (.ref f__law_sides) = true)
    {od21 an21 : Option Addr} {sl21 : Array (Option Value)} {oc21 kV21 dc21 pm21 cd21 ct21 : Value}
    (a21 : PySem.W.nsIn K mainGlobals "_law_rule_results" = some (some (.ref f__law_rule_results)))
    (l21 : K.lookup f__law_rule_results = some ⟨oc21, od21, .func (PySem.W.fnOf "_law_rule_results" "_law_rule_results" (defArgs sRes) (defBody sRes) (defScope sRes) .none kV21 dc21 pm21 an21 cd21 ct21), sl21⟩)
    (c21 : PySem.W.codeIn K cd21 "_law_rule_results" = true) (k21 : PySem.W.keepIn K (.ref f__law_rule_results) = true)
    {od22 an22 : Option Addr} {sl22 : Array (Option Value)} {oc22 kV22 dc22 pm22 cd22 ct22 : Value}
    (a22 : PySem.W.nsIn K mainGlobals "_law_steps" = some (some (.ref f__law_steps)))
    (l22 : K.lookup f__law_steps = some ⟨oc22, od22, .func (PySem.W.fnOf "_law_steps" "_law_steps" (defArgs sLSteps) (defBody sLSteps) (defScope sLSteps) .none kV22 dc22 pm22 an22 cd22 ct22), sl22⟩)
    (c22 : PySem.W.codeIn K cd22 "_law_steps" = true) (k22 : PySem.W.keepIn K (.ref f__law_steps) = true)
    {od23 an23 : Option Addr} {sl23 : Array (Option Value)} {oc23 kV23 dc23 pm23 cd23 ct23 : Value}
    (a23 : PySem.W.nsIn K mainGlobals "_law_down" = some (some (.ref f__law_down)))
    (l23 : K.lookup f__law_down = some ⟨oc23, od23, .func (PySem.W.fnOf "_law_down" "_law_down" (defArgs sDown) (defBody sDown) (defScope sDown) .none kV23 dc23 pm23 an23 cd23 ct23), sl23⟩)
    (c23 : PySem.W.codeIn K cd23 "_law_down" = true) (k23 : PySem.W.keepIn K (.ref f__law_down) = true)
    {od24 an24 : Option Addr} {sl24 : Array (Option Value)} {oc24 kV24 dc24 pm24 cd24 ct24 : Value}
    (a24 : PySem.W.nsIn K mainGlobals "_law_up" = some (some (.ref f__law_up)))
    (l24 : K.lookup f__law_up = some ⟨oc24, od24, .func (PySem.W.fnOf "_law_up" "_law_up" (defArgs sUp) (defBody sUp) (defScope sUp) .none kV24 dc24 pm24 an24 cd24 ct24), sl24⟩)
    (c24 : PySem.W.codeIn K cd24 "_law_up" = true) (k24 : PySem.W.keepIn K (.ref f__law_up) = true)
    {od25 an25 : Option Addr} {sl25 : Array (Option Value)} {oc25 kV25 dc25 pm25 cd25 ct25 : Value}
    (a25 : PySem.W.nsIn K mainGlobals "_law_leads" = some (some (.ref f__law_leads)))
    (l25 : K.lookup f__law_leads = some ⟨oc25, od25, .func (PySem.W.fnOf "_law_leads" "_law_leads" (defArgs sLLeads) (defBody sLLeads) (defScope sLLeads) .none kV25 dc25 pm25 an25 cd25 ct25), sl25⟩)
    (c25 : PySem.W.codeIn K cd25 "_law_leads" = true) (k25 : PySem.W.keepIn K (.ref f__law_leads) = true)
    {od26 an26 : Option Addr} {sl26 : Array (Option Value)} {oc26 kV26 dc26 pm26 cd26 ct26 : Value}
    (a26 : PySem.W.nsIn K mainGlobals "_law_takes" = some (some (.ref f__law_takes)))
    (l26 : K.lookup f__law_takes = some ⟨oc26, od26, .func (PySem.W.fnOf "_law_takes" "_law_takes" (defArgs sTakes) (defBody sTakes) (defScope sTakes) .none kV26 dc26 pm26 an26 cd26 ct26), sl26⟩)
    (c26 : PySem.W.codeIn K cd26 "_law_takes" = true) (k26 : PySem.W.keepIn K (.ref f__law_takes) = true)
    {od27 an27 : Option Addr} {sl27 : Array (Option Value)} {oc27 kV27 dc27 pm27 cd27 ct27 : Value}
    (a27 : PySem.W.nsIn K mainGlobals "_law_takes_down" = some (some (.ref f__law_takes_down)))
    (l27 : K.lookup f__law_takes_down = some ⟨oc27, od27, .func (PySem.W.fnOf "_law_takes_down" "_law_takes_down" (defArgs sTDown) (defBody sTDown) (defScope sTDown) .none kV27 dc27 pm27 an27 cd27 ct27), sl27⟩)
    (c27 : PySem.W.codeIn K cd27 "_law_takes_down" = true) (k27 : PySem.W.keepIn K (.ref f__law_takes_down) = true)
    {od28 an28 : Option Addr} {sl28 : Array (Option Value)} {oc28 kV28 dc28 pm28 cd28 ct28 : Value}
    (a28 : PySem.W.nsIn K mainGlobals "_law_near" = some (some (.ref f__law_near)))
    (l28 : K.lookup f__law_near = some ⟨oc28, od28, .func (PySem.W.fnOf "_law_near" "_law_near" (defArgs sNear) (defBody sNear) (defScope sNear) .none kV28 dc28 pm28 an28 cd28 ct28), sl28⟩)
    (c28 : PySem.W.codeIn K cd28 "_law_near" = true) (k28 : PySem.W.keepIn K (.ref f__law_near) = true)
    {od29 an29 : Option Addr} {sl29 : Array (Option Value)} {oc29 kV29 dc29 pm29 cd29 ct29 : Value}
    (a29 : PySem.W.nsIn K mainGlobals "_law_right" = some (some (.ref f__law_right)))
    (l29 : K.lookup f__law_right = some ⟨oc29, od29, .func (PySem.W.fnOf "_law_right" "_law_right" (defArgs sRight) (defBody sRight) (defScope sRight) .none kV29 dc29 pm29 an29 cd29 ct29), sl29⟩)
    (c29 : PySem.W.codeIn K cd29 "_law_right" = true) (k29 : PySem.W.keepIn K (.ref f__law_right) = true)
    {od30 an30 : Option Addr} {sl30 : Array (Option Value)} {oc30 kV30 dc30 pm30 cd30 ct30 : Value}
    (a30 : PySem.W.nsIn K mainGlobals "law" = some (some (.ref f_law)))
    (l30 : K.lookup f_law = some ⟨oc30, od30, .func (PySem.W.fnOf "law" "law" (defArgs sLaw) (defBody sLaw) (defScope sLaw) .none kV30 dc30 pm30 an30 cd30 ct30), sl30⟩)
    (c30 : PySem.W.codeIn K cd30 "law" = true) (k30 : PySem.W.keepIn K (.ref f_law) = true)
    (z_isinstance : PySem.W.nsIn K mainGlobals "isinstance" = some none)
    (z_str : PySem.W.nsIn K mainGlobals "str" = some none)
    (z_int : PySem.W.nsIn K mainGlobals "int" = some none)
    (z_len : PySem.W.nsIn K mainGlobals "len" = some none)
    (z_max : PySem.W.nsIn K mainGlobals "max" = some none)
    (z_min : PySem.W.nsIn K mainGlobals "min" = some none)
    (z_abs : PySem.W.nsIn K mainGlobals "abs" = some none)
    (z_range : PySem.W.nsIn K mainGlobals "range" = some none)
    (z_tuple : PySem.W.nsIn K mainGlobals "tuple" = some none)
    (z_list : PySem.W.nsIn K mainGlobals "list" = some none)
    (z_enumerate : PySem.W.nsIn K mainGlobals "enumerate" = some none)
    (z_repr : PySem.W.nsIn K mainGlobals "repr" = some none)
    (z_all : PySem.W.nsIn K mainGlobals "all" = some none)
    (z_zip : PySem.W.nsIn K mainGlobals "zip" = some none)
    {tMAX_LETTERS : Tok} (yMAX_LETTERS : PySem.W.nsIn K mainGlobals "MAX_LETTERS" = some (some (.int 200 tMAX_LETTERS)))
    {tMAX_CHAIN : Tok} (yMAX_CHAIN : PySem.W.nsIn K mainGlobals "MAX_CHAIN" = some (some (.int 400 tMAX_CHAIN)))
    (kN_PC : PySem.W.nsIn K mainGlobals "Part" = some (some (.ref PC)))
    (kpg_PC : PySem.W.plainGet K PC Str.empty = true)
    (khd_PC : PySem.W.hasDictIn K PC = true)
    (kpo_PC : PySem.W.plainOver K PC = true)
    (ksa_PC : PySem.W.findIn K (.ref PC) "__setattr__" = some (some (.builtin "object.__setattr__")))
    (kmk_PC : PySem.W.makesIn K PC = true)
    (kkc_PC : PySem.W.keepIn K (.ref PC) = true)
    (kne_PC : PySem.W.findIn K (.ref PC) "__ne__" = some (some (.builtin "object.__ne__")))
    (kso_PC : PySem.W.subIn K (.ref PC) (.type "object") = some true)
    (kcl_PC : PySem.W.findIn K (.ref PC) "__class__" = some (some (.builtin "object.__class__")))
    (kcg_PC : PySem.W.specialIn K (.builtin "object.__class__") "__get__" = some (some (.builtin "getset_descriptor.__get__")))
    (kct_PC : PySem.W.takesIn K (.builtin "object.__class__") = some true)
    (kmo_PC : PySem.W.mroIn K PC (.type "object") = some true)
    (kf_text_PC : PySem.W.findIn K (.ref PC) "text" = some none)
    (kf_left_PC : PySem.W.findIn K (.ref PC) "left" = some none)
    (kf_right_PC : PySem.W.findIn K (.ref PC) "right" = some none)
    {od_PC_init an_PC_init : Option Addr} {sl_PC_init : Array (Option Value)} {oc_PC_init kV_PC_init dc_PC_init pm_PC_init cd_PC_init ct_PC_init : Value}
    (ma_PC_init : PySem.W.findIn K (.ref PC) "__init__" = some (some (.ref f_PC_init)))
    (mi_PC_init : PySem.W.isFn K (.ref f_PC_init) = true)
    (ml_PC_init : K.lookup f_PC_init = some ⟨oc_PC_init, od_PC_init, .func (PySem.W.fnOf "__init__" "Part.__init__" (defArgs sPInit) (defBody sPInit) (defScope sPInit) .none kV_PC_init dc_PC_init pm_PC_init an_PC_init cd_PC_init ct_PC_init), sl_PC_init⟩)
    (mc_PC_init : PySem.W.codeIn K cd_PC_init "Part.__init__" = true)
    (mk_PC_init : PySem.W.keepIn K (.ref f_PC_init) = true)
    (mf_PC_init : PySem.W.fnIn K f_PC_init = true)
    : ∃ fd : FuncData, (∀ (s : Shared) (v : Value), BindsTo s fd ⟨[v], []⟩ [("script", v)]) ∧ ∀ base : Heap, K.In base → base.Ns mainGlobals mg → (∃ mm, base.Ns sysModules mm) → FnG l.prog w K mg base CX0 11 fa fd ["script"] (spLaw K) := by
  have e := hfa.symm.trans (PySem.W.mg_of X G a30)
  cases e
  have F_is_letter := fun_mk (st := sLetter) l0 c0 k0
  have b_is_letter := F_is_letter.binds (ps := ["value"]) fun _ _ _ _ _ _ us hl => match us, hl with | [_], _ => rfl
  have g_is_letter := PySem.W.mg_of X G a0
  have q_is_letter := F_is_letter.kp
  have F_joined := fun_mk (st := sJoined) l1 c1 k1
  have b_joined := F_joined.binds (ps := ["left", "right"]) fun _ _ _ _ _ _ us hl => match us, hl with | [_, _], _ => rfl
  have g_joined := PySem.W.mg_of X G a1
  have q_joined := F_joined.kp
  have F_parts_of := fun_mk (st := sParts) l2 c2 k2
  have b_parts_of := F_parts_of.binds (ps := ["term"]) fun _ _ _ _ _ _ us hl => match us, hl with | [_], _ => rfl
  have g_parts_of := PySem.W.mg_of X G a2
  have q_parts_of := F_parts_of.kp
  have F_rules_at := fun_mk (st := sRules) l3 c3 k3
  have b_rules_at := F_rules_at.binds (ps := ["part"]) fun _ _ _ _ _ _ us hl => match us, hl with | [_], _ => rfl
  have g_rules_at := PySem.W.mg_of X G a3
  have q_rules_at := F_rules_at.kp
  have F_form_of_product := fun_mk (st := sFormP) l4 c4 k4
  have b_form_of_product := F_form_of_product.binds (ps := ["left", "right"]) fun _ _ _ _ _ _ us hl => match us, hl with | [_, _], _ => rfl
  have g_form_of_product := PySem.W.mg_of X G a4
  have q_form_of_product := F_form_of_product.kp
  have F_form_part := fun_mk (st := sFormT) l5 c5 k5
  have b_form_part := F_form_part.binds (ps := ["term"]) fun _ _ _ _ _ _ us hl => match us, hl with | [_], _ => rfl
  have g_form_part := PySem.W.mg_of X G a5
  have q_form_part := F_form_part.kp
  have F_is_term := fun_mk (st := sTerm) l6 c6 k6
  have b_is_term := F_is_term.binds (ps := ["value"]) fun _ _ _ _ _ _ us hl => match us, hl with | [_], _ => rfl
  have g_is_term := PySem.W.mg_of X G a6
  have q_is_term := F_is_term.kp
  have F_check_term := fun_mk (st := sCkTerm) l7 c7 k7
  have b_check_term := F_check_term.binds (ps := ["value"]) fun _ _ _ _ _ _ us hl => match us, hl with | [_], _ => rfl
  have g_check_term := PySem.W.mg_of X G a7
  have q_check_term := F_check_term.kp
  have F_is_form := fun_mk (st := sIsForm) l8 c8 k8
  have b_is_form := F_is_form.binds (ps := ["value"]) fun _ _ _ _ _ _ us hl => match us, hl with | [_], _ => rfl
  have g_is_form := PySem.W.mg_of X G a8
  have q_is_form := F_is_form.kp
  have F_is_equality_paper := fun_mk (st := sIsPaper) l9 c9 k9
  have b_is_equality_paper := F_is_equality_paper.binds (ps := ["one", "other", "value"]) fun _ _ _ _ _ _ us hl => match us, hl with | [_, _, _], _ => rfl
  have g_is_equality_paper := PySem.W.mg_of X G a9
  have q_is_equality_paper := F_is_equality_paper.kp
  have F__with_result := fun_mk (st := sWithR) l10 c10 k10
  have b__with_result := F__with_result.binds (ps := ["term", "index", "part", "result"]) fun _ _ _ _ _ _ us hl => match us, hl with | [_, _, _, _], _ => rfl
  have g__with_result := PySem.W.mg_of X G a10
  have q__with_result := F__with_result.kp
  have F__is_chain := fun_mk (st := sIsChain) l11 c11 k11
  have b__is_chain := F__is_chain.binds (ps := ["value"]) fun _ _ _ _ _ _ us hl => match us, hl with | [_], _ => rfl
  have g__is_chain := PySem.W.mg_of X G a11
  have q__is_chain := F__is_chain.kp
  have F__is_step := fun_mk (st := sIsStep) l12 c12 k12
  have b__is_step := F__is_step.binds (ps := ["high", "low"]) fun _ _ _ _ _ _ us hl => match us, hl with | [_, _], _ => rfl
  have g__is_step := PySem.W.mg_of X G a12
  have q__is_step := F__is_step.kp
  have F__joins := fun_mk (st := sJoins) l13 c13 k13
  have b__joins := F__joins.binds (ps := ["one", "other", "chain"]) fun _ _ _ _ _ _ us hl => match us, hl with | [_, _, _], _ => rfl
  have g__joins := PySem.W.mg_of X G a13
  have q__joins := F__joins.kp
  have F__leads_down := fun_mk (st := sLeads) l14 c14 k14
  have b__leads_down := F__leads_down.binds (ps := ["term", "chain"]) fun _ _ _ _ _ _ us hl => match us, hl with | [_, _], _ => rfl
  have g__leads_down := PySem.W.mg_of X G a14
  have q__leads_down := F__leads_down.kp
  have F__law_dice := fun_mk (st := sDice) l15 c15 k15
  have b__law_dice := F__law_dice.binds (ps := ["script", "spot"]) fun _ _ _ _ _ _ us hl => match us, hl with | [_, _], _ => rfl
  have g__law_dice := PySem.W.mg_of X G a15
  have q__law_dice := F__law_dice.kp
  have F__law_roll := fun_mk (st := sRoll) l16 c16 k16
  have b__law_roll := F__law_roll.binds (ps := ["dice", "total"]) fun _ _ _ _ _ _ us hl => match us, hl with | [_, _], _ => rfl
  have g__law_roll := PySem.W.mg_of X G a16
  have q__law_roll := F__law_roll.kp
  have F__law_pick := fun_mk (st := sPick) l17 c17 k17
  have b__law_pick := F__law_pick.binds (ps := ["dice", "items"]) fun _ _ _ _ _ _ us hl => match us, hl with | [_, _], _ => rfl
  have g__law_pick := PySem.W.mg_of X G a17
  have q__law_pick := F__law_pick.kp
  have F__law_grown_term := fun_mk (st := sGrown) l18 c18 k18
  have b__law_grown_term := F__law_grown_term.binds (ps := ["dice", "letters", "size"]) fun _ _ _ _ _ _ us hl => match us, hl with | [_, _, _], _ => rfl
  have g__law_grown_term := PySem.W.mg_of X G a18
  have q__law_grown_term := F__law_grown_term.kp
  have F__law_part_of := fun_mk (st := sPartOf) l19 c19 k19
  have b__law_part_of := F__law_part_of.binds (ps := ["term", "index"]) fun _ _ _ _ _ _ us hl => match us, hl with | [_, _], _ => rfl
  have g__law_part_of := PySem.W.mg_of X G a19
  have q__law_part_of := F__law_part_of.kp
  have F__law_sides := fun_mk (st := sLSides) l20 c20 k20
  have b__law_sides := F__law_sides.binds (ps := ["term"]) fun _ _ _ _ _ _ us hl => match us, hl with | [_], _ => rfl
  have g__law_sides := PySem.W.mg_of X G a20
  have q__law_sides := F__law_sides.kp
  have F__law_rule_results := fun_mk (st := sRes) l21 c21 k21
  have b__law_rule_results := F__law_rule_results.binds (ps := ["part"]) fun _ _ _ _ _ _ us hl => match us, hl with | [_], _ => rfl
  have g__law_rule_results := PySem.W.mg_of X G a21
  have q__law_rule_results := F__law_rule_results.kp
  have F__law_steps := fun_mk (st := sLSteps) l22 c22 k22
  have b__law_steps := F__law_steps.binds (ps := ["term"]) fun _ _ _ _ _ _ us hl => match us, hl with | [_], _ => rfl
  have g__law_steps := PySem.W.mg_of X G a22
  have q__law_steps := F__law_steps.kp
  have F__law_down := fun_mk (st := sDown) l23 c23 k23
  have b__law_down := F__law_down.binds (ps := ["dice", "term"]) fun _ _ _ _ _ _ us hl => match us, hl with | [_, _], _ => rfl
  have g__law_down := PySem.W.mg_of X G a23
  have q__law_down := F__law_down.kp
  have F__law_up := fun_mk (st := sUp) l24 c24 k24
  have b__law_up := F__law_up.binds (ps := ["dice", "term", "letters"]) fun _ _ _ _ _ _ us hl => match us, hl with | [_, _, _], _ => rfl
  have g__law_up := PySem.W.mg_of X G a24
  have q__law_up := F__law_up.kp
  have F__law_leads := fun_mk (st := sLLeads) l25 c25 k25
  have b__law_leads := F__law_leads.binds (ps := ["one", "other"]) fun _ _ _ _ _ _ us hl => match us, hl with | [_, _], _ => rfl
  have g__law_leads := PySem.W.mg_of X G a25
  have q__law_leads := F__law_leads.kp
  have F__law_takes := fun_mk (st := sTakes) l26 c26 k26
  have b__law_takes := F__law_takes.binds (ps := ["one", "other", "chain"]) fun _ _ _ _ _ _ us hl => match us, hl with | [_, _, _], _ => rfl
  have g__law_takes := PySem.W.mg_of X G a26
  have q__law_takes := F__law_takes.kp
  have F__law_takes_down := fun_mk (st := sTDown) l27 c27 k27
  have b__law_takes_down := F__law_takes_down.binds (ps := ["term", "chain"]) fun _ _ _ _ _ _ us hl => match us, hl with | [_, _], _ => rfl
  have g__law_takes_down := PySem.W.mg_of X G a27
  have q__law_takes_down := F__law_takes_down.kp
  have F__law_near := fun_mk (st := sNear) l28 c28 k28
  have b__law_near := F__law_near.binds (ps := ["dice", "chain", "letters"]) fun _ _ _ _ _ _ us hl => match us, hl with | [_, _, _], _ => rfl
  have g__law_near := PySem.W.mg_of X G a28
  have q__law_near := F__law_near.kp
  have F__law_right := fun_mk (st := sRight) l29 c29 k29
  have b__law_right := F__law_right.binds (ps := ["dice", "letters"]) fun _ _ _ _ _ _ us hl => match us, hl with | [_, _], _ => rfl
  have g__law_right := PySem.W.mg_of X G a29
  have q__law_right := F__law_right.kp
  have F_law := fun_mk (st := sLaw) l30 c30 k30
  have m_isinstance := PySem.W.mg_none_of X G z_isinstance
  have m_str := PySem.W.mg_none_of X G z_str
  have m_int := PySem.W.mg_none_of X G z_int
  have m_len := PySem.W.mg_none_of X G z_len
  have m_max := PySem.W.mg_none_of X G z_max
  have m_min := PySem.W.mg_none_of X G z_min
  have m_abs := PySem.W.mg_none_of X G z_abs
  have m_range := PySem.W.mg_none_of X G z_range
  have m_tuple := PySem.W.mg_none_of X G z_tuple
  have m_list := PySem.W.mg_none_of X G z_list
  have m_enumerate := PySem.W.mg_none_of X G z_enumerate
  have m_repr := PySem.W.mg_none_of X G z_repr
  have m_all := PySem.W.mg_none_of X G z_all
  have m_zip := PySem.W.mg_none_of X G z_zip
  have mMAX_LETTERS := PySem.W.mg_of X G yMAX_LETTERS
  have mMAX_CHAIN := PySem.W.mg_of X G yMAX_CHAIN
  have g_PC := PySem.W.mg_of X G kN_PC
  have W_PC : Cls K PC := ⟨kpg_PC, khd_PC, kpo_PC, ksa_PC⟩
  have F_PC_init := fun_mk (st := sPInit) ml_PC_init mc_PC_init mk_PC_init
  have b_PC_init := F_PC_init.binds (ps := ["self", "text", "left", "right"]) fun _ _ _ _ _ _ us hl => match us, hl with | [_, _, _, _], _ => rfl
  have M_PC_init : Meth K PC "__init__" f_PC_init := ⟨ma_PC_init, mi_PC_init, mk_PC_init⟩
  have K_PC : Mk K PC f_PC_init := ⟨kmk_PC, ma_PC_init, mi_PC_init, kkc_PC⟩
  refine ⟨PySem.W.fnOf "law" "law" (defArgs sLaw) (defBody sLaw) (defScope sLaw) .none kV30 dc30 pm30 an30 cd30 ct30, fun s v => .of_eq rfl, fun base _ _ sm => ?_⟩
  have W : PartC K PC := ⟨W_PC, kf_text_PC, kf_left_PC, kf_right_PC⟩
  have GD : FnOk l.prog w K mg base CX0 1 _ _ ["script", "spot"] (spDice K) := ok_dice F__law_dice m_len m_int m_max m_abs
  have GR : FnOk l.prog w K mg base CX0 1 _ _ ["dice", "total"] spRoll := ok_roll F__law_roll m_int
  have GK : FnOk l.prog w K mg base CX0 2 _ _ ["dice", "items"] (spPick K) := ok_pick F__law_pick F__law_roll b__law_roll g__law_roll m_len m_int
  have GKS : FnOk l.prog w K mg base CX0 2 _ _ ["dice", "items"] spPickS := ok_pickS F__law_pick F__law_roll b__law_roll g__law_roll m_len m_int
  have GL : FnOk l.prog w K mg base CX0 1 _ _ ["value"] spLetter1 := ok_letter F_is_letter m_str m_len m_isinstance
  have GT : FnOk l.prog w K mg base CX0 2 _ _ ["value"] (spTerm K) := ok_term F_is_term b_is_letter GL g_is_letter q_is_letter mMAX_LETTERS m_str m_len m_isinstance
  have GC := ok_ckterm F_check_term b_is_term GT g_is_term q_is_term
  have GPI : FnOk l.prog w K mg base CX0 1 _ _ ["self", "text", "left", "right"] (spPInit PC) := ok_pinit F_PC_init W
  have GJ := ok_joined F_joined W b_PC_init K_PC GPI g_PC
  have GP := ok_parts F_parts_of W b_PC_init b_joined K_PC GPI GJ g_PC g_joined q_joined
  have GRu : FnOk l.prog w K mg base CX0 1 _ _ ["part"] (spRulesAt PC) := ok_rules F_rules_at W
  have GFP := ok_formp F_form_of_product W b_joined b_rules_at GJ GRu g_joined g_rules_at q_joined q_rules_at
  have GFT := ok_formt F_form_part W b_PC_init b_form_of_product K_PC GPI GFP g_PC g_form_of_product q_form_of_product
  have GW : FnOk l.prog w K mg base CX0 1 _ _ ["term", "index", "part", "result"] (spWithR PC) := ok_withr F__with_result W m_len
  have GF := ok_isform F_is_form W b_is_term b_form_part GT GFT g_is_term g_form_part q_is_term q_form_part
  have GIs := ok_isstep F__is_step W b_parts_of b_rules_at b__with_result GP GRu GW g_parts_of g_rules_at g__with_result q_parts_of q_rules_at q__with_result m_enumerate m_len
  have GIc := ok_ischainx F__is_chain b_is_term GT g_is_term q_is_term mMAX_CHAIN m_isinstance m_tuple m_len m_all
  have GJo := ok_joinsx F__joins b__is_step GIs g__is_step q__is_step m_zip
  have GLe := ok_leadsx F__leads_down b__is_step b_is_form GIs GF g__is_step g_is_form q__is_step q_is_form m_zip
  have GIp := ok_ispaperx F_is_equality_paper b_check_term b__is_chain b__joins b__leads_down GC GIc GJo GLe g_check_term g__is_chain g__joins g__leads_down q_check_term q__is_chain q__joins q__leads_down m_isinstance m_tuple m_len m_all
  have GG' := ok_grown F__law_grown_term b__law_grown_term b__law_roll b__law_pick GR GKS g__law_grown_term g__law_roll g__law_pick q__law_grown_term q__law_roll q__law_pick
  have GPo : FnOk l.prog w K mg base CX0 1 _ _ ["term", "index"] spPartOf := ok_partof F__law_part_of m_range m_len
  have GSi := ok_lsides F__law_sides b__law_part_of GPo g__law_part_of q__law_part_of m_len
  have GRe := ok_res F__law_rule_results b__law_sides GSi g__law_sides q__law_sides
  have GLS := ok_lsteps F__law_steps b__law_part_of b__law_rule_results GPo GRe g__law_part_of g__law_rule_results q__law_part_of q__law_rule_results m_range m_len
  have GU := ok_up F__law_up b__law_part_of b__law_roll b__law_pick b__law_sides GPo GR GKS GSi g__law_part_of g__law_roll g__law_pick g__law_sides q__law_part_of q__law_roll q__law_pick q__law_sides m_len
  have GDo := ok_down F__law_down b__law_steps b__law_pick GLS GK g__law_steps g__law_pick q__law_steps q__law_pick m_range m_len
  have GLL := ok_lleads F__law_leads b__law_steps GLS g__law_steps q__law_steps
  have GTk := ok_takes F__law_takes b__law_leads GLL g__law_leads q__law_leads m_range m_len
  have GTd := ok_tdown F__law_takes_down b__law_leads b__law_steps GLL GLS g__law_leads g__law_steps q__law_leads q__law_steps m_range m_len
  have GNe := ok_near F__law_near b__law_roll b__law_grown_term b__law_up GR (GG' 4) GU g__law_roll g__law_grown_term g__law_up q__law_roll q__law_grown_term q__law_up m_len
  have GA := ok_right F__law_right b__law_roll b__law_grown_term b__law_near b_is_equality_paper b__law_takes b__law_takes_down b__law_steps b__law_pick b__law_up b__law_down GR GG' GNe GIp GTk GTd GLS GK GU GDo
    g__law_roll g__law_grown_term g__law_near g_is_equality_paper g__law_takes g__law_takes_down g__law_steps g__law_pick g__law_up g__law_down
    q__law_roll q__law_grown_term q__law_near q_is_equality_paper q__law_takes q__law_takes_down q__law_steps q__law_pick q__law_up q__law_down m_repr m_tuple m_list m_range m_len
  exact ok_law F_law b__law_dice b__law_pick b__law_right b_is_equality_paper GD GK GA GIp g__law_dice g__law_pick g__law_right g_is_equality_paper q__law_dice q__law_pick q__law_right q_is_equality_paper m_range m_max m_min m_len
end K78

set_option maxHeartbeats 4000000
open PySem PySem.W PyProof.Rows
set_option maxHeartbeats 0 in
theorem PySem.Challenge.cw_onebetween_k78_whole_equality_papers_jud_holds : PySem.Challenge.rw_onebetween_k78_whole_equality_papers_jud.Holds := by
  w_on; o_law; k_head; (case hw => w_witness2)
  k_fill
  refine GG.walkS (l := PySem.Challenge.rw_onebetween_k78_whole_equality_papers_jud) (n := 63) (k := 11) (x := "script") (CX := fun _ => L2.CX0) (sp := fun w => K78.spLaw _) (by first | kernel_rfl | decide +kernel) rfl (by decide) rfl ⟨rfl, by decide, by decide⟩ (fun w h Y => PySem.W.kIn_of Y) ?F (fun _ _ a ns hl _ hS => ⟨a, ns, rfl, hS, hl, fun _ => rfl⟩) (fun _ _ _ _ _ h => h)
  case F =>
    intro w mg fa h KX G hmg
    refine' K78.all_mk KX G hmg ?a0 ?l0 ?c0 ?k0 ?a1 ?l1 ?c1 ?k1 ?a2 ?l2 ?c2 ?k2 ?a3 ?l3 ?c3 ?k3 ?a4 ?l4 ?c4 ?k4 ?a5 ?l5 ?c5 ?k5 ?a6 ?l6 ?c6 ?k6 ?a7 ?l7 ?c7 ?k7 ?a8 ?l8 ?c8 ?k8 ?a9 ?l9 ?c9 ?k9 ?a10 ?l10 ?c10 ?k10 ?a11 ?l11 ?c11 ?k11 ?a12 ?l12 ?c12 ?k12 ?a13 ?l13 ?c13 ?k13 ?a14 ?l14 ?c14 ?k14 ?a15 ?l15 ?c15 ?k15 ?a16 ?l16 ?c16 ?k16 ?a17 ?l17 ?c17 ?k17 ?a18 ?l18 ?c18 ?k18 ?a19 ?l19 ?c19 ?k19 ?a20 ?l20 ?c20 ?k20 ?a21 ?l21 ?c21 ?k21 ?a22 ?l22 ?c22 ?k22 ?a23 ?l23 ?c23 ?k23 ?a24 ?l24 ?c24 ?k24 ?a25 ?l25 ?c25 ?k25 ?a26 ?l26 ?c26 ?k26 ?a27 ?l27 ?c27 ?k27 ?a28 ?l28 ?c28 ?k28 ?a29 ?l29 ?c29 ?k29 ?a30 ?l30 ?c30 ?k30 ?z_isinstance ?z_str ?z_int ?z_len ?z_max ?z_min ?z_abs ?z_range ?z_tuple ?z_list ?z_enumerate ?z_repr ?z_all ?z_zip ?yMAX_LETTERS ?yMAX_CHAIN ?kN_PC ?kpg_PC ?khd_PC ?kpo_PC ?ksa_PC ?kmk_PC ?kkc_PC ?kne_PC ?kso_PC ?kcl_PC ?kcg_PC ?kct_PC ?kmo_PC ?kf_text_PC ?kf_left_PC ?kf_right_PC ?ma_PC_init ?mi_PC_init ?ml_PC_init ?mc_PC_init ?mk_PC_init ?mf_PC_init
    (case a0 => k_is); (case l0 => k_is); (case c0 => k_is); (case k0 => k_is); (case a1 => k_is); (case l1 => k_is); (case c1 => k_is); (case k1 => k_is); (case a2 => k_is); (case l2 => k_is); (case c2 => k_is); (case k2 => k_is); (case a3 => k_is); (case l3 => k_is); (case c3 => k_is); (case k3 => k_is); (case a4 => k_is); (case l4 => k_is); (case c4 => k_is); (case k4 => k_is); (case a5 => k_is); (case l5 => k_is); (case c5 => k_is); (case k5 => k_is); (case a6 => k_is); (case l6 => k_is); (case c6 => k_is); (case k6 => k_is); (case a7 => k_is); (case l7 => k_is); (case c7 => k_is); (case k7 => k_is); (case a8 => k_is); (case l8 => k_is); (case c8 => k_is); (case k8 => k_is); (case a9 => k_is); (case l9 => k_is); (case c9 => k_is); (case k9 => k_is); (case a10 => k_is); (case l10 => k_is); (case c10 => k_is); (case k10 => k_is); (case a11 => k_is); (case l11 => k_is); (case c11 => k_is); (case k11 => k_is); (case a12 => k_is); (case l12 => k_is); (case c12 => k_is); (case k12 => k_is); (case a13 => k_is); (case l13 => k_is); (case c13 => k_is); (case k13 => k_is); (case a14 => k_is); (case l14 => k_is); (case c14 => k_is); (case k14 => k_is); (case a15 => k_is); (case l15 => k_is); (case c15 => k_is); (case k15 => k_is); (case a16 => k_is); (case l16 => k_is); (case c16 => k_is); (case k16 => k_is); (case a17 => k_is); (case l17 => k_is); (case c17 => k_is); (case k17 => k_is); (case a18 => k_is); (case l18 => k_is); (case c18 => k_is); (case k18 => k_is); (case a19 => k_is); (case l19 => k_is); (case c19 => k_is); (case k19 => k_is); (case a20 => k_is); (case l20 => k_is); (case c20 => k_is); (case k20 => k_is); (case a21 => k_is); (case l21 => k_is); (case c21 => k_is); (case k21 => k_is); (case a22 => k_is); (case l22 => k_is); (case c22 => k_is); (case k22 => k_is); (case a23 => k_is); (case l23 => k_is); (case c23 => k_is); (case k23 => k_is); (case a24 => k_is); (case l24 => k_is); (case c24 => k_is); (case k24 => k_is); (case a25 => k_is); (case l25 => k_is); (case c25 => k_is); (case k25 => k_is); (case a26 => k_is); (case l26 => k_is); (case c26 => k_is); (case k26 => k_is); (case a27 => k_is); (case l27 => k_is); (case c27 => k_is); (case k27 => k_is); (case a28 => k_is); (case l28 => k_is); (case c28 => k_is); (case k28 => k_is); (case a29 => k_is); (case l29 => k_is); (case c29 => k_is); (case k29 => k_is); (case a30 => k_is); (case l30 => k_is); (case c30 => k_is); (case k30 => k_is); (case z_isinstance => k_is); (case z_str => k_is); (case z_int => k_is); (case z_len => k_is); (case z_max => k_is); (case z_min => k_is); (case z_abs => k_is); (case z_range => k_is); (case z_tuple => k_is); (case z_list => k_is); (case z_enumerate => k_is); (case z_repr => k_is); (case z_all => k_is); (case z_zip => k_is); (case yMAX_LETTERS => k_is); (case yMAX_CHAIN => k_is); (case kN_PC => k_is); (case kpg_PC => k_is); (case khd_PC => k_is); (case kpo_PC => k_is); (case ksa_PC => k_is); (case kmk_PC => k_is); (case kkc_PC => k_is); (case kne_PC => k_is); (case kso_PC => k_is); (case kcl_PC => k_is); (case kcg_PC => k_is); (case kct_PC => k_is); (case kmo_PC => k_is); (case kf_text_PC => k_is); (case kf_left_PC => k_is); (case kf_right_PC => k_is); (case ma_PC_init => k_is); (case mi_PC_init => k_is); (case ml_PC_init => k_is); (case mc_PC_init => k_is); (case mk_PC_init => k_is); (case mf_PC_init => k_is)
