import PyProof.Rows.All
import Wide.All
import OpenK.AllK
import Wide.FinOn
import HandS.ForMost
import HandS.IsInst
import HandS.Wide
import PyProof.ReprRoads
import HandS.ForExc
import HandS.TryMany
import HandS.ExcField
import KE.KExcInit
import HandS.Lambda
import HandS.EndTab
import KE.GoesEnum
import HandS.Iter
import HandS.Walk
import HandS.RevRange
import HandS.WideBits
import HandS.Style
import HandS.TupMul
import HandS.Conv
import PyProof.ReprLen
import HandS.DictComp
import HandS.SortInts
import HandS.Zip
import HandS.TupAny
import OpenK.KMeth
import OpenK.KOps
import PyProof.InstNe
import HandS.Property
import PyProof.Rows.TupAdd
import HandS.Codes
import HandS.ExcIs
import PySem.Challenge.RW_onebetween_k09_word_webs_told
set_option Elab.async false
set_option linter.all false
set_option maxRecDepth 100000
set_option maxHeartbeats 4000000
namespace GG
open PySem PySem.Spec PyProof.Rows L2

/-! ### promises that are kept where no repr is under way -/
structure FnG (P : Program) (w : World) (K : PySem.W.Frag) (mg : Str → Option Value) (base : Heap) (CX : CXT) (k : Nat)
    (f : Addr) (fd : FuncData) (ps : List Str) (sp : Sp) : Prop where
  lens : ∀ vs H Q E, sp vs H Q E → vs.length = ps.length
  go : ∀ (A : Around) (outer : List Env) (s : Shared) (H : Hp) (ar : Args) (us : List Value) (vs : List V) (Q : VK) (E : XK),
    A.guards = some [] → Room k A → Env0 P w K mg base A outer s H → BindsTo s fd ar (ps.zip us) → Vals vs us →
    sp vs H Q E → codeAny (model P w) A (.call (.ref f) ar) (CR CX outer P w H s Q E) s

section
variable {P : Program} {w : World} {K : PySem.W.Frag} {mg : Str → Option Value} {base : Heap} {CX : CXT} {k : Nat}
  {f : Addr} {fd : FuncData} {ps : List Str} {sp : Sp}
theorem FnG.ofOk (F : FnOk P w K mg base CX k f fd ps sp) : FnG P w K mg base CX k f fd ps sp :=
  ⟨F.len, fun A o s H ar us vs Q E _ hr => F.run A o s H ar us vs Q E hr⟩

theorem fnG_lk {x qual : Str} {st : Stmt} {N : List Str} {oc : Value} {od an : Option Addr} {osl : Array (Option Value)} {kV doc pm cdv ct : Value}
    (lk : K.lookup f = some ⟨oc, od, .func (PySem.W.fnOf x qual (defArgs st) (defBody st) (defScope st) .none kV doc pm an cdv ct), osl⟩)
    (hcd : PySem.W.codeIn K cdv qual = true) (S : FnScope N ps (defScope st))
    (lens : ∀ vs H Q E, sp vs H Q E → vs.length = ps.length)
    (hb : ∀ (A : Around) (outer : List Env) (s : Shared) (H : Hp) (vs : List V) (Q : VK) (E : XK),
      (A.deeper (envOfC qual (defScope st) s.heap.objs.size f cdv)).guards = some [] →
      Room k (A.deeper (envOfC qual (defScope st) s.heap.objs.size f cdv)) → sp vs H Q E →
      ∃ t, PSs (cxOf CX P w K mg base N qual (defScope st) f cdv A outer s H E) (defBody st) t ∧
        t { nx := fun _ H' => Q .non H', rt := Q } (start N vs) H) :
    FnG P w K mg base CX (k + 1) f (PySem.W.fnOf x qual (defArgs st) (defBody st) (defScope st) .none kV doc pm an cdv ct) ps sp := by
  refine ⟨lens, ?_⟩
  intro A outer s H ar us vs Q E gA room en bd vl hs
  have inK : K.In s.heap := en.mod.kin.keeps (fun b o z => (en.bs b o z).left)
  have noL : s.heap.NoLimit := en.mod.nolimit.keeps (fun b o z => (en.bs b o z).left)
  have kinds : ∀ y ∈ ps.zip us, (defScope st).names.lookup y.1 = some .local ∨
      ((defScope st).names.lookup y.1 = some .cell ∧
        ((cellsFrom (s.heap.objs.size + 1) (defScope st).names []).lookup y.1).isSome = true) := by
    intro ⟨n, v⟩ hy
    cases S.par n (List.of_mem_zip hy).left with
    | inl q => exact Or.inl q
    | inr q => exact Or.inr ⟨q, PySem.W.cellsFrom_some _ _ _ (Or.inl q)⟩
  refine codeAny_call_function room.depth (inK _ _ lk) rfl S.co S.gen rfl
    (PySem.W.codeRec_of inK hcd) (bd _ _ _ _ ?_)
  refine wpAny_newFunctionEnv_cells S.kind kinds (fun env he s1 ic => ?_)
  subst he
  refine ⟨noL.keeps ic.toInCall.keep, codeAny_func ?_⟩
  obtain ⟨t, ht, hq⟩ := hb A outer s H vs Q E gA (room.deeper _) hs
  have J := inv_start (CX := CX) (P := P) (E := E) S room.hd en (lens _ _ _ _ hs) vl ic
  refine wpAny_mono (ht.run [] s1 (start N vs) H _ J hq) (fun fl s2 ends => ?_) (fun _ _ z => z)
  cases fl with
  | next =>
    obtain ⟨σ2, H2, I2, q2⟩ := ends
    exact ⟨V.non, H2, I2.os, I2.bare, I2.base, I2.hok, rfl, q2⟩
  | ret u =>
    obtain ⟨v, σ2, H2, I2, rv, q2⟩ := ends
    exact ⟨v, H2, I2.os, I2.bare, I2.base, I2.hok, rv, q2⟩
  | brk => exact ends.elim (fun _ z => z.elim (fun _ z => z.right.elim))
  | cont => exact ends.elim (fun _ z => z.elim (fun _ z => z.right.elim))
theorem fnG_of {x qual : Str} {st : Stmt} {N : List Str} (F : Fun K x qual st f fd) (S : FnScope N ps (defScope st))
    (lens : ∀ vs H Q E, sp vs H Q E → vs.length = ps.length)
    (hb : ∀ (cdv : Value) (A : Around) (outer : List Env) (s : Shared) (H : Hp) (vs : List V) (Q : VK) (E : XK),
      (A.deeper (envOfC qual (defScope st) s.heap.objs.size f cdv)).guards = some [] →
      Room k (A.deeper (envOfC qual (defScope st) s.heap.objs.size f cdv)) → sp vs H Q E →
      ∃ t, PSs (cxOf CX P w K mg base N qual (defScope st) f cdv A outer s H E) (defBody st) t ∧
        t { nx := fun _ H' => Q .non H', rt := Q } (start N vs) H) :
    FnG P w K mg base CX (k + 1) f fd ps sp := by
  obtain ⟨oc, od, kV, doc, pm, an, cdv, ct, osl, rfl, lk, hcd⟩ := F.ex
  exact fnG_lk lk hcd S lens (hb cdv)
/-- .. of a def that lets no exception out -/
theorem fnG0 {x qual : Str} {st : Stmt} {N : List Str} (F : Fun K x qual st f fd) (S : FnScope N ps (defScope st))
    (lens : ∀ vs H Q E, sp vs H Q E → vs.length = ps.length)
    (hb : ∀ (cdv : Value) (A : Around) (outer : List Env) (s : Shared) (H : Hp) (vs : List V) (Q : VK) (E : XK),
      (A.deeper (envOfC qual (defScope st) s.heap.objs.size f cdv)).guards = some [] →
      Room k (A.deeper (envOfC qual (defScope st) s.heap.objs.size f cdv)) → sp vs H Q E →
      ∃ t, PSs (cxOf CX0 P w K mg base N qual (defScope st) f cdv A outer s H E).nox (defBody st) t ∧
        t { nx := fun _ H' => Q .non H', rt := Q } (start N vs) H) :
    FnG P w K mg base CX0 (k + 1) f fd ps sp :=
  fnG_of F S lens (fun cdv A outer s H vs Q E g r h => (hb cdv A outer s H vs Q E g r h).imp (fun _ z => ⟨z.left.nox, z.right⟩))
end

section
variable {X : Cx} {CX : CXT} {k : Nat} {f : Addr} {fd : FuncData} {ps : List Str} {sp : Sp} {dvs : List V} {ds : List Value}
  {E : XK} {x : Str} {p pos : Pos} {e : Expr} {es : List Expr} {t : TA}
theorem runG {pins : List (Addr × Obj)} {σ : L2.St} {H : Hp} {s : Shared} {Q : VK} {us : List Value} {vs : List V}
    (F : FnG X.prog X.w X.K X.mg X.base CX k f fd ps sp) (gd : X.A.guards = some []) (room : Room k X.A)
    (bd : Binds X.K fd ps ds) (dv : Vals dvs ds) (pass : Passes CX X E) (I : Inv X pins σ H s) (r : Vals vs us)
    (h : sp (vs ++ dvs) H Q E) : wpAny (model X.prog X.w) X.A (call (.ref f) us) (EP X pins σ Q) X.xe s := by
  have both : Vals (vs ++ dvs) (us ++ ds) := Vals.append r dv
  have n : (us ++ ds).length = ps.length := both.length.symm.trans (F.lens _ _ _ _ h)
  have run := F.go X.A X.stack s H ⟨us, []⟩ (us ++ ds) (vs ++ dvs) Q E gd room I.env0 (bd s us I.kIn n) both h
  refine wpAny_call (codeAny_mono run ?_)
  intro res s2 z
  cases res with
  | error ex => exact pass pins σ H s ex s2 I z
  | ok fl =>
    cases fl with
    | ret u => exact Inv.after I z
    | next => exact z.elim
    | brk => exact z.elim
    | cont => exact z.elim
/-- f(e, ..) -/
theorem pe_callG (F : FnG X.prog X.w X.K X.mg X.base CX k f fd ps sp) (gd : X.A.guards = some []) (room : Room k X.A) (hg : Gl X x)
    (hm : X.mg x = some (.ref f)) (kp : PySem.W.keepIn X.K (.ref f) = true) (bd : Binds X.K fd ps ds) (dv : Vals dvs ds)
    (pass : Passes CX X E) (ha : PA X (e :: es) t) (hdb : (x == ("__debug__" : Str)) = false := by decide)
    (he : starEach (e :: es) X.env = (false, eval e X.env) :: starEach es X.env := by rfl)
    (hpl : (backTo pos (starEach es X.env)).any (·.1) = false := by rfl) :
    PE X (.Call (.Name x p) (e :: es) [] pos) (tCall sp dvs E t) := by
  constructor
  intro pins s σ H Q I h
  apply wpAny_Call_Name_kw
  apply ld_glob I hg hm _ hdb
  apply PySem.W.callWith_K (h₀ := X.base) I.ok.mod.kin kp _ he hpl
  apply thn (ha.run pos pins s σ H _ I h)
  intro us s1 ⟨vs, H1, I1, r, q⟩
  exact ⟨I1.kIn, runG F gd room bd dv pass I1 r q⟩
/-- f() -/
theorem pe_callG0 (F : FnG X.prog X.w X.K X.mg X.base CX k f fd ps sp) (gd : X.A.guards = some []) (room : Room k X.A) (hg : Gl X x)
    (hm : X.mg x = some (.ref f)) (kp : PySem.W.keepIn X.K (.ref f) = true) (bd : Binds X.K fd ps ds) (dv : Vals dvs ds)
    (pass : Passes CX X E) (hdb : (x == ("__debug__" : Str)) = false := by decide) :
    PE X (.Call (.Name x p) [] [] pos) (tCall sp dvs E tNil) := by
  constructor
  intro pins s σ H Q I h
  apply wpAny_Call_Name_kw
  apply ld_glob I hg hm _ hdb
  exact PySem.W.callWith_K0 I.kIn kp (runG (us := []) F gd room bd dv pass I .nil h)
end
end GG

namespace GG
open PySem PySem.Spec PyProof.Rows L2
/-! ### the end of a law's row, over such a promise -/
section
variable {P : Program} {w : World} {K : PySem.W.Frag} {mg mb : Str → Option Value} {CX : CXT} {k : Nat} {fa a : Addr} {fd : FuncData}
  {x : Str} {sp : Sp} {s₁ : Shared} {vs : List Value} {ns : List Int}
/-- from a heap in which the script alone may be tracked -/
theorem law_coreG {H : Hp} (KX : K.In s₁.heap) (ng : s₁.heap.Ns mainGlobals mg) (nb : s₁.heap.Ns builtinsNs mb)
    (bb : ∀ x : Str, x ≠ "__name__" → mb x = bootBuiltins x) (lim : s₁.heap.NoLimit) (g0 : s₁.gens = #[])
    (ha : s₁.heap.get? a = some { cls := .type "list", data := .seq vs.toArray }) (room : Room k callerA)
    (F : ∀ base : Heap, K.In base → base.Ns mainGlobals mg → FnG P w K mg base CX k fa fd [x] sp)
    (bind : ∀ (s : Shared) (u : Value), BindsTo s fd ⟨[u], []⟩ [(x, u)])
    (want : sp [.ref a] H (fun v _ => v = .bl true) fun _ _ _ => False)
    (noX : ∀ H e s', CX [] H s₁ (fun _ _ _ => False) e s' → False)
    (only : Only H) (ok : HOk P w H s₁.heap) (at_a : ∀ b, H b ≠ none → b = a) (notK : H a ≠ none → K.lookup a = none) :
    codeAny (model P w) callerA (.call (.ref fa) ⟨[.ref a], []⟩)
      (fun r s' => r = .ok (.ret (.bool true)) ∧ OldK s₁.heap s'.heap ∧ s'.os = s₁.os ∧ AllBare s'.gens) s₁ := by
  have dictFree : ∀ {b : Addr} {o : Obj} {es : Array DictEntry} {ep : Nat},
      s₁.heap.get? b = some o → o.data = .dict es ep → H b = none := by
    intro b o es ep e d
    rcases hq : H b with _ | u
    · rfl
    · have ba := at_a b (fun z => by rw [z] at hq; cases hq)
      rw [ba, ha] at e
      cases e
      cases (show Data.seq vs.toArray _ = Data.dict es ep from d)
  have ns : ∀ {b : Addr} {m : Str → Option Value}, s₁.heap.Ns b m → (hidT s₁.heap H).Ns b m := by
    rintro b m ⟨o, es, ep, e, d, r⟩
    exact ⟨o, es, ep, hidT_get e (dictFree e d), d, r⟩
  have KB : K.In (hidT s₁.heap H) := by
    intro b o e
    refine hidT_get (KX b o e) ?_
    rcases hq : H b with _ | u
    · rfl
    · have ba := at_a b (fun z => by rw [z] at hq; cases hq)
      rw [ba] at hq e
      rw [notK (fun z => by rw [z] at hq; cases hq)] at e
      cases e
  have en : Env0 P w K mg (hidT s₁.heap H) callerA [] s₁ H := by
    refine ⟨rfl, ⟨KB, ns ng, ⟨mb, ns nb, bb⟩, ?_⟩, fun b o e => of_hidT e, Nat.le_of_eq (hidT_size _ _), trivial, ?_, ok, .of_eq g0⟩
    · obtain ⟨mc, h1, h2⟩ := lim
      exact ⟨mc, ns h1, h2⟩
    · intro b z
      cases (show b ∈ ([] : List Addr) from z)
  refine codeAny_mono ((F _ KB (ns ng)).go callerA [] s₁ H ⟨[.ref a], []⟩ [.ref a] [.ref a] _ _ rfl room en
    (bind s₁ (.ref a)) (.cons rfl .nil) want) ?_
  intro r s' z
  cases r with
  | error e => exact (noX H e s' z).elim
  | ok fl =>
    cases fl with
    | next => exact z.elim
    | brk => exact z.elim
    | cont => exact z.elim
    | ret u =>
      obtain ⟨v, H', os, bare, un, ok', rv, q⟩ := z
      cases (show v = .bl true from q)
      cases (show u = Value.bool true from rv)
      refine ⟨rfl, OldK.of_keep ?_, os, bare⟩
      intro b o e
      rcases only b with hq | ⟨ob, xs, hq⟩
      · exact un.keep b o e hq (fun z => by cases (show b ∈ ([] : List Addr) from z)) (fun z => by cases z)
      · have f1 := (ok b _ hq).left
        have f2 := (ok' b _ (un.frzs b ob _ hq)).left
        rw [e] at f1
        cases f1
        exact f2
theorem law_callG (KX : K.In s₁.heap) (ng : s₁.heap.Ns mainGlobals mg) (nb : s₁.heap.Ns builtinsNs mb)
    (bb : ∀ x : Str, x ≠ "__name__" → mb x = bootBuiltins x) (lim : s₁.heap.NoLimit) (g0 : s₁.gens = #[])
    (ha : s₁.heap.get? a = some { cls := .type "list", data := .seq vs.toArray }) (hi : IntsAre vs ns) (hl : ns.length ≤ sizeLine)
    (room : Room k callerA) (F : ∀ base : Heap, K.In base → base.Ns mainGlobals mg → FnG P w K mg base CX k fa fd [x] sp)
    (bind : ∀ (s : Shared) (u : Value), BindsTo s fd ⟨[u], []⟩ [(x, u)])
    (want : ∀ H : Hp, Only H → SqL K H a (ns.map V.int) → sp [.ref a] H (fun v _ => v = .bl true) fun _ _ _ => False)
    (noX : ∀ H e s', CX [] H s₁ (fun _ _ _ => False) e s' → False) :
    codeAny (model P w) callerA (.call (.ref fa) ⟨[.ref a], []⟩)
      (fun r s' => r = .ok (.ret (.bool true)) ∧ OldK s₁.heap s'.heap ∧ s'.os = s₁.os ∧ AllBare s'.gens) s₁ := by
  have vi := vals_ints hi
  rcases hk : K.lookup a with _ | o
  · have hH : ∀ b, (fun b => if b = a then some (HO.frz { cls := .type "list", data := .seq vs.toArray } (.lst (ns.map V.int))) else none : Hp) b ≠ none → b = a := by
      intro b z
      by_cases e : b = a
      · exact e
      · exact absurd (if_neg e) z
    refine law_coreG (H := fun b => if b = a then some (HO.frz { cls := .type "list", data := .seq vs.toArray } (.lst (ns.map V.int))) else none)
      KX ng nb bb lim g0 ha room F bind (want _ ?_ (.inl (.inr ⟨_, if_pos rfl⟩))) noX ?_ ?_ hH (fun _ => hk)
    all_goals first
      | (intro b
         by_cases e : b = a
         · exact .inr ⟨_, _, if_pos e⟩
         · exact .inl (if_neg e))
      | (intro b u z
         by_cases e : b = a
         · have z' := (if_pos e).symm.trans z
           cases z'
           rw [e]
           exact ⟨ha, by rw [List.length_map]; exact hl, vs, _, vi, ha⟩
         · have z' := (if_neg e).symm.trans z
           cases z')
  · have e := KX a o hk
    rw [ha] at e
    cases e
    refine law_coreG (H := fun _ => none) KX ng nb bb lim g0 ha room F bind (want _ (fun _ => .inl rfl) ?_) noX (fun _ => .inl rfl) ?_ (fun b z => absurd rfl z) (fun z => absurd rfl z)
    · exact .inr ⟨_, vs.toArray, _, hk, rfl, rfl, rfl, by rw [List.size_toArray, hi.length]; exact hl, by simpa using vi⟩
    · intro b u z
      cases (show (none : Option HO) = some u from z)
end
/-- the goal that the head leaves -/
theorem walkG {l : PySem.W.OpenLaw} {n k : Nat} {q : Program} {loose : List Str} {XP : (Str → Option Value) → Heap → Prop} {YP : World → Heap → Prop}
    {d : DefRec} {K : Params → PySem.W.Frag} {CX : World → CXT} {sp : World → Sp} {x : Str}
    (hn : l.most = some n) (hn2 : n ≤ sizeLine) (hdf : d.params.defaults = []) (room : Room k callerA)
    (hY : ∀ (w : World) (h : Heap), YP w h → (K w.params).In h)
    (F : ∀ (w : World) (mg : Str → Option Value) (fa : Addr) (h : Heap), (K w.params).In h → h.Ns mainGlobals mg → mg d.name = some (.ref fa) →
      ∃ fd : FuncData, (∀ (s : Shared) (u : Value), BindsTo s fd ⟨[u], []⟩ [(x, u)]) ∧
        ∀ base : Heap, (K w.params).In base → base.Ns mainGlobals mg → FnG l.prog w (K w.params) mg base (CX w) k fa fd [x] (sp w))
    (want : ∀ (w : World) (H : Hp) (a : Addr) (ns : List Int), ns.length ≤ n → Only H → SqL (K w.params) H a (ns.map V.int) →
      sp w [.ref a] H (fun v _ => v = .bl true) fun _ _ _ => False)
    (noX : ∀ (w : World) (H : Hp) (s : Shared) (e : Value) (s' : Shared), CX w [] H s (fun _ _ _ => False) e s' → False) :
    PySem.W.WalkO q loose XP YP l.row.toRowW d [] (fun f vs => PySem.call f vs) := by
  apply Att.attach_call hn hdf
  intro w s₀ s₁ mg mb fa o pm cd doc a vs ns G Y ho hd hcd hmg hobj hints hlen hg
  obtain ⟨fd, hb, hF⟩ := F w mg fa _ (hY w _ Y) G.T.g hmg
  exact law_callG (hY w _ Y) G.T.g G.T.b G.T.builtins G.T.nolimit hg hobj hints (Nat.le_trans hlen hn2) room hF hb
    (fun H h1 h2 => want w H a ns hlen h1 h2) (fun H e s' => noX w H s₁ e s')
end GG

namespace GG
open PySem PySem.Spec PyProof.Rows L2
/-! ### repr of data -/
def isDsp : PyData → Bool
  | .list _ => true
  | .tuple _ => true
  | _ => false
/-- repr(x), x nested lists and tuples of bools, ints, texts, None -/
def rRepr (K : PySem.W.Frag) : List V → Hp → VK → Prop := fun xs H Q => ∃ x d, xs = [x] ∧ Dp K H x d ∧
  (d.showable = true ∧ d.hasDict = false ∧ d.depth ≤ 40 ∧ d.shown.length ≤ sizeLine) ∧ Q (.str d.shown) H
theorem call_reprU {X : Cx} (gd : X.A.guards = some []) (un : X.A.units + 64 < cLine) : CallR X (.builtin "repr") (rRepr X.K) := by
  intro pins s σ H xs us Q I r h
  obtain ⟨x, d, rfl, hd, ⟨sh, nod, dep, big⟩, q⟩ := h
  obtain ⟨u, rfl, ru⟩ := vals1 r
  cases d with
  | none =>
    cases hd
    cases (show u = Value.none from ru)
    exact PySem.P.repr_of_none ⟨.str _, H, I.tok _, ⟨_, rfl⟩, by simpa [PyData.shown] using q⟩
  | bool b =>
    cases hd
    cases (show u = Value.bool b from ru)
    exact PySem.P.repr_of_bool ⟨.str _, H, I.tok _, ⟨_, rfl⟩, by simpa [PyData.shown] using q⟩
  | int i =>
    cases hd
    obtain ⟨t, rfl⟩ := (show ∃ t, u = Value.int i t from ru)
    refine PySem.P.repr_of_int (by simpa [PyData.showable] using sh) ⟨.str _, H, I.tok _, ⟨_, rfl⟩, by simpa [PyData.shown] using q⟩
  | str y =>
    cases hd
    obtain ⟨t, rfl⟩ := (show ∃ t, u = Value.str y t from ru)
    exact PySem.P.repr_of_str ⟨.str _, H, I.tok _, ⟨_, rfl⟩, by simpa [PyData.shown] using q⟩ (by simpa [PyData.shown] using big)
  | dict kvs => cases hd
  | list ds =>
    obtain ⟨as, rd⟩ := Dp.reads I _ _ _ hd ru
    cases hd
    cases (show u = Value.ref _ from ru)
    refine repr_of_reads' rd sh (PyData.noDict_hsm nod) gd (by omega) (fun _ _ e => e) (fun h' u tk kept => ?_) big
    exact ⟨.str _, H, I.kept kept, ⟨_, rfl⟩, q⟩
  | tuple ds =>
    obtain ⟨as, rd⟩ := Dp.reads I _ _ _ hd ru
    cases hd
    cases (show u = Value.ref _ from ru)
    refine repr_of_reads' rd sh (PyData.noDict_hsm nod) gd (by omega) (fun _ _ e => e) (fun h' u tk kept => ?_) big
    exact ⟨.str _, H, I.kept kept, ⟨_, rfl⟩, q⟩
theorem call_reprD {X : Cx} {k : Nat} (gd : X.A.guards = some []) (room : Room k X.A) : CallR X (.builtin "repr") (rRepr X.K) := call_reprU gd room.units
/-! ### ** of a great base -/
def CPowW (i j : Int) : Prop := 0 ≤ j ∧ (Builtin.Int.intBits i : Int) * j ≤ 2 ^ 27
theorem op_powW {X : Cx} : OpR X (binaryOp .Pow) (rI CPowW fun i j => .int (i ^ j.toNat)) := opI fun _ _ _ _ _ _ _ hc q => pow_int hc.1 hc.2 q
/-! ### the heap but for one object -/
/-- all that stands in H stands in H', but for what is at l -/
def But (l : Addr) (H H' : Hp) : Prop := ∀ b o, b ≠ l → H b = some o → H' b = some o
theorem But.refl {l : Addr} {H : Hp} : But l H H := fun _ _ _ e => e
theorem But.trans {l : Addr} {H H1 H2 : Hp} (a : But l H H1) (b : But l H1 H2) : But l H H2 := fun c o n e => b c o n (a c o n e)
theorem But.same {l : Addr} {H H1 H2 : Hp} (a : But l H H1) (b : Same H1 H2) : But l H H2 := fun c o n e => b c o (a c o n e)
theorem But.ofSame {l : Addr} {H H1 : Hp} (b : Same H H1) : But l H H1 := fun c o _ e => b c o e
theorem But.new {l p : Addr} {H H1 : Hp} {o : HO} (a : But l H H1) (h : H1 p = none) : But l H (upd H1 p o) := fun c u n e => by
  have e1 := a c u n e
  rw [upd_ne (ne_of_none e1 h)]
  exact e1
theorem But.at {l : Addr} {H : Hp} {o : HO} : But l H (upd H l o) := fun c u n e => by
  rw [upd_ne n]
  exact e
theorem But.seqL {l a : Addr} {K : PySem.W.Frag} {H H' : Hp} {xs : List V} (b : But l H H') (n : a ≠ l) (h : SqL K H a xs) : SqL K H' a xs := by
  rcases h with (h | ⟨o, h⟩) | h
  · exact .inl (.inl (b _ _ n h))
  · exact .inl (.inr ⟨o, b _ _ n h⟩)
  · exact .inr h
theorem But.seqT {l a : Addr} {K : PySem.W.Frag} {H H' : Hp} {xs : List V} (b : But l H H') (n : a ≠ l) (h : SqT K H a xs) : SqT K H' a xs := by
  rcases h with (h | ⟨o, h⟩) | h
  · exact .inl (.inl (b _ _ n h))
  · exact .inl (.inr ⟨o, b _ _ n h⟩)
  · exact .inr h
theorem sameUpd {H : Hp} {p : Addr} {o : HO} (h : H p = none) : Same H (upd H p o) := fun b x e => by
  rw [upd_ne (ne_of_none e h)]
  exact e
/-! ### dice -/
def Dice (H : Hp) (l : Addr) : Prop := ∃ a b c : Int, H l = some (.lst [.int a, .int b, .int c]) ∧ 0 ≤ a
theorem Dice.same {H H' : Hp} {l : Addr} (d : Dice H l) (s : Same H H') : Dice H' l := by
  obtain ⟨a, b, c, e, h⟩ := d
  exact ⟨a, b, c, s _ _ e, h⟩
theorem Dice.new {H : Hp} {l p : Addr} {o : HO} (d : Dice H l) (h : H p = none) : Dice (upd H p o) l := d.same (sameUpd h)
theorem Dice.ne {H : Hp} {l p : Addr} (d : Dice H l) (h : H p = none) : l ≠ p := by
  obtain ⟨a, b, c, e, _⟩ := d
  exact ne_of_none e h
theorem mul60 : CMulW (10 ^ Int.toNat 60) (10 ^ Int.toNat 60) := by
  unfold CMulW
  decide +kernel
theorem pos60 : (0 : Int) < 10 ^ Int.toNat 60 * 10 ^ Int.toNat 60 := by decide +kernel
def spDice (K : PySem.W.Frag) : Sp := fun vs H Q _ => ∃ (a : Addr) (ns : List Int) (spot : Nat), vs = [.ref a, .int spot] ∧ SqL K H a (ns.map V.int) ∧
  spot ≤ 100 ∧ ∀ H' p, Same H H' → H p = none → Dice H' p → Q (.ref p) H'
def spRoll : Sp := fun vs H Q _ => ∃ (l : Addr) (t : Int), vs = [.ref l, .int t] ∧ Dice H l ∧ 0 < t ∧ t < 1073741824 ∧
  ∀ H' (r : Int), But l H H' → Dice H' l → 0 ≤ r → r < t → Q (.int r) H'
def spPick (K : PySem.W.Frag) : Sp := fun vs H Q _ => ∃ (l a : Addr) (xs : List V), vs = [.ref l, .ref a] ∧ Dice H l ∧ a ≠ l ∧
  (SqL K H a xs ∨ SqT K H a xs) ∧ 0 < xs.length ∧ xs.length ≤ 1000 ∧
  ∀ H' (i : Nat) (v : V), But l H H' → Dice H' l → xs[i]? = some v → Q v H'
end GG

set_option maxHeartbeats 4000000
namespace PySem
namespace GX
open PySem.W PySem.Calls PyProof.Rows PySem.HandSPX
/-! ### own exceptions with one field over any of the built-in classes -/
/-- what the written part says of the class named cn at C (its field fld), and of its __init__, at fI -/
structure OwnX (K : Frag) (mg : Str → Option Value) (cn fld : Str) (bmB : List Value) (newId : String) (C fI : Addr) : Prop where
  gC : mg cn = some (.ref C)
  cls : ∃ nm q N bs bm sn sub ab col dd k0 k1 k2 k3 k5, K.lookup C = some (excClassObj nm q C N bs bm true sn sub ab col dd k0 k1 k2 k3 k5 newId) ∧ excTail bmB bm = true
  sa : findIn K (.ref C) "__setattr__" = some (some (.builtin "object.__setattr__"))
  ga : findIn K (.ref C) "__getattribute__" = some (some (.builtin "BaseException.__getattribute__"))
  gg : findIn K (.ref C) "__getattr__" = some none
  noN : findIn K (.ref C) fld = some none
  iC : findIn K (.ref C) "__init__" = some (some (.ref fI))
  tC : typeIn K (.ref fI) = some (.type "function")
  kC : keepIn K (.ref C) = true
  exC : subIn K (.ref C) (.type "BaseException") = some true
  tyC : typeIn K (.ref C) = some (.type "type")
  hdC : hasDictIn K C = true
  te : exmOne K (.ref C) (.ref C) = some true
/-- what __init__ leaves of a fresh exception at x -/
structure Inited (fld : Str) (h h' : Heap) (x C dx t1 : Addr) (v : Value) : Prop where
  keep : ∀ b o, b ≠ x → h.get? b = some o → h'.get? b = some o
  obj : h'.get? x = some { cls := .ref C, dict := some dx, data := .fields #[.ref t1, .none, .none, .none, .bool false, .none] }
  dbig : h.objs.size ≤ dx
  dne : dx ≠ x
  ns : h'.Ns1 dx (fun y => if y = fld then some v else none)
/-- a made one -/
structure MadeX (fld : Str) (h h' : Heap) (e C d : Addr) (v : Value) : Prop where
  keep : ∀ b o, h.get? b = some o → h'.get? b = some o
  new : h.objs.size ≤ e
  obj : ∃ t1, h'.get? e = some { cls := .ref C, dict := some d, data := .fields #[.ref t1, .none, .none, .none, .bool false, .none] }
  dbig : h.objs.size ≤ d
  dne : d ≠ e
  ns : h'.Ns1 d (fun y => if y = fld then some v else none)
/-- the __init__ at fI stores its argument -/
def InitOk (K : Frag) (fld : Str) (C fI : Addr) : Prop :=
  ∀ (prog : Program) (w : World) (A : Around) (R : Result → Shared → Prop) (s : Shared) (x t0 : Addr) (v : Value), K.In s.heap → s.heap.NoLimit →
    s.heap.get? x = some (excO C t0) → K.lookup x = none → A.depth < recursionLimit →
    (∀ h' tk dx, Inited fld s.heap h' x C dx t0 v → R (.ok (.ret .none)) { s with heap := h', toks := tk }) →
    codeAny (model prog w) A (.call (.ref fI) ⟨[.ref x, v], []⟩) R s
theorem single_size (v : Value) : [v].length ≤ sizeLine := by
  rw [sizeLine_eq]
  exact (by decide : 1 ≤ 16777216)
theorem loadLoc {M : Model} {s : Shared} {name : Str} {scope : Scope} {L a : Addr} {cd : Value} {m : Str → Option Value} {x : Str} {pos : Pos} {v : Value} {Q : Value → Shared → Prop} {A : Around} {E : Value → Shared → Prop}
    (hn : s.heap.Ns L m) (hv : m x = some v) (h : Q v s) (hk : scope.kind = .function := by rfl)
    (hl : (envOfC name scope L a cd).kindOf x = some .local := by rfl) (hd : (x == ("__debug__" : Str)) = false := by decide) :
    wpAny M A (eval (.Name x pos) (envOfC name scope L a cd)) Q E s := wpAny_Name (wpAny_loadName_local hk hl hn hv h) hd
section
open Builtin Builtin.ObjectAttr
variable {prog : Program} {w : World} {A : Around} {E : Value → Shared → Prop} {R : Result → Shared → Prop} {hp : Heap} {g : Array GenState} {d : Drawn} {t : Nat} {os : OsState} {B newId initId : String} {bmB : List Value}
/-- self.name = v on such an exception that has no dict yet -/
theorem osaX {K : Frag} {name : Str} {tk : Tok} {v : Value} {x C : Addr} {fv : Array Value} {cd : ClassData} (SF : StoreFacts B bmB "object.__setattr__" "object")
    (X : K.In hp) (hx : hp.get? x = some { cls := .ref C, data := .fields fv }) (hcd : clsIn K C = some cd) (hov : excOver K C bmB = true)
    (hh : cd.hasDict = true) (ha : findIn K (.ref C) name = some none)
    (hq : ∀ h' tk' dx, (∀ b o, b ≠ x → hp.get? b = some o → h'.get? b = some o) → hp.objs.size ≤ dx → dx ≠ x →
      h'.get? x = some { cls := .ref C, dict := some dx, data := .fields fv } →
      h'.Ns1 dx (fun y => if y = name then some v else none) → R (.ok (.ret .none)) ⟨h', g, d, tk', os⟩) :
    codeAny (model prog w) A (.call (.builtin "object.__setattr__") ⟨[.ref x, .str name tk, v], []⟩) R ⟨hp, g, d, t, os⟩ := by
  have I : InstAt hp x { cls := .ref C, data := .fields fv } C none := ⟨hx, rfl, rfl, trivial⟩
  have xs : x ≠ hp.objs.size := Nat.ne_of_lt (Heap.lt_size hx)
  have taker : takerIn K C name = some none := by
    unfold takerIn
    rw [ha]
    rfl
  refine osa_openX (s := ⟨hp, g, d, t, os⟩) SF X I hov taker ?_
  intro b
  have lc : Looks (model prog w) hp (classData C) cd := looks_clsIn X hcd
  show wpAny _ _ (storeInOwnDict (.ref x) (.ref C) (.str name tk) name v b) _ _ _
  obtain ⟨nm, bs, mro, ns, qn, hd, sn, sb, ab, col, del⟩ := cd
  dsimp only at hh
  subst hh
  unfold storeInOwnDict ownDictForStores
  repeat (first
    | with_reducible refine store_in_new ?_ ?_
    | with_reducible refine wpAny_loadPart_at hx ?_
    | with_reducible refine lc.at ?_
    | wp_step)
  · refine ⟨_, #[], _, (Heap.get?_update_ne _ _ _ _ xs.symm).trans (Heap.get?_push_at rfl rfl), rfl, ?_, fun _ => rfl⟩
    intro e he
    exact absurd he (by simp)
  · intro h' tk' n1 sb1
    have there : (hp.push { cls := .type "dict", data := .dict #[] }).get? x = some { cls := .ref C, data := .fields fv } := Heap.get?_push_of_some _ hx
    apply hq h' tk' hp.objs.size _ (Nat.le_refl _) xs.symm _ n1
    · intro b o nb ho
      refine (sb1.2 b (Nat.ne_of_lt (Heap.lt_size ho))).trans ?_
      exact (Heap.get?_update_ne _ _ _ _ nb).trans (Heap.get?_push_of_some _ ho)
    · exact (sb1.2 x xs).trans (Heap.get?_update_self _ there rfl)
end
section
variable {prog : Program} {w : World} {A : Around} {R : Result → Shared → Prop} {s : Shared} {K : Frag} {mg : Str → Option Value} {C fI : Addr} {cn fld : Str} {B newId initId : String} {bmB : List Value}
theorem OwnX.over (T : OwnX K mg cn fld bmB newId C fI) : ∃ cd, clsIn K C = some cd ∧ excOver K C bmB = true ∧ cd.hasDict = true := by
  obtain ⟨nm, q, N, bs, bm, sn, sub, ab, col, dd, k0, k1, k2, k3, k5, hC, hbm⟩ := T.cls
  have hcl : clsIn K C = some { name := nm, bases := bs, mro := .ref C :: bm, ns := N, qualname := q, hasDict := true, slotNames := sn, subclasses := sub, abstract := ab, collection := col, hasDel := false } := by
    unfold clsIn
    rw [hC] <;> rfl
  refine ⟨_, hcl, ?_, rfl⟩
  unfold excOver
  rw [hcl]
  show (C == C && excTail bmB bm) = true
  rw [hbm, Bool.and_true]
  exact beq_self_eq_true C
/-- C(v) -/
theorem madeX (F : ExcBaseFacts B newId initId bmB) (T : OwnX K mg cn fld bmB newId C fI) (init : InitOk K fld C fI) {v : Value} (X : K.In s.heap)
    (lim : s.heap.NoLimit) (deep : A.depth + 1 < recursionLimit)
    (hq : ∀ h' tk e d, MadeX fld s.heap h' e C d v → R (.ok (.ret (.ref e))) { s with heap := h', toks := tk }) :
    codeAny (model prog w) A (.call (.ref C) ⟨[v], []⟩) R s := by
  obtain ⟨nm, q, N, bs, bm, sn, sub, ab, col, dd, k0, k1, k2, k3, k5, hC, hbm⟩ := T.cls
  obtain ⟨hp, g, dr, tk, os⟩ := s
  have grown : ∀ b o, hp.get? b = some o → ((hp.push (kdv_tup [v])).push (excO C hp.objs.size)).get? b = some o :=
    fun b o e => Heap.get?_push_of_some _ (Heap.get?_push_of_some _ e)
  have fresh : ((hp.push (kdv_tup [v])).push (excO C hp.objs.size)).get? (hp.objs.size + 1) = some (excO C hp.objs.size) := by heap_get
  have notK : K.lookup (hp.objs.size + 1) = none := by
    rcases e : K.lookup (hp.objs.size + 1) with _ | o
    · rfl
    · exact absurd (Nat.lt_of_succ_lt (Heap.lt_size (show hp.get? (hp.objs.size + 1) = some o from X _ _ e))) (Nat.lt_irrefl _)
  refine HandSPX.call_own F (fun T => excTail_contains T bm hbm) (X _ _ hC) (looks_findIn X T.iC) (fun self => bind_fn X self T.tC) (single_size v) ?_
  refine init prog w _ _ ⟨(hp.push (kdv_tup [v])).push (excO C hp.objs.size), g, dr, tk, os⟩ _ _ v (X.keeps grown) (lim.keeps grown) fresh notK deep ?_
  intro h' tk' dx ⟨k', hx, dn, dne, hns⟩
  have old : ∀ b o, hp.get? b = some o → h'.get? b = some o :=
    fun b o e => k' b o (Nat.ne_of_lt (Nat.lt_succ_of_lt (Heap.lt_size e))) (grown b o e)
  have z : hp.objs.size + 1 + 1 ≤ dx := by
    first
      | (simpa only [Heap.size_push] using dn)
      | exact dn
      | (have q := dn; rw [Heap.size_push, Heap.size_push] at q; exact q)
  exact ⟨rfl, hq h' tk' (hp.objs.size + 1) dx ⟨old, Nat.le_succ _, ⟨_, hx⟩, Nat.le_trans (Nat.le_trans (Nat.le_succ _) (Nat.le_succ _)) z, dne, hns⟩⟩
end
end GX
end PySem
namespace GG
open PySem PySem.Spec PyProof.Rows L2
theorem relX {fld : Str} {v : V} {v' : Value} (r : RelV v v') (f : Str) : RelO (List.lookup f [(fld, v)]) (if f = fld then some v' else none) := by
  by_cases hw : f = fld
  · subst hw
    rw [if_pos rfl]
    have q : List.lookup f [(f, v)] = some v := by simp [List.lookup]
    rw [q]
    exact r
  · rw [if_neg hw]
    have qw : (f == fld) = false := by simpa using hw
    have q2 : List.lookup f [(fld, v)] = none := by simp [List.lookup, qw]
    rw [q2]
    trivial
section
variable {X : Cx} {C fI : Addr} {cn fld : Str} {B newId initId : String} {bmB : List Value}
/-- X(e), to be raised -/
def tMkX (C : Addr) (fld : Str) (ta : TA) : L2.St → Hp → XK → Prop := fun σ H Q => ta σ H fun vs H1 => ∃ v, vs = [v] ∧ ∀ d, H1 d = none → Q (.ref C) (some d) (upd H1 d (.xd [(fld, v)]))
theorem pmkX {a : Expr} {ta : TA} {p pos : Pos} {k : Nat} (F : ExcBaseFacts B newId initId bmB) (T : PySem.GX.OwnX X.K X.mg cn fld bmB newId C fI) (init : PySem.GX.InitOk X.K fld C fI) (hr : Room k X.A) (ha : PA X [a] ta)
    (hg : Gl X cn := by rfl) (hdb : (cn == ("__debug__" : Str)) = false := by decide)
    (he : starEach (a :: []) X.env = (false, eval a X.env) :: starEach [] X.env := by rfl) (hpl : (backTo pos (starEach [] X.env)).any (·.1) = false := by rfl) :
    PMk X (.Call (.Name cn p) [a] [] pos) (tMkX C fld ta) := by
  intro pins s σ H Q I h
  refine wpAny_Call_Name_kw (ld_glob I hg T.gC ?_ hdb)
  refine PySem.W.callWith_K (h₀ := X.base) I.ok.mod.kin T.kC (thn (ha.run pos pins s σ H _ I h) ?_) he hpl
  intro us s1 hh
  obtain ⟨vs, H1, I1, r1, v, ev, q1⟩ := hh
  subst ev
  refine ⟨I1.kIn, ?_⟩
  obtain ⟨v', rfl, rv⟩ := vals1 r1
  show wpAny _ _ (call (.ref C) [v']) _ _ _
  have hlim := I1.nolimit
  obtain ⟨hp, g, dr, tk, os⟩ := s1
  have room2 := hr.dp
  refine wpAny_call (PySem.GX.madeX F T init I1.kIn hlim (by omega) fun h' tk' e d M => ?_)
  show MkP X pins σ Q (.ref e) ⟨h', g, dr, tk', os⟩
  obtain ⟨t1, hoe⟩ := M.obj
  have hns := M.ns
  obtain ⟨G', g1, g2⟩ := restrict h' fun b => decide (b ≠ e)
  have gk : ∀ b, b ≠ e → G'.get? b = h'.get? b := fun b hb => g1 b (decide_eq_true hb)
  have ge : G'.get? e = none := g2 e (by simp)
  have old : ∀ b o, hp.get? b = some o → G'.get? b = some o := by
    intro b o q
    exact (gk b (Nat.ne_of_lt (Nat.lt_of_lt_of_le (Heap.lt_size q) M.new))).trans (M.keep b o q)
  have ob : ObjOk X.prog X.w (upd H1 d (.xd [(fld, v)])) G' d (.xd [(fld, v)]) :=
    ⟨_, hns.at (fun o q => (gk d M.dne).trans q), fun f => relX rv f⟩
  have J : Inv X pins σ (upd H1 d (.xd [(fld, v)])) ⟨G', g, dr, tk', os⟩ := I1.laid (t' := tk') old M.dbig ob
  refine ⟨e, _, _, ⟨G', g, dr, tk', os⟩, _, .ref C, some d, rfl, J, fun b o q => ?_, ge, hoe, ⟨rfl, rfl⟩, rfl, rfl, ?_, rfl, I1.bare, raises_own T.exC T.tyC, q1 d (I1.hok.fresh M.dbig)⟩
  · by_cases hb : b = e
    · have q' : G'.get? b = some o := q
      rw [hb, ge] at q'
      cases q'
    · exact (gk b hb).symm.trans q
  · rw [upd_ne (Ne.symm M.dne)]
    exact I1.hok.fresh M.new
/-- raise X(e) -/
def tRaiseX (C : Addr) (fld : Str) (W : WX) (ta : TA) : TS := fun _ σ H => tMkX C fld ta σ H fun cls d H' => W cls d σ H'
theorem ps_raiseX {a : Expr} {ta : TA} {W : WX} {p pos pos2 : Pos} {k : Nat} (F : ExcBaseFacts B newId initId bmB) (hc : X.calm = true) (T : PySem.GX.OwnX X.K X.mg cn fld bmB newId C fI) (init : PySem.GX.InitOk X.K fld C fI)
    (hr : Room k X.A) (tk : Takes X W) (ha : PA X [a] ta) (hg : Gl X cn := by rfl) (hdb : (cn == ("__debug__" : Str)) = false := by decide)
    (he : starEach (a :: []) X.env = (false, eval a X.env) :: starEach [] X.env := by rfl) (hpl : (backTo pos (starEach [] X.env)).any (·.1) = false := by rfl) :
    PS X (.Raise (some (.Call (.Name cn p) [a] [] pos)) none pos2) (tRaiseX C fld W ta) := ps_raise hc tk (pmkX F T init hr ha hg hdb he hpl)
/-- e.fld, e the exception that the suite holds (at a; its class cls, its dict d) -/
def tByX (C : Addr) (fld : Str) (a : Addr) (cls : Value) (d : Option Addr) (te : TE) : TE := fun σ H Q => te σ H fun x H1 => x = .ref a ∧ cls = .ref C ∧ ∃ (dd : Addr) (v : V), d = some dd ∧ H1 dd = some (.xd [(fld, v)]) ∧ Q v H1
theorem pe_byX {a : Addr} {oe : Obj} {cls : Value} {d : Option Addr} {pn : List (Addr × Obj)} {e : Expr} {te : TE} {pos : Pos} (T : PySem.GX.OwnX X.K X.mg cn fld bmB newId C fI) (hz : Zc cls d oe) (hf : ∃ vs, oe.data = .fields vs)
    (he : PE (X.suite a ((a, oe) :: pn)) e te) (hb : attributeBase e fld X.env (eval e X.env) = eval e X.env := by rfl) :
    PE (X.suite a ((a, oe) :: pn)) (.Attribute e fld pos) (tByX C fld a cls d te) := by
  refine ⟨fun pins s σ H Q I h => ?_⟩
  refine attr_of hb (thn (he.run pins s σ H _ I h) ?_)
  intro u s1 hh
  obtain ⟨x, H1, I1, rx, ex, ec, dd, v, ed, ea, q⟩ := hh
  subst ex ec ed
  obtain rfl : u = Value.ref a := rx
  obtain ⟨ha, _⟩ := I1.pin (a, oe) (List.mem_append_left _ List.mem_cons_self)
  obtain ⟨vs, hd⟩ := hf
  have hx : ObjOk X.prog X.w H1 s1.heap dd (.xd [(fld, v)]) := I1.hok dd _ ea
  obtain ⟨mA, hns, hr⟩ := hx
  obtain ⟨od, ho, hl⟩ := lookIn_ns hns
  have l : List.lookup fld [(fld, v)] = some v := by simp [List.lookup]
  obtain ⟨u, hu, ru⟩ := RelO.some_of (v := v) (o := mA fld) (by rw [← l]; exact hr fld)
  have J : PySem.W.InstAt s1.heap a oe C (some od) := ⟨ha, hz.1, by unfold PySem.W.notCls; rw [hd] <;> rfl, by rw [hz.2]; exact ho⟩
  exact HandSPX.exc_get I1.kIn J T.ga T.gg T.exC (PySem.W.findObj_own T.hdC T.noN rfl (by rw [hl, hu])) (handed_of ru) ⟨v, H1, I1.tok _, ru, q⟩
end
end GG

set_option maxHeartbeats 4000000
namespace GG
open PySem PySem.Spec PyProof.Rows L2
/-! ### several except clauses, with a name or without -/
/-- behind a suite whose exception is named in slot i -/
def offI (i : Nat) (D : Ends) : Ends :=
  { nx := fun σ H => D.nx (σ.set i none) H, rt := D.rt, bk := fun σ H => D.bk (σ.set i none) H, ct := fun σ H => D.ct (σ.set i none) H }
abbrev Clause := Value × Option Nat × (Addr → Value → Option Addr → TS)
def wClauses (K : PySem.W.Frag) (Wout : WX) (D : Ends) : List Clause → WX
  | [] => Wout
  | (c, none, ts) :: r => fun cls d σ H => ∃ b, PySem.W.exmOne K cls c = some b ∧ (b = true → ∀ a, H a = none → ts a cls d D σ H) ∧ (b = false → wClauses K Wout D r cls d σ H)
  | (c, some i, ts) :: r => fun cls d σ H => ∃ b, PySem.W.exmOne K cls c = some b ∧
      (b = true → ∀ a, H a = none → ts a cls d (offI i D) (σ.set i (some (.ref a))) H) ∧ (b = false → wClauses K Wout D r cls d σ H)
inductive Clauses (X : Cx) : List ExceptHandler → List Clause → Prop
  | nil : Clauses X [] []
  | plain {x : Str} {c : Value} {ts : Addr → Value → Option Addr → TS} {b₀ : Stmt} {suite : List Stmt} {np pos' : Pos} {hds : List ExceptHandler} {l : List Clause} (hc : Names X x c)
      (hsu : ∀ (a : Addr) (oe : Obj) (cls : Value) (d : Option Addr) (pn : List (Addr × Obj)), Zc cls d oe → (∃ vs, oe.data = .fields vs) →
        PSs (X.suite a ((a, oe) :: pn)) (b₀ :: suite) (ts a cls d))
      (r : Clauses X hds l) : Clauses X (.ExceptHandler (some (.Name x np)) none (b₀ :: suite) pos' :: hds) ((c, none, ts) :: l)
  | named {x n : Str} {i : Nat} {c : Value} {ts : Addr → Value → Option Addr → TS} {b₀ : Stmt} {suite : List Stmt} {np pos' : Pos} {hds : List ExceptHandler} {l : List Clause}
      (hN : X.N.Nodup) (hi : X.N[i]? = some n) (hln : X.env.kindOf n = some .local) (hc : Names X x c)
      (hsu : ∀ (a : Addr) (oe : Obj) (cls : Value) (d : Option Addr) (pn : List (Addr × Obj)), Zc cls d oe → (∃ vs, oe.data = .fields vs) →
        PSs (X.suite a ((a, oe) :: pn)) (b₀ :: suite) (ts a cls d))
      (r : Clauses X hds l) : Clauses X (.ExceptHandler (some (.Name x np)) (some n) (b₀ :: suite) pos' :: hds) ((c, some i, ts) :: l)
section
variable {X : Cx} {body : List Stmt} {h₀ : ExceptHandler} {hds : List ExceptHandler} {l : List Clause} {pos : Pos} {tb : WX → TS} {Wout : WX}
/-- the handlers, met by the exception at a in flight -/
theorem clauses_go {pins : List (Addr × Obj)} {σ' : L2.St} {H' : Hp} {sI s' : Shared} {a : Addr} {B : Heap} {cls : Value} {d : Option Addr} {D : Ends}
    (hs : X.stack = X.env :: X.outer) (hf : X.env.frame = some X.env.locals) (tk : Takes X Wout) (J : Inv X pins σ' H' sI)
    (nb : ∀ b o, sI.heap.get? b = some o → b ∉ frs X.stack → B.get? b = some o) (up : sI.heap.UpToSlots s'.heap) (na : H' a = none)
    (os : s'.os = sI.os) (ag : AllBare s'.gens) {h3 : Heap} (fl3 : HandSPX.FlyingZ B (X.env :: X.outer) a (Zc cls d) h3) (up3 : s'.heap.UpToSlots h3)
    {k : List ExceptHandler} {m : List Clause} (C : Clauses X k m) :
    wClauses X.K Wout D m cls d σ' H' → wpAny (model X.prog X.w) X.A (handleBy (.ref a) X.env k) (SP X pins D) X.xe { s' with heap := h3 } := by
  have ok := J.ok
  have upA := up.trans up3
  have J3 : Inv X pins σ' H' { s' with heap := h3 } := J.landed nb fl3.1 upA os ag
  obtain ⟨oe3, vs3, he3, hz3, hd3⟩ := fl3.there
  have outside : a ∉ frs (X.env :: X.outer) := by
    intro hm
    obtain ⟨_, o', e', hnf⟩ := fl3.2.2.1.mem hm
    rw [he3] at e'
    cases e'
    exact hnf _ hd3
  have nL : a ≠ X.env.locals := fun z => outside (List.mem_filterMap.mpr ⟨X.env, List.mem_cons_self, by rw [hf, z]⟩)
  have nF : a ∉ X.fs := by
    intro hm
    obtain ⟨e, he, q⟩ := List.mem_filterMap.mp hm
    exact outside (List.mem_filterMap.mpr ⟨e, List.mem_cons_of_mem _ he, q⟩)
  have S3 := J3.suite he3 hd3 na nL nF
  have look : ∀ {x : Str} {c : Value} {np : Pos} {Q : Value → Shared → Prop} {E : Value → Shared → Prop}, Names X x c → Q c { s' with heap := h3 } →
      wpAny (model X.prog X.w) (X.A.mark (some (.ref a))) (eval (.Name x np) X.env) Q E { s' with heap := h3 } := by
    intro x c np Q E hc q
    obtain ⟨hg, hdbg, hm | ⟨hm, hv, hnn⟩⟩ := hc
    · exact ld_glob (X := X.suite a ((a, oe3) :: (X.pn ++ pins))) S3 hg hm q hdbg
    · exact ld_blt (X := X.suite a ((a, oe3) :: (X.pn ++ pins))) S3 hg hm hv q hnn hdbg
  have kindA : PySem.W.Looks (model X.prog X.w) h3 (typeOf (.ref a)) cls := by
    intro A Q E s kp q
    exact wpAny_typeOf_ref (kp _ _ he3) (by rw [hz3.1]; exact q)
  induction C with
  | nil =>
    intro wish
    refine wpAny_handleBy_nil ?_
    obtain ⟨k1, k2, k3, oe, vs, T, oT, ts', he, hz, hd, h1, hr⟩ := id fl3
    unfold PySem.passOn
    refine wpAny_bind (wpAny_field he hd h1 ?_)
    rw [if_neg (show ¬ ((Value.ref T == Value.none) = true) from by simp)]
    have out : wpAny (model X.prog X.w) X.A (setFlight (.ref a) X.env.frame)
        (fun _ s4 => wpAny (model X.prog X.w) X.A (throw (.ref a) : Sem Flow) (SP X pins D) X.xe s4) X.xe { s' with heap := h3 } := by
      rw [hf]
      refine HandSPX.setFlight_upZ fl3 fun h4 hh4 up4 => wpAny_throw (tk _ _ ?_)
      exact ⟨a, B, sI, pins, σ', H', cls, d, rfl, J, nb, upA.trans up4, .inr (.inr (by rw [hs]; exact hh4)), na, os, ag, wish⟩
    first
      | exact wpAny_bind (wpAny_pure (wpAny_bind out))
      | exact wpAny_bind out
  | @plain x c ts b₀ suite np pos' hds2 l2 hc hsu r ih =>
    intro wish
    obtain ⟨b, hb1, yes, no⟩ := wish
    refine wpAny_handleBy_cons (codeAny_handlers_test ?_) (by intro q; cases q)
    have LM := PySem.W.exm_one (M := model X.prog X.w) (J3.kIn) kindA hb1
    refine look hc (LM.here ?_)
    cases b with
    | false => exact ih (no rfl)
    | true =>
      refine codeAny_handlers_suite (HandSPX.lands_againZ fl3 fun h4 fl4 up4 => ?_)
      have J4 : Inv X pins σ' H' { s' with heap := h4 } := J.landed nb fl4.1 (upA.trans up4) os ag
      obtain ⟨oe4, vs4, he4, hz4, hd4⟩ := fl4.there
      have S4 := J4.suite he4 hd4 na nL nF
      refine wpAny_mono ((hsu a oe4 cls d (X.pn ++ pins) hz4 ⟨_, hd4⟩).run [] _ _ H' _ S4 (yes rfl a na)) (fun f s6 hsp => ?_) (fun _ _ z => False.elim z)
      cases f with
      | next => exact hsp.imp fun _ z => z.imp fun _ z => ⟨z.1.unsuite ok, z.2⟩
      | brk => exact hsp.imp fun _ z => z.imp fun _ z => ⟨z.1.unsuite ok, z.2⟩
      | cont => exact hsp.imp fun _ z => z.imp fun _ z => ⟨z.1.unsuite ok, z.2⟩
      | ret u => exact hsp.imp fun _ z => z.imp fun _ z => z.imp fun _ z => ⟨z.1.unsuite ok, z.2⟩
  | @named x n i c ts b₀ suite np pos' hds2 l2 hN hi hln hc hsu r ih =>
    intro wish
    obtain ⟨b, hb1, yes, no⟩ := wish
    refine wpAny_handleBy_cons (codeAny_handlers_test ?_) (by intro q; cases q)
    have LM := PySem.W.exm_one (M := model X.prog X.w) (J3.kIn) kindA hb1
    refine look hc (LM.here ?_)
    cases b with
    | false => exact ih (no rfl)
    | true =>
      refine codeAny_handlers_suite_as (HandSPX.lands_againZ fl3 fun h4 fl4 up4 => ?_)
      have J4 : Inv X pins σ' H' { s' with heap := h4 } := J.landed nb fl4.1 (upA.trans up4) os ag
      obtain ⟨oe4, vs4, he4, hz4, hd4⟩ := fl4.there
      have S4 := J4.suite he4 hd4 na nL nF
      refine store_ok (X := X.suite a ((a, oe4) :: (X.pn ++ pins))) (v := .ref a) S4 hN hi (.inl hln) rfl (fun s5 S5 => ?_) (.inr hln)
      refine wpAny_mono ((hsu a oe4 cls d (X.pn ++ pins) hz4 ⟨_, hd4⟩).run [] s5 _ H' _ S5 (yes rfl a na)) (fun f s6 hsp => ?_) (fun _ _ z => False.elim z)
      have gone : ∀ {σ6 : L2.St} {H6 : Hp} {Q : Shared → Prop}, Inv (X.suite a ((a, oe4) :: (X.pn ++ pins))) [] σ6 H6 s6 → (∀ s7, Inv X pins (σ6.set i none) H6 s7 → Q s7) →
          wpAny (model X.prog X.w) X.A (do bindName X.env n .none; unbindBehindTheSuite X.env n pos') (fun _ s7 => Q s7) X.xe s6 :=
        fun {σ6 H6 Q} S6 hq => gone_ok (S6.unsuite ok) hN hi hln hq
      cases f with
      | next =>
        obtain ⟨σ6, H6, S6, q6⟩ := hsp
        exact gone S6 fun s7 J7 => ⟨_, _, J7, q6⟩
      | brk =>
        obtain ⟨σ6, H6, S6, q6⟩ := hsp
        exact gone S6 fun s7 J7 => ⟨_, _, J7, q6⟩
      | cont =>
        obtain ⟨σ6, H6, S6, q6⟩ := hsp
        exact gone S6 fun s7 J7 => ⟨_, _, J7, q6⟩
      | ret u =>
        obtain ⟨v6, σ6, H6, S6, r6, q6⟩ := hsp
        exact gone S6 fun s7 J7 => ⟨_, _, _, J7, r6, q6⟩
/-- try: .. except X as e: .. except Y: .. -/
theorem ps_tryC (hs : X.stack = X.env :: X.outer) (hf : X.env.frame = some X.env.locals) (tk : Takes X Wout)
    (hb : ∀ (W : WX) (pn : List (Addr × Obj)) (xe : Value → Shared → Prop), Takes (X.tr pn xe) W → PassesOwn (model X.prog X.w) X.A X.env xe → PSs (X.tr pn xe) body (tb W))
    (hh : Clauses X (h₀ :: hds) l) : PS X (.Try body (h₀ :: hds) [] [] pos) (fun D σ H => tb (wClauses X.K Wout D l) D σ H) := by
  constructor
  intro pins s σ H D I h
  have ok := I.ok
  have fr : X.A.frames = some (X.env :: X.outer) := by rw [ok.frames, hs]
  refine wpAny_Try_except ?_
  have meet : Takes (X.tr (X.pn ++ pins) (fun e s₁ => wpAny (model X.prog X.w) X.A (noteFrame e X.env) (fun _ s₂ => wpAny (model X.prog X.w) X.A (setFlight e none)
      (fun _ s₃ => wpAny (model X.prog X.w) X.A (handleBy e X.env (h₀ :: hds)) (SP X pins D) X.xe s₃) X.xe s₂) X.xe s₁)) (wClauses X.K Wout D l) := by
    intro u s' xx
    obtain ⟨a, B, sI, pins', σ', H', cls, d, rfl, J', nb, up, sky, na, os, ag, wish⟩ := xx
    have sky' : Sky B (X.env :: X.outer) a (Zc cls d) X.env.locals s'.heap := by rw [← hs]; exact sky
    show wpAny (model X.prog X.w) X.A (noteFrame (.ref a) X.env) _ _ _
    exact Sky.land Zc.steady fr hf sky' fun h3 fl3 up3 => clauses_go hs hf tk (J'.ofTry ok) nb up na os ag fl3 up3 hh wish
  have run := (hb _ _ _ meet PassesOwn.looking).run [] s σ H D (I.toTry _) h
  refine wpAny_mono run (fun f s1 hsp => ?_) (fun e s1 he => he)
  cases f with
  | next =>
    obtain ⟨σ', H', J', q⟩ := hsp
    exact wpAny_execs_nil ⟨σ', H', J'.ofTry ok, q⟩
  | brk => exact hsp.imp fun _ z => z.imp fun _ z => ⟨z.1.ofTry ok, z.2⟩
  | cont => exact hsp.imp fun _ z => z.imp fun _ z => ⟨z.1.ofTry ok, z.2⟩
  | ret u => exact hsp.imp fun _ z => z.imp fun _ z => z.imp fun _ z => ⟨z.1.ofTry ok, z.2⟩
end
end GG

set_option maxHeartbeats 4000000
namespace GG
open PySem PySem.Spec PyProof.Rows L2 LamX
/-! ### the end of a law's row whose text makes lambdas -/
section
variable {P : Program} {w : World} {K : PySem.W.Frag} {mg mb : Str → Option Value} {CX : CXT} {k : Nat} {fa a : Addr} {cs : List (Addr × Addr)} {fd : FuncData}
  {x : Str} {sp : Sp} {s₁ : Shared} {vs : List Value} {ns : List Int}
theorem law_coreT {H : Hp} (KX : K.In s₁.heap) (ng : s₁.heap.Ns mainGlobals mg) (nb : s₁.heap.Ns builtinsNs mb)
    (bb : ∀ x : Str, x ≠ "__name__" → mb x = bootBuiltins x) (lim : s₁.heap.NoLimit) (g0 : s₁.gens = #[])
    (empties : ∀ p ∈ cs, s₁.heap.get? p.2 = some { cls := .none, data := .fields #[] }) (notT : ∀ p ∈ cs, K.lookup p.2 = none)
    (code : ∀ p ∈ cs, PySem.W.CodeHd s₁.heap p.1 p.2)
    (hbm : ∃ (bm : Addr) (ob : Obj), mg "__builtins__" = some (.ref bm) ∧ bm ≠ builtinsNs ∧ s₁.heap.get? bm = some ob ∧ ob.cls = .type "module" ∧ ob.dict = some builtinsNs ∧ ob.data = .plain)
    (ha : s₁.heap.get? a = some { cls := .type "list", data := .seq vs.toArray }) (room : Room k callerA)
    (F : ∀ base : Heap, K.In base → base.Ns mainGlobals mg → (∀ p ∈ cs, TabB base mg p.1 p.2) → FnG P w K mg base CX k fa fd [x] sp)
    (bind : ∀ (s : Shared) (u : Value), BindsTo s fd ⟨[u], []⟩ [(x, u)])
    (want : sp [.ref a] H (fun v _ => v = .bl true) fun _ _ _ => False)
    (noX : ∀ H e s', CX [] H s₁ (fun _ _ _ => False) e s' → False)
    (tabs : ∀ p ∈ cs, H p.2 = some (.tbl #[]))
    (only : ∀ b, H b = none ∨ b ∈ cs.map (·.2) ∨ ∃ o xs, H b = some (.frz o (.lst xs))) (ok : HOk P w H s₁.heap)
    (where_ : ∀ b, H b ≠ none → b = a ∨ b ∈ cs.map (·.2)) (notK : H a ≠ none → K.lookup a = none) :
    codeAny (model P w) callerA (.call (.ref fa) ⟨[.ref a], []⟩)
      (fun r s' => r = .ok (.ret (.bool true)) ∧ OldK s₁.heap s'.heap ∧ s'.os = s₁.os ∧ AllBare s'.gens) s₁ := by
  have tabAt : ∀ b : Addr, b ∈ cs.map (·.2) → s₁.heap.get? b = some { cls := .none, data := .fields #[] } := by
    intro b hb
    obtain ⟨p, hp, e⟩ := List.mem_map.mp hb
    rw [← e]
    exact empties p hp
  have untracked : ∀ {b : Addr} {o : Obj}, s₁.heap.get? b = some o → (∀ vs n, o.data ≠ .seq vs n) → o.data ≠ .fields #[] → H b = none := by
    intro b o e h1 h2
    rcases hq : H b with _ | u
    · rfl
    · rcases where_ b (fun z => by rw [z] at hq; cases hq) with e' | e'
      · rw [e', ha] at e
        cases e
        exact (h1 _ _ rfl).elim
      · rw [tabAt b e'] at e
        cases e
        exact (h2 rfl).elim
  have dictFree : ∀ {b : Addr} {o : Obj} {es : Array DictEntry} {ep : Nat}, s₁.heap.get? b = some o → o.data = .dict es ep → H b = none := by
    intro b o es ep e d
    exact untracked e (fun vs n z => by rw [d] at z; cases z) (fun z => by rw [d] at z; cases z)
  have nsB : ∀ {b : Addr} {m : Str → Option Value}, s₁.heap.Ns b m → (hidT s₁.heap H).Ns b m := by
    rintro b m ⟨o, es, ep, e, d, r⟩
    exact ⟨o, es, ep, hidT_get e (dictFree e d), d, r⟩
  have KB : K.In (hidT s₁.heap H) := by
    intro b o e
    refine hidT_get (KX b o e) ?_
    rcases hq : H b with _ | u
    · rfl
    · rcases where_ b (fun z => by rw [z] at hq; cases hq) with e' | e'
      · rw [e'] at e hq
        rw [notK (fun z => by rw [z] at hq; cases hq)] at e
        cases e
      · obtain ⟨p, hp, ep⟩ := List.mem_map.mp e'
        rw [← ep, notT p hp] at e
        cases e
  have TB : ∀ p ∈ cs, TabB (hidT s₁.heap H) mg p.1 p.2 := by
    intro p hp
    have atP := empties p hp
    refine ⟨?_, ?_, fun z => ?_⟩
    · obtain ⟨o, us, file, tf, flags, tg, inF, text, tt, e1, r1, r2, r3, r4, r5, r6, r7, r8, hne⟩ := code p hp
      refine ⟨o, us, file, tf, flags, tg, inF, text, tt, hidT_get e1 (untracked e1 (fun vs n z => ?_) fun z => ?_), r1, r2, r3, r4, r5, r6, r7, r8, hne⟩
      · rw [r2] at z
        cases z
      · rw [r2] at z
        cases z
        simp at r3
    · obtain ⟨bm, ob, b1, b2, b3, b4, b5, b6⟩ := hbm
      have notG : bm ≠ mainGlobals := by
        intro q
        obtain ⟨o, es, ep, e, hd, _⟩ := ng
        rw [q, e] at b3
        cases b3
        rw [hd] at b6
        cases b6
      have notP : bm ≠ p.2 := by
        intro q
        rw [q, atP] at b3
        cases b3
        cases b6
      refine ⟨bm, ob, b1, b2, notG, notP, hidT_get b3 (untracked b3 (fun vs n z => ?_) fun z => ?_), b4, b5, b6⟩
      · rw [b6] at z
        cases z
      · rw [b6] at z
        cases z
    · obtain ⟨o, es, ep, e, hd, _⟩ := ng
      rw [z, atP] at e
      cases e
      cases hd
  have en : Env0 P w K mg (hidT s₁.heap H) callerA [] s₁ H := by
    refine ⟨rfl, ⟨KB, nsB ng, ⟨mb, nsB nb, bb⟩, ?_⟩, fun b o e => of_hidT e, Nat.le_of_eq (hidT_size _ _), trivial, ?_, ok, .of_eq g0⟩
    · obtain ⟨mc, h1, h2⟩ := lim
      exact ⟨mc, nsB h1, h2⟩
    · intro b z
      cases (show b ∈ ([] : List Addr) from z)
  refine codeAny_mono ((F _ KB (nsB ng) TB).go callerA [] s₁ H ⟨[.ref a], []⟩ [.ref a] [.ref a] _ _ rfl room en
    (bind s₁ (.ref a)) (.cons rfl .nil) want) ?_
  intro r s' z
  cases r with
  | error e => exact (noX H e s' z).elim
  | ok fl =>
    cases fl with
    | next => exact z.elim
    | brk => exact z.elim
    | cont => exact z.elim
    | ret u =>
      obtain ⟨v, H', os, bare, un, ok', rv, q⟩ := z
      cases (show v = .bl true from q)
      cases (show u = Value.bool true from rv)
      have stays : ∀ b o, b ∉ cs.map (·.2) → s₁.heap.get? b = some o → s'.heap.get? b = some o := by
        intro b o nb e
        rcases only b with hq | hq | ⟨ob, xs, hq⟩
        · exact un.keep b o e hq (fun z => by cases (show b ∈ ([] : List Addr) from z)) (fun z => by cases z)
        · exact absurd hq nb
        · have f1 := (ok b _ hq).left
          have f2 := (ok' b _ (un.frzs b ob _ hq)).left
          rw [e] at f1
          cases f1
          exact f2
      have grows : ∀ p ∈ cs, ∃ more : Array Value, s'.heap.get? p.2 = some { cls := .none, data := .fields more } := by
        intro p hp
        obtain ⟨more, z⟩ := un.tbls p.2 #[] (tabs p hp)
        exact ⟨_, ok' p.2 _ z⟩
      refine ⟨rfl, ⟨fun b o e => ?_, fun b o e => ?_⟩, os, bare⟩
      · by_cases hb : b ∈ cs.map (·.2)
        · obtain ⟨p, hp, ep⟩ := List.mem_map.mp hb
          obtain ⟨more, hm⟩ := grows p hp
          rw [← ep] at e ⊢
          rw [empties p hp] at e
          cases e
          exact .inr (.inl ⟨((code p hp).tab (empties p hp)).isCodeTable, rfl, #[], more, rfl, by rw [Array.empty_append]; exact hm⟩)
        · exact .inl (stays b o hb e)
      · by_cases hb : b ∈ cs.map (·.2)
        · obtain ⟨p, hp, ep⟩ := List.mem_map.mp hb
          obtain ⟨more, hm⟩ := grows p hp
          rw [← ep]
          exact ⟨_, hm⟩
        · exact ⟨o, stays b o hb e⟩
/-- the heap at the law's entry: the script, the tables -/
def entryH (known : Bool) (a : Addr) (vs : List Value) (ns : List Int) (ts : List Addr) : Hp := fun b =>
  if b = a ∧ known = false then some (.frz { cls := .type "list", data := .seq vs.toArray } (.lst (ns.map V.int)))
  else if b ∈ ts then some (.tbl #[]) else none
theorem law_callT (KX : K.In s₁.heap) (ng : s₁.heap.Ns mainGlobals mg) (nb : s₁.heap.Ns builtinsNs mb)
    (bb : ∀ x : Str, x ≠ "__name__" → mb x = bootBuiltins x) (lim : s₁.heap.NoLimit) (g0 : s₁.gens = #[])
    (empties : ∀ p ∈ cs, s₁.heap.get? p.2 = some { cls := .none, data := .fields #[] }) (notT : ∀ p ∈ cs, K.lookup p.2 = none)
    (code : ∀ p ∈ cs, PySem.W.CodeHd s₁.heap p.1 p.2)
    (hbm : ∃ (bm : Addr) (ob : Obj), mg "__builtins__" = some (.ref bm) ∧ bm ≠ builtinsNs ∧ s₁.heap.get? bm = some ob ∧ ob.cls = .type "module" ∧ ob.dict = some builtinsNs ∧ ob.data = .plain)
    (ha : s₁.heap.get? a = some { cls := .type "list", data := .seq vs.toArray }) (hi : IntsAre vs ns) (hl : ns.length ≤ sizeLine) (room : Room k callerA)
    (F : ∀ base : Heap, K.In base → base.Ns mainGlobals mg → (∀ p ∈ cs, TabB base mg p.1 p.2) → FnG P w K mg base CX k fa fd [x] sp)
    (bind : ∀ (s : Shared) (u : Value), BindsTo s fd ⟨[u], []⟩ [(x, u)])
    (want : ∀ H : Hp, (∀ p ∈ cs, H p.2 = some (.tbl #[])) → SqL K H a (ns.map V.int) → sp [.ref a] H (fun v _ => v = .bl true) fun _ _ _ => False)
    (noX : ∀ H e s', CX [] H s₁ (fun _ _ _ => False) e s' → False) :
    codeAny (model P w) callerA (.call (.ref fa) ⟨[.ref a], []⟩)
      (fun r s' => r = .ok (.ret (.bool true)) ∧ OldK s₁.heap s'.heap ∧ s'.os = s₁.os ∧ AllBare s'.gens) s₁ := by
  have vi := vals_ints hi
  have tabAt : ∀ b : Addr, b ∈ cs.map (·.2) → s₁.heap.get? b = some { cls := .none, data := .fields #[] } := by
    intro b hb
    obtain ⟨p, hp, e⟩ := List.mem_map.mp hb
    rw [← e]
    exact empties p hp
  have aT : a ∉ cs.map (·.2) := by
    intro z
    have q := tabAt a z
    rw [ha] at q
    cases (show Data.seq vs.toArray _ = Data.fields #[] from congrArg Obj.data (Option.some.inj q))
  have atTab : ∀ (kn : Bool) b, b ∈ cs.map (·.2) → entryH kn a vs ns (cs.map (·.2)) b = some (.tbl #[]) := by
    intro kn b hb
    unfold entryH
    rw [if_neg (fun (z : b = a ∧ kn = false) => aT (z.1 ▸ hb)), if_pos hb]
  have inTabs : ∀ p ∈ cs, p.2 ∈ cs.map (·.2) := fun p hp => List.mem_map.mpr ⟨p, hp, rfl⟩
  have cases3 : ∀ (kn : Bool) b, (b = a ∧ kn = false ∧ entryH kn a vs ns (cs.map (·.2)) b = some (.frz { cls := .type "list", data := .seq vs.toArray } (.lst (ns.map V.int)))) ∨
      (b ∈ cs.map (·.2) ∧ entryH kn a vs ns (cs.map (·.2)) b = some (.tbl #[])) ∨ entryH kn a vs ns (cs.map (·.2)) b = none := by
    intro kn b
    by_cases h1 : b = a ∧ kn = false
    · exact .inl ⟨h1.1, h1.2, if_pos h1⟩
    · by_cases h2 : b ∈ cs.map (·.2)
      · exact .inr (.inl ⟨h2, atTab kn b h2⟩)
      · refine .inr (.inr ?_)
        unfold entryH
        rw [if_neg h1, if_neg h2]
  have main : ∀ kn : Bool, SqL K (entryH kn a vs ns (cs.map (·.2))) a (ns.map V.int) → (kn = false → K.lookup a = none) →
      codeAny (model P w) callerA (.call (.ref fa) ⟨[.ref a], []⟩)
        (fun r s' => r = .ok (.ret (.bool true)) ∧ OldK s₁.heap s'.heap ∧ s'.os = s₁.os ∧ AllBare s'.gens) s₁ := by
    intro kn sq hk
    refine law_coreT KX ng nb bb lim g0 empties notT code hbm ha room F bind (want _ (fun p hp => atTab kn _ (inTabs p hp)) sq) noX
      (fun p hp => atTab kn _ (inTabs p hp)) (fun b => ?_) (fun b u z => ?_) (fun b z => ?_) (fun z => ?_)
    · rcases cases3 kn b with ⟨_, _, e⟩ | ⟨e, _⟩ | e
      · exact .inr (.inr ⟨_, _, e⟩)
      · exact .inr (.inl e)
      · exact .inl e
    · rcases cases3 kn b with ⟨rfl, _, e⟩ | ⟨m, e⟩ | e
      · rw [e] at z
        cases z
        exact ⟨ha, by rw [List.length_map]; exact hl, vs, _, vi, ha⟩
      · rw [e] at z
        cases z
        exact tabAt b m
      · rw [e] at z
        cases z
    · rcases cases3 kn b with ⟨e, _⟩ | ⟨m, _⟩ | e
      · exact .inl e
      · exact .inr m
      · exact absurd e z
    · rcases cases3 kn a with ⟨_, e, _⟩ | ⟨m, _⟩ | e
      · exact hk e
      · exact absurd m aT
      · exact absurd e z
  rcases hk : K.lookup a with _ | o
  · refine main false (.inl (.inr ⟨{ cls := .type "list", data := .seq vs.toArray }, if_pos ⟨rfl, rfl⟩⟩)) (fun _ => hk)
  · have e := KX a o hk
    rw [ha] at e
    cases e
    refine main true (.inr ⟨_, vs.toArray, _, hk, rfl, rfl, rfl, by rw [List.size_toArray, hi.length]; exact hl, by simpa using vi⟩) (fun z => by cases z)
end
/-- what is known of the law's promise at the head's heap h -/
def LawT (l : PySem.W.OpenLaw) (w : World) (K : PySem.W.Frag) (CX : CXT) (k n : Nat) (x : Str) (mg : Str → Option Value) (fa : Addr) (h : Heap) : Prop :=
  ∃ (fd : FuncData) (cs : List (Addr × Addr)) (sp : Sp), (∀ p ∈ cs, h.get? p.2 = some { cls := .none, data := .fields #[] }) ∧ (∀ p ∈ cs, K.lookup p.2 = none) ∧
    (∀ p ∈ cs, PySem.W.CodeHd h p.1 p.2) ∧ (∀ (s : Shared) (u : Value), BindsTo s fd ⟨[u], []⟩ [(x, u)]) ∧
    (∀ (H : Hp) (a : Addr) (ns : List Int), ns.length ≤ n → (∀ p ∈ cs, H p.2 = some (.tbl #[])) → SqL K H a (ns.map V.int) →
      sp [.ref a] H (fun v _ => v = .bl true) fun _ _ _ => False) ∧
    ∀ base : Heap, K.In base → base.Ns mainGlobals mg → (∀ p ∈ cs, TabB base mg p.1 p.2) → FnG l.prog w K mg base CX k fa fd [x] sp
theorem walkT {l : PySem.W.OpenLaw} {n k : Nat} {q : Program} {loose : List Str} {XP : (Str → Option Value) → Heap → Prop} {YP : World → Heap → Prop} {d : DefRec}
    {K : Params → PySem.W.Frag} {CX : World → CXT} {x : Str}
    (hn : l.most = some n) (hn2 : n ≤ sizeLine) (hdf : d.params.defaults = []) (room : Room k callerA) (hY : ∀ (w : World) (h : Heap), YP w h → (K w.params).In h)
    (F : ∀ (w : World) (mg : Str → Option Value) (fa : Addr) (h : Heap), YP w h → (K w.params).In h → h.Ns mainGlobals mg → mg d.name = some (.ref fa) →
      LawT l w (K w.params) (CX w) k n x mg fa h)
    (noX : ∀ (w : World) (H : Hp) (s : Shared) (e : Value) (s' : Shared), CX w [] H s (fun _ _ _ => False) e s' → False) :
    PySem.W.WalkO q loose XP YP l.row.toRowW d [] (fun f vs => PySem.call f vs) := by
  apply Att.attach_call hn hdf
  intro w s₀ s₁ mg mb fa o pm cd doc a vs ns G Y ho hd hcd hmg hobj hints hlen hg
  obtain ⟨fd, cs, sp, h1, h2, h3, hb, hsp, hF⟩ := F w mg fa _ Y (hY w _ Y) G.T.g hmg
  exact law_callT (hY w _ Y) G.T.g G.T.b G.T.builtins G.T.nolimit hg h1 h2 h3 G.T.bmain hobj hints (Nat.le_trans hlen hn2) room hF hb
    (fun H hH hS => hsp H a ns hlen hH hS) (fun H e s' => noX w H s₁ e s')
end GG

set_option maxHeartbeats 4000000
namespace PySem
open Sem (wp)
/-! ### enumerate(v) over whatever iter(v) begins -/
theorem meets_enum1 {v : Value} {o : Obj} {H : Heap → Prop} (B : Begins v o H) :
    Meets (Builtin.«enumerate.__new__» ⟨[.type "enumerate", v], []⟩) (fun _ R s => H s.heap ∧
      R (.ok (.ret (.ref (s.heap.push o).objs.size)))
        { s with heap := (s.heap.push o).push { cls := .type "enumerate", data := .fields #[.none, .bool false, .ref s.heap.objs.size, rawInt 0, .none, .none] } }) :=
  .of_wp fun prog w A R s h => by
    obtain ⟨hp, g, d, tk, os⟩ := s
    obtain ⟨h1, h⟩ := h
    have hsub := sub_enumerate
    have q1 : ∀ {A' : Around} {E : Value → Shared → Prop} {Q : Value → Shared → Prop}, Q (.ref hp.objs.size) ⟨hp.push o, g, d, tk, os⟩ → wpAny (model prog w) A' (pyIter v) Q E ⟨hp, g, d, tk, os⟩ :=
      fun q => B.iter prog w _ _ ⟨hp, g, d, tk, os⟩ _ h1 q
    wp_walk using q1
    refine wpAny_stack_any fun st => wpAny_pure ?_
    split
    · rename_i c _ _ _ _ _
      cases (c == Value.type "enumerate")
      · wp_walk using q1
        exact ⟨_, rfl, h⟩
      · wp_walk using q1
        exact ⟨_, rfl, h⟩
    · wp_walk using q1
      exact ⟨_, rfl, h⟩
section
variable {prog : Program} {w : World} {A : Around} {E : Value → Shared → Prop} {s : Shared}
theorem enum_begins1 {v : Value} {o : Obj} {H : Heap → Prop} {Q : Value → Shared → Prop} (B : Begins v o H) (h1 : H s.heap)
    (h : ∀ h', IsEnum h' (s.heap.objs.size + 1) s.heap.objs.size 0 .none → h'.get? s.heap.objs.size = some o → h'.objs.size = s.heap.objs.size + 2 →
      (∀ b o, s.heap.get? b = some o → h'.get? b = some o) → Q (.ref (s.heap.objs.size + 1)) { s with heap := h' }) :
    wpAny (model prog w) A (call (.type "enumerate") [v]) Q E s := by
  refine callType_new F.called_enumerate (by decide) (F.typeCall_enumerate_1 _) (F.newCall_enumerate_1 _)
    (fun obj => F.args_object_init_2 obj _) F.entry_enumerate_new (meets_enum1 B) ⟨h1, ?_⟩
  have hz : (s.heap.push o).objs.size = s.heap.objs.size + 1 := Heap.size_push ..
  show _ ∧ _
  rw [hz]
  have he : IsEnum ((s.heap.push o).push { cls := .type "enumerate", data := .fields #[.none, .bool false, .ref s.heap.objs.size, rawInt 0, .none, .none] })
      (s.heap.objs.size + 1) s.heap.objs.size 0 .none := by
    have := Heap.get?_push_size (s.heap.push o) (o := { cls := .type "enumerate", data := .fields #[.none, .bool false, .ref s.heap.objs.size, rawInt 0, .none, .none] }) rfl
    rw [hz] at this
    exact this
  exact ⟨⟨_, he, rfl⟩, h _ he (Heap.get?_push_of_some _ (Heap.get?_push_size _ B.free)) (by rw [Heap.size_push, hz])
    fun b o x => Heap.get?_push_of_some _ (Heap.get?_push_of_some _ x)⟩
end
end PySem
namespace GG
open PySem PySem.Spec PyProof.Rows L2
/-- the tuple at a, its items with their places in new pairs -/
def Itet (K : PySem.W.Frag) (a : Addr) : It :=
  ⟨fun i H => ∃ (xs : List V) (x : V), SqT K H a xs ∧ xs[i]? = some x,
   fun i H v H' => ∃ T x, v = .ref T ∧ H T = none ∧ H' = upd H T (.tup [.int (i : Nat), x]) ∧ ∀ xs, SqT K H a xs → xs[i]? = some x,
   fun i H => ∃ xs : List V, SqT K H a xs ∧ xs.length ≤ i⟩
theorem turn_enumT {P : Program} {w : World} {K : PySem.W.Frag} {elts : List Expr} {kk : Nat} {tpos : Pos} (a e it : Addr) (ai : a ≠ it) (ae : a ≠ e) :
    Turn P w K (.Tuple elts kk tpos) (Itet K a) [e, it] e (fun i h => (∃ old, IsEnum h e it ((i : Nat) : Int) old) ∧ h.IsTupleIter it a i ∧ e ≠ it) where
  mem := by simp
  obj := by
    intro i h st b hb
    obtain ⟨⟨old, he⟩, ⟨o, ho, hc, hd⟩, _⟩ := st
    have two : b = e ∨ b = it := by simpa using hb
    rcases two with z | z
    · rw [z]
      exact ⟨_, he, fun v q => nomatch q⟩
    · rw [z]
      exact ⟨o, ho, fun v q => by rw [hd] at q; cases q⟩
  keep := by
    intro i h h' st k
    obtain ⟨⟨old, he⟩, hi, hne⟩ := st
    exact ⟨⟨old, k e (by simp) _ he⟩, hi.at fun o q => k it (by simp) o q, hne⟩
  item := by
    intro X hP hw hK hc i pins s σ H E I hf st hg
    subst hP hw hK
    obtain ⟨⟨old, he⟩, hit, hne⟩ := st
    obtain ⟨xs, x, hq, hx⟩ := hg
    obtain ⟨its, rv, p, hz⟩ := I.tuple hq
    obtain ⟨u, hu, ru⟩ := rv.get hx
    have el : e < s.heap.objs.size := Heap.lt_size he
    have il : it < s.heap.objs.size := by
      obtain ⟨_, q, _⟩ := hit
      exact Heap.lt_size q
    have lt : i < its.toArray.size := by
      have := (List.getElem?_eq_some_iff.mp hu).1
      simpa using this
    have hh : X.A.in1.handled = none := I.ok.hd hc
    have D := Draws.tuple (prog := X.prog) (w := X.w) hh it a ai its.toArray
    have ei : e ∉ [it, a] := by
      intro z
      rcases List.mem_cons.mp z with z | z
      · exact hne z
      · exact ae (List.mem_singleton.mp z).symm
    refine wpAny_pyNext_enum_itemD D he ⟨hit, (show s.heap.IsTuple a its.toArray from p)⟩ lt hne ei ?_
    intro y h' tk hy ho st' hT hsz hk
    have ey : y = u := by
      have : its.toArray[i]? = some u := by simpa using hu
      rw [this] at hy
      exact (Option.some.inj hy).symm
    subst ey
    refine ⟨_, rfl, wpAny_letOwnedTupleGo_enum (s := { s with heap := h', toks := tk + 1 }) ho ?_⟩
    intro h'' he' sb
    have hT2 : h''.get? s.heap.objs.size = some { cls := .type "tuple", data := .seq #[.int i tk, y] } := (sb.2 _ (Nat.ne_of_gt el)).trans hT
    have new : ObjOk X.prog X.w (upd H s.heap.objs.size (.tup [.int (i : Nat), x])) h'' s.heap.objs.size (.tup [.int (i : Nat), x]) :=
      ⟨by show 2 ≤ sizeLine; decide, [.int i tk, y], .cons ⟨_, rfl⟩ (.cons ru .nil), ⟨_, hT2, rfl, _, rfl⟩⟩
    have I1 : Inv X pins σ (upd H s.heap.objs.size (.tup [.int (i : Nat), x])) { s with heap := h'', toks := tk + 1 } := by
      refine I.turnedNew (ch := [e, it]) (fun b ob hb q => ?_) hf (Nat.le_refl _) new
      exact (sb.2 b (fun z => hb (by simp [z]))).trans (hk b ob (fun z => hb (by simp [z])) (fun z => hb (by simp [z])) q)
    refine ⟨.ref s.heap.objs.size, _, I1, rfl, ⟨_, x, rfl, I.hok.fresh (Nat.le_refl _), rfl, fun ys hy => by rw [I.tuple_inj hy hq]; exact hx⟩, ⟨⟨y, ?_⟩, ?_, hne⟩, fun b hb => ?_⟩
    · have e1 : ((i + 1 : Nat) : Int) = (i : Int) + 1 := by omega
      rw [e1]
      exact he'
    · exact st'.1.at fun o q => (sb.2 it (Ne.symm hne)).trans q
    · have lb : b < s.heap.objs.size := by
        have two : b = e ∨ b = it := by simpa using hb
        rcases two with z | z
        · rw [z]
          exact el
        · rw [z]
          exact il
      rw [upd_ne (Nat.ne_of_lt lb)]
      exact (hf b hb).1
  done := by
    intro X hP hw hK hc i pins s σ H E I hf st hg
    subst hP hw hK
    obtain ⟨⟨old, he⟩, hit, hne⟩ := st
    obtain ⟨xs, hq, hx⟩ := hg
    obtain ⟨its, rv, p, hz⟩ := I.tuple hq
    obtain ⟨f0, f1, f2, f3, f4, f5⟩ := hf it (by simp)
    have hl := rv.length
    have hT : s.TypeIs (.ref e) "enumerate" := ⟨_, he, rfl⟩
    unfold pyNext
    refine wpAny_bind (wpAny_attempt (wpAny_callSpecial?_slot (name := Str.ofString "__next__") hT F.slot_enumerate_next
      (wpAny_call_entry F.slot_enumerate_next hT F.entry_enumerate_next ?_ (F.args_enumerate_next_1 _))))
    show wpAny _ _ (field (.ref e) 2 >>= _) _ _ _
    refine wpAny_bind (wpAny_field he rfl (x := .ref it) rfl ?_)
    refine wpAny_bind (wpAny_nextOf_tuple_end (A := X.A.in1) (I.ok.hd hc) hit (show s.heap.IsTuple a its.toArray from p) (by simp; omega) ?_)
    intro h' x he' hx'
    obtain ⟨o, ho, hcl⟩ := hx'
    refine wpAny_bind (wpAny_isInstance (T := "StopIteration") (b := true) ⟨o, ho, hcl⟩ isSubtype_stop ?_)
    exact wpAny_pure ⟨rfl, I.turned (t' := s.toks) (fun b o hb q => he' b o hb q) f0 f1 f3 f4 f5⟩
  self := by
    intro A i s Q E st h
    obtain ⟨⟨_, he⟩, _⟩ := st
    exact wpAny_pyIter_enum he h
def iEnumT (K : PySem.W.Frag) (ta : TA) : TI := fun σ H R => ta σ H fun vs H1 => ∃ a xs, vs = [.ref a] ∧ SqT K H1 a xs ∧ R (Itet K a) H1
theorem pi_enumT {X : Cx} {e : Expr} {ta : TA} {p pos tpos : Pos} {elts : List Expr} {kk : Nat} (hg : Gl X "enumerate") (hm : X.mg "enumerate" = none) (ha : PA X [e] ta)
    (hs : starEach [e] X.env = [(false, eval e X.env)] := by rfl) :
    PI X (.Tuple elts kk tpos) (.Call (.Name "enumerate" p) [e] [] pos) (iEnumT X.K ta) := by
  constructor
  intro pins s σ H R I h
  refine Call_ (ld_blt I hg hm boot_enumerate (PyProof.Rows.callWith_type1 (thn (ha.run pos pins s σ H _ I h) ?_) hs rfl))
  intro us s1 ⟨vs, H1, I1, r1, q1⟩
  obtain ⟨a, xs, ex, hq, q⟩ := q1
  subst ex
  obtain ⟨u, rfl, ru⟩ := vals1 r1
  cases (show u = Value.ref a from ru)
  obtain ⟨its, rv, p', hz⟩ := I1.tuple hq
  have al : a < s1.heap.objs.size := p'.lt
  refine enum_begins1 (begins_tuple a its.toArray) (show s1.heap.IsTuple a its.toArray from p') ?_
  intro h' he hit hsz hk
  refine wpAny_pyIter_enum he ?_
  have I2 : Inv X pins σ H1 { s1 with heap := h' } := I1.kept (t' := s1.toks) hk
  refine ⟨s1.heap.objs.size + 1, [s1.heap.objs.size + 1, s1.heap.objs.size], _, _, H1, rfl, I2,
    turn_enumT a (s1.heap.objs.size + 1) s1.heap.objs.size (Nat.ne_of_lt al) (Nat.ne_of_lt (Nat.lt_succ_of_lt al)), ⟨⟨.none, he⟩, ⟨_, hit, rfl, rfl⟩, Nat.succ_ne_self _⟩, fun b hb => ?_, q⟩
  have two : b = s1.heap.objs.size + 1 ∨ b = s1.heap.objs.size := by simpa using hb
  have le : s1.heap.objs.size ≤ b := by
    rcases two with z | z
    · rw [z]
      exact Nat.le_add_right _ _
    · rw [z]
      exact Nat.le_refl _
  exact I1.fpOk le (I1.hok.fresh le)
theorem walk_enumT {K : PySem.W.Frag} {a : Addr} {xs : List V} : Walk (Itet K a) xs.length (fun H => SqT K H a xs) (YPair (fun i => some (.int (i : Nat))) (fun i => xs[i]?)) := by
  refine ⟨fun i H hi g => ⟨xs, xs[i], g, by simp [hi]⟩, fun H g => ⟨xs, g, Nat.le_refl _⟩, ?_⟩
  intro i H v H' _ g y
  obtain ⟨T, x, h1, h2, h3, h4⟩ := y
  exact ⟨T, _, x, h1, h2, h3, rfl, h4 xs g⟩
end GG

set_option maxHeartbeats 4000000
namespace GG
open PySem PySem.Spec PyProof.Rows L2
/-! ### what the program's smallest functions answer -/
/-- the least integer of more than 200 figures -/
def BND : Int := ((10 ^ 200 : Nat) : Int)
def intOk (i : Int) : Bool := decide (-BND < i) && decide (i < BND)
def cntOk (i : Int) : Bool := intOk i && decide (0 ≤ i)
def inOk (lo hi i : Int) : Bool := intOk i && (decide (lo ≤ i) && decide (i ≤ hi))
/-- a value that is no integer by its kind -/
def NoInt (K : PySem.W.Frag) (H : Hp) (v : V) : Prop := (∃ b, v = .bl b) ∨ ∃ t, TyX K H v (.type t) ∧ kitB t "int" = some false
def spInteger (K : PySem.W.Frag) : Sp := fun vs H Q _ => ∃ v, vs = [v] ∧ ((∃ i, v = .int i ∧ Q (.bl (intOk i)) H) ∨ (NoInt K H v ∧ Q (.bl false) H))
def spCount (K : PySem.W.Frag) : Sp := fun vs H Q _ => ∃ v, vs = [v] ∧ ((∃ i, v = .int i ∧ Q (.bl (cntOk i)) H) ∨ (NoInt K H v ∧ Q (.bl false) H))
def spWithin (K : PySem.W.Frag) : Sp := fun vs H Q _ => ∃ v lo hi, vs = [v, .int lo, .int hi] ∧ ((∃ i, v = .int i ∧ Q (.bl (inOk lo hi i)) H) ∨ (NoInt K H v ∧ Q (.bl false) H))
def spLimit : Sp := fun vs H Q _ => vs = [] ∧ Q (.int BND) H
theorem limE : ((10 : Int) ^ (50 : Int).toNat) ^ (4 : Int).toNat = BND := by decide +kernel
theorem BND_bits : BND.natAbs < 2 ^ 700 := by decide +kernel
theorem intOk_iff {i : Int} : intOk i = true ↔ -BND < i ∧ i < BND := by
  unfold intOk
  rw [Bool.and_eq_true, decide_eq_true_eq, decide_eq_true_eq]
theorem intOk_bits {i : Int} (h : intOk i = true) : i.natAbs < 2 ^ 700 := by
  have h2 := intOk_iff.mp h
  have h3 := BND_bits
  generalize (2 : Nat) ^ 700 = M at h3 ⊢
  omega
theorem intOk_small {i : Int} (h0 : -(10 ^ 60) ≤ i) (h1 : i ≤ 10 ^ 60) : intOk i = true := by
  have e : (10 : Int) ^ 60 < BND := by decide +kernel
  exact intOk_iff.mpr ⟨by omega, by omega⟩
/-! ### small words -/
theorem and2 {tb : TE} {σ : L2.St} {H : Hp} {Q : VK} {c d : Bool} (hb : c = true → ∀ Q' : VK, Q' (.bl d) H → tb σ H Q') (q : Q (.bl (c && d)) H) :
    if c = true then tb σ H Q else Q (.bl false) H := by
  cases c with
  | true => exact iteT (hb rfl Q q)
  | false => exact iteF q
theorem iteN {b : Bool} {A B : Prop} (h : b = true) (x : B) : if (!b) = true then A else B := by
  subst h
  exact iteF x
theorem iteTo {b : Bool} {A B : Prop} (h : b = true) (x : A) : if b = true then A else B := by
  subst h
  exact iteT x
theorem iteFo {b : Bool} {A B : Prop} (h : b = false) (x : B) : if b = true then A else B := by
  subst h
  exact iteF x
theorem sameUpd2 {H : Hp} {p : Addr} {o o' : HO} (h : H p = none) : Same H (upd (upd H p o) p o') := by
  rw [upd_upd]
  exact sameUpd h
/-! ### repr, of dicts too -/
/-- data whose repr is told: without dicts, or an empty dict -/
def Rp (K : PySem.W.Frag) (H : Hp) (x : V) (d : PyData) : Prop :=
  (Dp K H x d ∧ d.showable = true ∧ d.hasDict = false ∧ d.depth ≤ 40 ∧ d.shown.length ≤ sizeLine) ∨ ∃ a, x = .ref a ∧ H a = some (.dK []) ∧ d = .dict []
def rReprD (K : PySem.W.Frag) : List V → Hp → VK → Prop := fun xs H Q => ∃ x d, xs = [x] ∧ Rp K H x d ∧ Q (.str d.shown) H
theorem call_reprR {X : Cx} (gd : X.A.guards = some []) (un : X.A.units + 64 < cLine) : CallR X (.builtin "repr") (rReprD X.K) := by
  intro pins s σ H xs us Q I r h
  obtain ⟨x, d, rfl, ⟨hd, ok⟩ | ⟨a, rfl, ha, rfl⟩, q⟩ := h
  · exact call_reprU gd un pins s σ H _ us Q I r ⟨x, d, rfl, hd, ok, q⟩
  · obtain ⟨u, rfl, ru⟩ := vals1 r
    cases (show u = Value.ref a from ru)
    obtain ⟨hz, hS, vs, rk, o, es, ep, h1, h2, h3, h4, h5, h6⟩ : ([] : List (Key × V)).length ≤ sizeLine ∧ (a == sysModules) = false ∧ ∃ vs, KV [] vs ∧ s.heap.DictOf (mixKind X.prog X.w) a vs := I.hok a _ ha
    cases rk
    have e0 : es.toList = [] := by
      cases hl : es.toList with
      | nil => rfl
      | cons b r =>
        rw [hl] at h5
        cases h5
    have rd : Reads s.heap (.ref a) (.dict []) (a :: [] ++ []) := .dict h1 h2.1 h3 (by rw [e0]; exact .nil) (by rw [e0]; exact .nil)
    refine repr_of_reads' rd (by decide) (fun _ z => ?_) gd (by show X.A.units + (PyData.depth (.dict []) + 1) < cLine; have : PyData.depth (.dict []) = 1 := by decide
                                                                omega) (fun _ _ e => e) (fun h' u tk kept => ?_) (by decide)
    · have z' : sysModules = a := by simpa using z
      rw [← z'] at hS
      cases hS
    · exact ⟨.str _, H, I.kept kept, ⟨_, rfl⟩, q⟩
theorem call_reprA {X : Cx} {A : Around} (hA : X.A = A) (gd : A.guards = some []) (un : A.units + 64 < cLine) : CallR X (.builtin "repr") (rReprD X.K) := by
  subst hA
  exact call_reprR gd un
end GG

set_option maxHeartbeats 4000000
namespace GG
open PySem PySem.Spec PyProof.Rows L2
/-- a comprehension over enumerate of a tuple -/
theorem lc_enumT {K : PySem.W.Frag} {a : Addr} {xs : List V} {g : TG} {tt : TT} {te : TE} {vs : List Nat} {σ : L2.St} {H1 : Hp} {D : Addr} {Qd : Hp → Prop} (Pv : Nat → Hp → Prop) (h0 : Pv 0 (upd H1 D (.lst [])))
    (hl : ∀ i H, i ≤ xs.length → Pv i H → SqT K H a xs)
    (hs : ∀ i x H T, xs[i]? = some x → H T = none → Pv i H → g (.ref T) (wipe σ vs) (upd H T (.tup [.int (i : Nat), x])) fun σ2 H2 => wipe σ2 vs = wipe σ vs ∧ tt σ2 H2 fun b H3 =>
      if b = true then te σ2 H3 fun y H4 => ∃ acc, H4 D = some (.lst acc) ∧ acc.length < sizeLine ∧ Pv (i + 1) (upd H4 D (.lst (acc ++ [y]))) else Pv (i + 1) H3) (hd : ∀ H, Pv xs.length H → Qd H) :
    ∃ W : Nat → Nat → Hp → Prop, (∃ m, W 0 m (upd H1 D (.lst []))) ∧ ∀ i m H, W i m H →
      ((Itet K a).stop i H ∧ Qd H) ∨ ((Itet K a).go i H ∧ ∃ Nx : Hp → Prop, (∀ H', Nx H' → ∃ m', m' < m ∧ W (i + 1) m' H') ∧ ∀ x H', (Itet K a).yld i H x H' → g x (wipe σ vs) H' fun σ2 H2 => wipe σ2 vs = wipe σ vs ∧ tt σ2 H2 fun b H3 =>
        if b = true then te σ2 H3 fun y H4 => ∃ acc, H4 D = some (.lst acc) ∧ acc.length < sizeLine ∧ Nx (upd H4 D (.lst (acc ++ [y]))) else Nx H3) := by
  refine ⟨fun i m H => m + i = xs.length ∧ Pv i H, ⟨xs.length, rfl, h0⟩, fun i m H w => ?_⟩
  obtain ⟨e, pv⟩ := w
  have sq := hl i H (by omega) pv
  cases m with
  | zero =>
    have z : i = xs.length := by omega
    subst z
    exact .inl ⟨⟨xs, sq, Nat.le_refl _⟩, hd H pv⟩
  | succ m =>
    have lt : i < xs.length := by omega
    refine .inr ⟨⟨xs, xs[i], sq, List.getElem?_eq_getElem lt⟩, Pv (i + 1), fun H' p => ⟨m, Nat.lt_succ_self m, by omega, p⟩, fun x H' y => ?_⟩
    obtain ⟨T, v, rfl, nT, rfl, hv⟩ := y
    exact hs i v H T (hv xs sq) nT pv
/-- a dict comprehension over enumerate of a tuple -/
theorem dc_enumT {K : PySem.W.Frag} {a : Addr} {xs : List V} {g : TG} {tt : TT} {tk tv : TE} {vs : List Nat} {σ : L2.St} {H1 : Hp} {D : Addr} {Qd : Hp → Prop} (Pv : Nat → Hp → Prop) (h0 : Pv 0 (upd H1 D (.dK [])))
    (hl : ∀ i H, i ≤ xs.length → Pv i H → SqT K H a xs)
    (hs : ∀ i x H T, xs[i]? = some x → H T = none → Pv i H → g (.ref T) (wipe σ vs) (upd H T (.tup [.int (i : Nat), x])) fun σ2 H2 => wipe σ2 vs = wipe σ vs ∧ tt σ2 H2 fun b H3 =>
      if b = true then tk σ2 H3 fun y H4 => tv σ2 H4 fun z H5 => ∃ kvs k, y = kV k ∧ H5 D = some (.dK kvs) ∧ kvs.length < sizeLine ∧ Pv (i + 1) (upd H5 D (.dK (putK kvs k z))) else Pv (i + 1) H3) (hd : ∀ H, Pv xs.length H → Qd H) :
    ∃ W : Nat → Nat → Hp → Prop, (∃ m, W 0 m (upd H1 D (.dK []))) ∧ ∀ i m H, W i m H →
      ((Itet K a).stop i H ∧ Qd H) ∨ ((Itet K a).go i H ∧ ∃ Nx : Hp → Prop, (∀ H', Nx H' → ∃ m', m' < m ∧ W (i + 1) m' H') ∧ ∀ x H', (Itet K a).yld i H x H' → g x (wipe σ vs) H' fun σ2 H2 => wipe σ2 vs = wipe σ vs ∧ tt σ2 H2 fun b H3 =>
        if b = true then tk σ2 H3 fun y H4 => tv σ2 H4 fun z H5 => ∃ kvs k, y = kV k ∧ H5 D = some (.dK kvs) ∧ kvs.length < sizeLine ∧ Nx (upd H5 D (.dK (putK kvs k z))) else Nx H3) := by
  refine ⟨fun i m H => m + i = xs.length ∧ Pv i H, ⟨xs.length, rfl, h0⟩, fun i m H w => ?_⟩
  obtain ⟨e, pv⟩ := w
  have sq := hl i H (by omega) pv
  cases m with
  | zero =>
    have z : i = xs.length := by omega
    subst z
    exact .inl ⟨⟨xs, sq, Nat.le_refl _⟩, hd H pv⟩
  | succ m =>
    have lt : i < xs.length := by omega
    refine .inr ⟨⟨xs, xs[i], sq, List.getElem?_eq_getElem lt⟩, Pv (i + 1), fun H' p => ⟨m, Nat.lt_succ_self m, by omega, p⟩, fun x H' y => ?_⟩
    obtain ⟨T, v, rfl, nT, rfl, hv⟩ := y
    exact hs i v H T (hv xs sq) nT pv
/-! ### how long a shown int is -/
theorem int_rp {K : PySem.W.Frag} {H : Hp} {i : Int} (h : i.natAbs < 10 ^ 300) : Rp K H (.int i) (.int i) := by
  have l1 : (PyData.shown (.int i)).length ≤ 301 := by
    show (Str.ofString (toString i)).length ≤ 301
    rw [PySem.ofString_length]
    exact int_text_length_le10 (k := 300) (by decide) h
  refine .inl ⟨.int i, ?_, rfl, Nat.zero_le _, ?_⟩
  · exact decide_eq_true (PySem.Flt.log2_lt_of (by decide) (Nat.lt_trans h (by decide +kernel)))
  · exact Nat.le_trans l1 (by rw [sizeLine_eq]; decide)
theorem ints_dp {K : PySem.W.Frag} {H : Hp} : ∀ fs : List Int, DpAll K H (fs.map V.int) (fs.map PyData.int)
  | [] => .nil
  | _ :: r => .cons (.int _) (ints_dp r)
theorem ints_shown : ∀ fs : List Int, (∀ f ∈ fs, f.natAbs < 10 ^ 12) → ((PyData.shownAll (fs.map PyData.int)).map (·.length)).sum ≤ 13 * fs.length
  | [], _ => Nat.zero_le _
  | f :: r, h => by
    have a := PyData.shown_int_le (h f List.mem_cons_self)
    have b := ints_shown r fun g hg => h g (List.mem_cons_of_mem _ hg)
    simp only [List.map_cons, PyData.shownAll, List.sum_cons, List.length_cons]
    omega
theorem ints_showable : ∀ fs : List Int, (∀ f ∈ fs, f.natAbs < 10 ^ 12) → PyData.showableAll (fs.map PyData.int) = true ∧ PyData.hasDictAll (fs.map PyData.int) = false ∧ PyData.depthAll (fs.map PyData.int) = 0 ∧ PyData.canLayAll0 (fs.map PyData.int) = true
  | [], _ => ⟨rfl, rfl, rfl, rfl⟩
  | f :: r, h => by
    obtain ⟨a, b, c, d⟩ := ints_showable r fun g hg => h g (List.mem_cons_of_mem _ hg)
    have e : (PyData.int f).showable = true := decide_eq_true (PySem.Flt.log2_lt_of (by decide) (Nat.lt_trans (h f List.mem_cons_self) (by decide +kernel)))
    refine ⟨?_, ?_, ?_, ?_⟩
    · rw [List.map_cons, PyData.showableAll, e, a]
      rfl
    · rw [List.map_cons, PyData.hasDictAll, b]
      rfl
    · rw [List.map_cons, PyData.depthAll, c]
      rfl
    · rw [List.map_cons, PyData.canLayAll0, d]
      rfl
theorem tup_rp {K : PySem.W.Frag} {H : Hp} {a : Addr} {fs : List Int} (ha : H a = some (.tup (fs.map V.int))) (hl : fs.length ≤ 1000) (h : ∀ f ∈ fs, f.natAbs < 10 ^ 12) :
    Rp K H (.ref a) (.tuple (fs.map PyData.int)) := by
  obtain ⟨s1, s2, s3, _⟩ := ints_showable fs h
  refine .inl ⟨.tup (.of ha) (ints_dp fs), ?_, ?_, ?_, ?_⟩
  · rw [PyData.showable]
    exact s1
  · rw [PyData.hasDict]
    exact s2
  · rw [PyData.depth, s3]
    decide
  · have e := tupleText_len_le (PyData.shownAll (fs.map PyData.int))
    have e2 := ints_shown fs h
    rw [PyData.shownAll_length, List.length_map] at e
    rw [PyData.shown, sizeLine_eq]
    omega
theorem tup_eqv {fs : List Int} (h : ∀ f ∈ fs, f.natAbs < 10 ^ 12) : SeqAt.shaped (.tuple (fs.map PyData.int)) = true ∧ PyData.eqv (.tuple (fs.map PyData.int)) (.tuple (fs.map PyData.int)) = true := by
  obtain ⟨_, _, s3, s4⟩ := ints_showable fs h
  have c : (PyData.tuple (fs.map PyData.int)).canLay0 = true := by
    rw [PyData.canLay0]
    exact s4
  refine ⟨?_, SeqAt.eqv_refl _ c⟩
  unfold SeqAt.shaped
  rw [c, PyData.depth, s3]
  rfl
theorem passN {X : Cx} : Passes (L2.CX X.prog X.w) X C8.E0 := passes_call L2.takes0 fun _ _ _ _ h => h
theorem call_lenK {X : Cx} {K : PySem.W.Frag} (h : X.K = K) : CallR X (.builtin "len") (fun xs H Q => ∃ p ys, xs = [V.ref p] ∧ (SqL K H p ys ∨ SqT K H p ys) ∧ Q (V.int ↑ys.length) H) := by
  subst h
  exact call_len_seq
theorem iteV {c : Bool} {x y z : V} {σ : L2.St} {H : Hp} {Q : VK} (e : (if c = true then x else y) = z) (h : Q z H) : if c = true then tC x σ H Q else tC y σ H Q := by
  subst e
  cases c
  · exact h
  · exact h
theorem iteVar {c : Bool} {n : Nat} {x y z : V} {σ : L2.St} {H : Hp} {Q : VK} (hs : σ[n]? = some (some x)) (e : (if c = true then x else y) = z) (h : Q z H) : if c = true then tVar n σ H Q else tC y σ H Q := by
  subst e
  cases c
  · exact h
  · exact ⟨_, hs, h⟩
theorem neI {a b : Int} (h : a = b) : (!decide (V.int a = V.int b)) = false := by
  subst h
  rw [decide_eq_true rfl]
  rfl
theorem neS {a b : Str} (h : a = b) : (!decide (V.str a = V.str b)) = false := by
  subst h
  rw [decide_eq_true rfl]
  rfl
end GG

set_option maxHeartbeats 4000000
/-! ### sorted(t), t a tuple of ints -/
namespace PySem.GX
open PySem PySem.Spec PyProof.Rows
section
variable {prog : Program} {w : World} {A : Around} {E : Value → Shared → Prop} {s : Shared}
theorem collect_tup {tp : Addr} {zs : List Value} {Q : List Value → Shared → Prop} (hl : s.heap.IsTuple tp zs.toArray) (few : zs.length ≤ sizeLine)
    (h : Q zs { s with heap := (s.heap.push (seqObj "list" #[] 0)).update s.heap.objs.size (Obj.mapSeq (· ++ zs.toArray)) }) : wpAny (model prog w) A (collect (.ref tp)) Q E s := by
  obtain ⟨o, at_, ct, n, dt⟩ := hl
  unfold collect
  apply wpAny_bind
  apply wpAny_runValue
  apply codeAny_builtin entry_proto_collect'
  show wpAny _ _ (do again (.builtin "list.__iadd__" ⟨[← newList [], .ref tp], []⟩)) _ _ s
  apply wpAny_bind
  refine wpAny_newList ?_
  apply wpAny_pure
  refine ⟨Code.quiet_builtin _ (by decide +kernel), codeAny_builtin entry_list_iadd' ?_⟩
  show wpAny _ _ (Builtin.List.listExtendWith (.ref s.heap.objs.size) (.ref tp) (.ref s.heap.objs.size)) _ _ { s with heap := s.heap.push (seqObj "list" #[] 0) }
  unfold Builtin.List.listExtendWith
  have there : (s.heap.push (seqObj "list" #[] 0)).get? tp = some o := Heap.get?_push_of_some _ at_
  have mine : (s.heap.push (seqObj "list" #[] 0)).get? s.heap.objs.size = some (seqObj "list" #[] 0) := Heap.get?_push_size _ rfl
  apply wpAny_bind
  refine wpAny_typeOf (T := "tuple") ⟨o, there, ct⟩ ?_
  rw [if_pos (by simp)]
  apply wpAny_bind
  refine listItems_at there dt ?_
  apply wpAny_bind
  refine listItems_at (xs := #[]) (n := 0) mine rfl ?_
  rw [if_neg (by simp)]
  apply wpAny_bind
  refine listUpdate_at (xs := #[]) (n := 0) mine rfl ?_ (Nat.zero_le _) ?_
  · apply wpAny_pure
    show wpAny (model prog w) A (do
        let o ← load s.heap.objs.size
        match o.data with
        | .seq xs _ => pure xs.toList
        | _ => unsupported "internal:collect") Q E { s with heap := (s.heap.push (seqObj "list" #[] 0)).update s.heap.objs.size (Obj.mapSeq (· ++ zs.toArray)) }
    apply wpAny_bind
    refine wpAny_load (get?_update_seq mine _) ?_
    show wpAny _ _ (pure ((#[] : Array Value) ++ zs.toArray).toList) Q E _
    have e : ((#[] : Array Value) ++ zs.toArray).toList = zs := by simp
    rw [e]
    exact wpAny_pure h
  · show (#[] ++ zs.toArray).size ≤ sizeLine + 1
    simp only [Array.size_append, List.size_toArray, List.length_nil]
    omega
theorem sorted_tup {tp : Addr} {zs : List Value} {ltv : Value → Value → Bool} {Q : Value → Shared → Prop} (O : SrtO.Swo ltv) (hl : s.heap.IsTuple tp zs.toArray) (few : zs.length ≤ sizeLine)
    (hS : 2 ≤ zs.length → ∀ (h₁ : Heap) (a : Addr), h₁.get? a = some (seqObj "list" zs.toArray 0) → (∀ b o, s.heap.get? b = some o → b ≠ a ∧ h₁.get? b = some o) → SrtO.SortableO prog w A.in1.in1 { s with heap := h₁ } a zs ltv)
    (h : ∀ out : List Value, SrtO.Srtd ltv out → SrtO.Stb ltv out zs → Q (.ref (s.heap.objs.size + 1)) { s with heap := sortedAll s.heap zs out.toArray }) :
    wpAny (model prog w) A (call (.builtin "sorted") [.ref tp]) Q E s := by
  apply Calls.call_function_entry kind_sorted plain_sorted entry_sorted (args_sorted1 _)
  unfold Builtin.«sorted»
  refine wpAny_bind (m := checkCount "sorted" 1 1 _) (wpAny_pure ?_)
  apply wpAny_bind
  refine collect_tup hl few ?_
  apply wpAny_bind
  refine wpAny_newList ?_ few
  have size : ((s.heap.push (seqObj "list" #[] 0)).update s.heap.objs.size (Obj.mapSeq (· ++ zs.toArray))).objs.size = s.heap.objs.size + 1 := by
    rw [Heap.size_update, size_push']
  have made : (((s.heap.push (seqObj "list" #[] 0)).update s.heap.objs.size (Obj.mapSeq (· ++ zs.toArray))).push (seqObj "list" zs.toArray 0)).get? (s.heap.objs.size + 1) = some (seqObj "list" zs.toArray 0) := by
    rw [← size]
    exact Heap.get?_push_size _ rfl
  have old : ∀ b o, s.heap.get? b = some o → b ≠ s.heap.objs.size + 1 ∧ (((s.heap.push (seqObj "list" #[] 0)).update s.heap.objs.size (Obj.mapSeq (· ++ zs.toArray))).push (seqObj "list" zs.toArray 0)).get? b = some o := by
    intro b o q
    have lt : b < s.heap.objs.size := Heap.lt_size q
    refine ⟨Nat.ne_of_lt (Nat.lt_succ_of_lt lt), Heap.get?_push_of_some _ ?_⟩
    rw [Heap.get?_update_ne _ _ _ _ (Nat.ne_of_lt lt)]
    exact Heap.get?_push_of_some _ q
  show wpAny _ _ _ _ _ { s with heap := ((s.heap.push (seqObj "list" #[] 0)).update s.heap.objs.size (Obj.mapSeq (· ++ zs.toArray))).push (seqObj "list" zs.toArray 0) }
  rw [size]
  apply wpAny_bind
  apply wpAny_holding
  refine wpAny_call_entry slot_list_sort ⟨_, made, rfl⟩ entry_list_sort (SrtO.list_sort_ord O made few (fun h2 => hS h2 _ _ made old) fun out hs hb => ⟨_, rfl, ?_⟩) (args_list_sort _)
  exact wpAny_pure ⟨_, rfl, h out hs hb⟩
end
end PySem.GX
namespace GG
open PySem PySem.Spec PyProof.Rows L2
def rSortT (K : PySem.W.Frag) : List V → Hp → VK → Prop := fun vs H Q => ∃ (a : Addr) (ns : List Int), vs = [.ref a] ∧ SqT K H a (ns.map V.int) ∧
  ∀ (ns' : List Int) (p : Addr), ns'.Perm ns → ns'.Pairwise (· ≤ ·) → H p = none → Q (.ref p) (upd H p (.lst (ns'.map V.int)))
theorem cr_sortT {X : Cx} : CallR X (.builtin "sorted") (rSortT X.K) := by
  intro pins s σ H vs us Q I r ⟨a, ns, ev, hs, q⟩
  subst ev
  obtain ⟨u, rfl, ru⟩ := vals1 r
  cases (show u = Value.ref a from ru)
  obtain ⟨its, rv, hl, hz⟩ := I.tuple hs
  have hI := rv.ints
  refine PySem.GX.sorted_tup SrtO.swo_int hl (by rw [← rv.length]; exact hz) (fun h2 h₁ a' _ _ => SrtO.ints_sortable hI h2) fun out h1 h2 => ?_
  obtain ⟨k1, k2, k3⟩ := SrtO.ints_out hI h1 h2
  obtain ⟨ep, at_⟩ := PyProof.Rows.sortedAll_at s.heap its out.toArray
  have few : ((out.map SrtO.iv).map V.int).length ≤ sizeLine := by
    rw [List.length_map, k2.length_eq]
    rw [List.length_map] at hz
    exact hz
  exact ⟨.ref _, upd H (s.heap.objs.size + 1) (.lst ((out.map SrtO.iv).map V.int)),
    I.laid (t' := s.toks) (fun _ _ => PyProof.Rows.sortedAll_old) (Nat.le_succ _) ⟨few, out, ep, vals_of_ints k1, at_⟩, rfl, q _ _ k2 k3 (I.hok.fresh (Nat.le_succ _))⟩
end GG

set_option maxHeartbeats 8000000
namespace GG
open PySem PySem.Spec PyProof.Rows L2 RZ
theorem tyOf_same {K : PySem.W.Frag} {H H' : Hp} {v : V} {t : Value} (s : Same H H') (h : TyOf K H v t) : TyOf K H' v t := by
  cases h with
  | non => exact .non
  | bl x => exact .bl x
  | int i => exact .int i
  | str x => exact .str x
  | flt x => exact .flt x
  | lst e => exact .lst (s _ _ e)
  | frz e => exact .frz (s _ _ e)
  | tup e => exact .tup (s _ _ e)
  | dK e => exact .dK (s _ _ e)
  | dT e => exact .dT (s _ _ e)
  | ins e cl ha hn htk hm => exact .ins (s _ _ e) cl ha hn htk hm
theorem tyX_same {K : PySem.W.Frag} {H H' : Hp} {v : V} {t : Value} (s : Same H H') (h : TyX K H v t) : TyX K H' v t := by
  cases h with
  | base h => exact .base (tyOf_same s h)
  | byt b => exact .byt b
  | set e => exact .set (s _ _ e)
  | kList e c => exact .kList e c
  | kTuple e c => exact .kTuple e c
  | kDict e c => exact .kDict e c
  | fTuple e => exact .fTuple (s _ _ e)
  | fDict e => exact .fDict (s _ _ e)
theorem noInt_same {K : PySem.W.Frag} {H H' : Hp} {v : V} (s : Same H H') (h : NoInt K H v) : NoInt K H' v := by
  rcases h with ⟨b, rfl⟩ | ⟨t, ty, kb⟩
  · exact .inl ⟨b, rfl⟩
  · exact .inr ⟨t, tyX_same s ty, kb⟩
theorem sqT_same {K : PySem.W.Frag} {H H' : Hp} {a : Addr} {xs : List V} (s : Same H H') (h : SqT K H a xs) : SqT K H' a xs := by
  rcases h with (h | ⟨o, h⟩) | h
  · exact .inl (.inl (s _ _ h))
  · exact .inl (.inr ⟨o, s _ _ h⟩)
  · exact .inr h
theorem walk_zipT {K : PySem.W.Frag} {a b : Addr} {xs ys : List V} {n : Nat} (hn : n = min xs.length ys.length) : Walk (ItzT K a b) n (fun H => SqT K H a xs ∧ SqT K H b ys) (YPair (fun i => xs[i]?) (fun i => ys[i]?)) := by
  refine ⟨fun i H hi g => ?_, fun H g => ⟨xs, ys, g.1, g.2, by omega⟩, fun i H v H' _ g y => ?_⟩
  · have l1 : i < xs.length := by omega
    have l2 : i < ys.length := by omega
    exact ⟨xs, ys, xs[i], ys[i], g.1, g.2, List.getElem?_eq_getElem l1, List.getElem?_eq_getElem l2⟩
  · obtain ⟨T, x, z, e1, e2, e3, e4, e5⟩ := y
    exact ⟨T, x, z, e1, e2, e3, e4 xs g.1, e5 ys g.2⟩
/-- what is_within answers of an item: 0 to many - 1 -/
def inM (many : Int) : V → Bool
  | .int n => inOk 0 (many - 1) n
  | _ => false
theorem inM_no {K : PySem.W.Frag} {H : Hp} {v : V} {many : Int} (h : NoInt K H v) : inM many v = false := by
  rcases h with ⟨b, rfl⟩ | ⟨t, ty, kb⟩
  · rfl
  · cases v with
    | int n =>
      cases ty with
      | base ty =>
        cases ty
        exact absurd kb (by decide +kernel)
    | _ => rfl
/-- ascending, told of ints -/
def ascI (ns : List Int) : Bool := (List.range (ns.length - 1)).all fun i => decide (ns.getD i 0 < ns.getD (i + 1) 0)
end GG
namespace GG
open PySem PySem.Spec PyProof.Rows L2
def inI : V → Bool
  | .int n => intOk n
  | _ => false
theorem inI_no {K : PySem.W.Frag} {H : Hp} {v : V} (h : NoInt K H v) : inI v = false := by
  rcases h with ⟨b, rfl⟩ | ⟨t, ty, kb⟩
  · rfl
  · cases v with
    | int n =>
      cases ty with
      | base ty =>
        cases ty
        exact absurd kb (by decide +kernel)
    | _ => rfl
theorem ints_flat : ∀ fs : List Int, PyData.depthAll (fs.map PyData.int) = 0 ∧ PyData.canLayAll0 (fs.map PyData.int) = true
  | [] => ⟨rfl, rfl⟩
  | f :: r => by
    obtain ⟨a, b⟩ := ints_flat r
    refine ⟨?_, ?_⟩
    · rw [List.map_cons, PyData.depthAll, a]
      rfl
    · rw [List.map_cons, PyData.canLayAll0, b]
      rfl
theorem list_shaped (fs : List Int) : SeqAt.shaped (.list (fs.map PyData.int)) = true := by
  obtain ⟨a, b⟩ := ints_flat fs
  unfold SeqAt.shaped
  rw [PyData.canLay0, b, PyData.depth, a]
  rfl
theorem ints_eqv : ∀ fs gs : List Int, PyData.eqvAll (fs.map PyData.int) (gs.map PyData.int) = decide (fs = gs)
  | [], [] => rfl
  | [], _ :: _ => rfl
  | _ :: _, [] => rfl
  | f :: fs, g :: gs => by
    rw [List.map_cons, List.map_cons, PyData.eqvAll, ints_eqv fs gs, PyData.eqv]
    by_cases h : f = g
    · by_cases h2 : fs = gs
      · simp [h, h2]
      · simp [h, h2]
    · simp [h]
theorem dpAll_ints {K : PySem.W.Frag} {H : Hp} : ∀ fs : List Int, DpAll K H (fs.map V.int) (fs.map PyData.int)
  | [] => .nil
  | _ :: r => .cons (.int _) (dpAll_ints r)
/-- the places of a web of so many -/
def places (many : Int) : List Int := (List.range many.toNat).map fun (i : Nat) => (i : Int)
theorem places_sorted (many : Int) : (places many).Pairwise (· ≤ ·) := by
  unfold places
  rw [List.pairwise_map]
  exact List.Pairwise.imp (fun h => by omega) List.pairwise_lt_range
end GG

set_option maxHeartbeats 8000000
/-! ### powers, figures -/
namespace GG
open PySem PySem.Spec PyProof.Rows L2
theorem pow_size {i : Int} {m n : Nat} (h0 : 1 ≤ i) (h1 : i < 2 ^ 64) (h : m ≤ n) : (i ^ m).natAbs < 2 ^ (64 * n + 1) := by
  rw [Int.natAbs_pow]
  have hi : i.natAbs ≤ 2 ^ 64 := by omega
  have a1 : i.natAbs ^ m ≤ (2 ^ 64) ^ m := Nat.pow_le_pow_left hi m
  have a2 : ((2 : Nat) ^ 64) ^ m ≤ 2 ^ (64 * n) := by
    rw [← Nat.pow_mul]
    exact Nat.pow_le_pow_right (by decide) (Nat.mul_le_mul_left 64 h)
  have a3 : (2 : Nat) ^ (64 * n) < 2 ^ (64 * n + 1) := Nat.pow_lt_pow_right (by decide) (by omega)
  omega
theorem pow_pos' {i : Int} (h : 1 ≤ i) (m : Nat) : 1 ≤ i ^ m := by
  induction m with
  | zero =>
    rw [Int.pow_zero]
    decide
  | succ m ih =>
    rw [Int.pow_succ]
    have := Int.mul_le_mul ih h (by decide) (by omega)
    omega
theorem pow_mono {i : Int} (h : 1 ≤ i) {a b : Nat} (hab : a ≤ b) : i ^ a ≤ i ^ b := by
  obtain ⟨c, rfl⟩ : ∃ c, b = a + c := ⟨b - a, by omega⟩
  rw [Int.pow_add]
  have h1 := pow_pos' h a
  have h2 := pow_pos' h c
  have := Int.mul_le_mul_of_nonneg_left h2 (show 0 ≤ i ^ a by omega)
  omega
/-- one more bit of an exponent -/
theorem shr_step (n : Int) (h : 0 ≤ n) (b : Nat) : (n / 2 ^ b).toNat = 2 * (n / 2 ^ (b + 1)).toNat + (n / 2 ^ b % 2).toNat := by
  have e : n / 2 ^ (b + 1) = n / 2 ^ b / 2 := by
    rw [Int.pow_succ, Int.ediv_ediv_of_nonneg (two_pow_nn b)]
  rw [e]
  have h1 : 0 ≤ n / 2 ^ b := Int.ediv_nonneg h (two_pow_nn b)
  generalize n / 2 ^ b = m at h1 ⊢
  omega
theorem shr_top {n : Int} (h : 0 ≤ n) : n / 2 ^ (Builtin.Int.intBits n) = 0 := by
  have hb : n.natAbs < 2 ^ (Builtin.Int.intBits n) := by
    unfold Builtin.Int.intBits
    split
    · rename_i z
      have : n.natAbs = 0 := by
        first
          | (simp at z; omega)
          | omega
      rw [this]
      decide
    · exact Nat.lt_log2_self
  apply Int.ediv_eq_zero_of_lt h
  have : (((2 ^ Builtin.Int.intBits n : Nat)) : Int) = 2 ^ Builtin.Int.intBits n := by
    rw [Int.natCast_pow]
    rfl
  omega
theorem mul_size {a b : Int} (ha : a.natAbs < 2 ^ 2000) (hb : b.natAbs < 2 ^ 7000) : CMulW a b := wide_mul ha hb (by decide) (by decide) (by decide)
theorem bits_up {a : Int} {m n : Nat} (h : a.natAbs < 2 ^ m) (hm : m ≤ n) : a.natAbs < 2 ^ n := Nat.lt_of_lt_of_le h (Nat.pow_le_pow_right (by decide) hm)
theorem le_bits {a b : Int} (h0 : 0 ≤ a) (h : a ≤ b) {m : Nat} (hb : b.natAbs < 2 ^ m) : a.natAbs < 2 ^ m := by
  generalize (2 : Nat) ^ m = M at hb ⊢
  omega
def figs (i : Int) (L : Nat) (n : Int) : List Int := ((List.range L).map fun j => n / i ^ j % i).reverse
def val (i : Int) (fs : List Int) : Int := fs.foldl (fun a f => a * i + f) 0
theorem val_snoc (i : Int) (fs : List Int) (f : Int) : val i (fs ++ [f]) = val i fs * i + f := by
  unfold val
  rw [List.foldl_append]
  rfl
theorem fold_bound {i : Int} (hi : 1 ≤ i) : ∀ (fs : List Int) (a : Int) (n : Nat), 0 ≤ a → a < i ^ n → (∀ f ∈ fs, 0 ≤ f ∧ f < i) →
    0 ≤ fs.foldl (fun a f => a * i + f) a ∧ fs.foldl (fun a f => a * i + f) a < i ^ (n + fs.length)
  | [], a, n, h0, h1, _ => ⟨h0, h1⟩
  | f :: fs, a, n, h0, h1, h => by
    obtain ⟨f1, f2⟩ := h f List.mem_cons_self
    have b1 := Int.mul_nonneg h0 (show 0 ≤ i by omega)
    have b2 := Int.mul_le_mul_of_nonneg_right (show a + 1 ≤ i ^ n by omega) (show 0 ≤ i by omega)
    rw [Int.add_mul, Int.one_mul] at b2
    have b3 : a * i + f < i ^ (n + 1) := by
      rw [Int.pow_succ]
      omega
    have ih := fold_bound hi fs (a * i + f) (n + 1) (by omega) b3 fun g hg => h g (List.mem_cons_of_mem _ hg)
    rw [List.foldl_cons, List.length_cons, show n + (fs.length + 1) = n + 1 + fs.length by omega]
    exact ih
theorem val_bound {i : Int} (hi : 1 ≤ i) (fs : List Int) (h : ∀ f ∈ fs, 0 ≤ f ∧ f < i) : 0 ≤ val i fs ∧ val i fs < i ^ fs.length := by
  have := fold_bound hi fs 0 0 (by decide) (by rw [Int.pow_zero]; decide) h
  rw [Nat.zero_add] at this
  exact this
theorem pow_le {a b : Int} (h0 : 0 ≤ a) (h : a ≤ b) : ∀ n : Nat, 0 ≤ a ^ n ∧ a ^ n ≤ b ^ n
  | 0 => by
    rw [Int.pow_zero, Int.pow_zero]
    decide
  | n + 1 => by
    obtain ⟨h1, h2⟩ := pow_le h0 h n
    rw [Int.pow_succ, Int.pow_succ]
    exact ⟨Int.mul_nonneg h1 h0, Int.mul_le_mul h2 h h0 (by omega)⟩
theorem pow_lt1 {i : Int} (h : 2 ≤ i) {a b : Nat} (hab : a < b) : i ^ a < i ^ b := by
  have h1 := pow_pos' (show 1 ≤ i by omega) a
  have h2 := pow_mono (show 1 ≤ i by omega) (show a + 1 ≤ b by omega)
  rw [Int.pow_succ] at h2
  have h3 := Int.mul_le_mul_of_nonneg_left h (show 0 ≤ i ^ a by omega)
  omega
theorem pow_inj {i : Int} (h : 2 ≤ i) {a b : Nat} (e : i ^ a = i ^ b) : a = b := by
  rcases Nat.lt_trichotomy a b with z | z | z
  · have := pow_lt1 h z
    omega
  · exact z
  · have := pow_lt1 h z
    omega
theorem one_pow' (n : Nat) : (1 : Int) ^ n = 1 := by
  induction n with
  | zero => rfl
  | succ n ih => rw [Int.pow_succ, ih]; rfl
theorem figs_succ (i : Int) (hi : 1 ≤ i) (L : Nat) (n : Int) : figs i (L + 1) n = figs i L (n / i) ++ [n % i] := by
  unfold figs
  rw [List.range_succ_eq_map, List.map_cons, List.reverse_cons, List.map_map, Int.pow_zero, Int.ediv_one]
  congr 2
  apply List.map_congr_left
  intro j _
  show n / i ^ (j + 1) % i = n / i / i ^ j % i
  rw [Int.pow_succ, Int.mul_comm, Int.ediv_ediv_of_nonneg (by omega)]
theorem figs_val' {i : Int} (hi : 1 ≤ i) : ∀ rs : List Int, (∀ f ∈ rs, 0 ≤ f ∧ f < i) → figs i rs.length (val i rs.reverse) = rs.reverse
  | [], _ => rfl
  | f :: r, h => by
    obtain ⟨f0, f1⟩ := h f List.mem_cons_self
    have ih := figs_val' hi r fun g hg => h g (List.mem_cons_of_mem _ hg)
    rw [List.reverse_cons, val_snoc, List.length_cons, figs_succ i hi]
    have d : (val i r.reverse * i + f) / i = val i r.reverse := by
      rw [Int.add_comm, Int.add_mul_ediv_right _ _ (by omega), Int.ediv_eq_zero_of_lt f0 f1, Int.zero_add]
    have m : (val i r.reverse * i + f) % i = f := by
      rw [Int.add_comm, Int.add_mul_emod_self_right, Int.emod_eq_of_lt f0 f1]
    rw [d, m, ih]
theorem figs_val {i : Int} (hi : 1 ≤ i) {fs : List Int} (h : ∀ f ∈ fs, 0 ≤ f ∧ f < i) : figs i fs.length (val i fs) = fs := by
  have := figs_val' hi fs.reverse fun f hf => h f (List.mem_reverse.mp hf)
  rw [List.reverse_reverse, List.length_reverse] at this
  exact this
theorem val_pad (i : Int) (fs : List Int) : val i (0 :: 0 :: 0 :: fs) = val i fs := by
  show fs.foldl _ (((0 * i + 0) * i + 0) * i + 0) = fs.foldl _ 0
  congr 1
  simp

end GG

set_option maxHeartbeats 4000000
/-! ### own classes with __contains__, __getitem__, __len__ -/
namespace GG
open PySem PySem.Spec PyProof.Rows L2
section
variable {X : Cx} {CX : CXT} {k : Nat} {f C a dx : Addr} {fs : List (Str × V)} {fd : FuncData} {ps : List Str} {sp : Sp} {E : XK} {pins : List (Addr × Obj)} {σ : L2.St} {H : Hp} {s : Shared}
theorem ins_inst (I : Inv X pins σ H s) (e : H a = some (.ins C dx fs)) : ∃ ox od, PySem.W.InstAt s.heap a ox C od := by
  obtain ⟨_, _, _, at_, mA, ns1, _, _⟩ := (show ObjOk X.prog X.w H s.heap a (.ins C dx fs) from I.hok a _ e)
  obtain ⟨od, ho, _⟩ := lookIn_ns ns1
  exact ⟨_, some od, at_, rfl, rfl, ho⟩
theorem inv_fr (I : Inv X pins σ H s) : ∃ m, Fr X.base X.env.locals s.heap m := by
  obtain ⟨m, ns, _⟩ := I.loc
  exact ⟨m, ns, fun b o e => (I.bs b o e).1, Nat.le_trans I.ok.bsz I.ok.above⟩
/-- the method's call, in the same place or one in -/
theorem run_in {us : List Value} {vs : List V} {Q : VK} {R : Value → Shared → Prop} (A : Around) (hA : A = X.A ∨ A = X.A.in1) (F : FnOk X.prog X.w X.K X.mg X.base CX k f fd ps sp) (hr : Room (k + 1) X.A) (bd : L2.Binds X.K fd ps []) (pass : Passes CX X E)
    (I : Inv X pins σ H s) (r : Vals vs us) (h : sp vs H Q E) (hQ : ∀ v H' u s', Inv X pins σ H' s' → RelV v u → Q v H' → R u s') :
    wpAny (model X.prog X.w) A (call (.ref f) us) R X.xe s := by
  have ln : (us ++ []).length = ps.length := by
    rw [List.append_nil, ← r.length]
    exact F.len _ _ _ _ h
  have bu := bd s us I.kIn ln
  rw [List.append_nil] at bu
  have en : Env0 X.prog X.w X.K X.mg X.base A X.stack s H ∧ Room k A := by
    rcases hA with rfl | rfl
    · exact ⟨I.env0, hr.mono (Nat.le_succ k)⟩
    · exact ⟨I.env0.in1, hr.in1⟩
  refine wpAny_call (codeAny_mono (F.run A X.stack s H ⟨us, []⟩ us vs Q E en.2 en.1 bu r h) ?_)
  intro res s2 z
  cases res with
  | error e => exact pass pins σ H s e s2 I z
  | ok fl =>
    cases fl with
    | ret u =>
      obtain ⟨v, H', I2, rv, q⟩ := I.after z
      exact hQ v H' u s2 I2 rv q
    | next => exact z.elim
    | brk => exact z.elim
    | cont => exact z.elim
/-- e in o, e not in o -/
def rInO (C : Addr) (sp : Sp) (E : XK) (neg : Bool) : R2 := fun x y H Q => ∃ (a dx : Addr) (fs : List (Str × V)), y = .ref a ∧ H a = some (.ins C dx fs) ∧ sp [.ref a, x] H (fun r H' => ∃ b, r = .bl b ∧ Q (.bl (xor neg b)) H') E
theorem op_inO (m : Meth X.K C "__contains__" f) (F : FnOk X.prog X.w X.K X.mg X.base CX k f fd ps sp) (hr : Room (k + 1) X.A) (bd : L2.Binds X.K fd ps []) (pass : Passes CX X E) : OpR X (compareOp .In) (rInO C sp E false) := by
  intro pins s σ H x y v u Q I rx ry ⟨a, dx, fs, ey, ea, q⟩
  subst ey
  cases (show u = Value.ref a from ry)
  obtain ⟨ox, od, at_⟩ := ins_inst I ea
  obtain ⟨mm, fr⟩ := inv_fr I
  refine PySem.W.in_K fr I.ok.mod.kin at_ m.at_ m.fn (run_in X.A (.inl rfl) F hr bd pass I (vs := [.ref a, x]) (.cons rfl (.cons rx .nil)) q ?_)
  intro r H' u2 s2 I2 rr ⟨b, eb, q2⟩
  subst eb
  cases (show u2 = Value.bool b from rr)
  have e : (xor false b) = b := by cases b <;> rfl
  rw [e] at q2
  exact wpAny_pure ⟨.bl b, H', I2, rfl, q2⟩
theorem op_notInO (m : Meth X.K C "__contains__" f) (F : FnOk X.prog X.w X.K X.mg X.base CX k f fd ps sp) (hr : Room (k + 1) X.A) (bd : L2.Binds X.K fd ps []) (pass : Passes CX X E) : OpR X (compareOp .NotIn) (rInO C sp E true) := by
  intro pins s σ H x y v u Q I rx ry ⟨a, dx, fs, ey, ea, q⟩
  subst ey
  cases (show u = Value.ref a from ry)
  obtain ⟨ox, od, at_⟩ := ins_inst I ea
  obtain ⟨mm, fr⟩ := inv_fr I
  refine PySem.W.notIn_K fr I.ok.mod.kin at_ m.at_ m.fn (run_in X.A (.inl rfl) F hr bd pass I (vs := [.ref a, x]) (.cons rfl (.cons rx .nil)) q ?_)
  intro r H' u2 s2 I2 rr ⟨b, eb, q2⟩
  subst eb
  cases (show u2 = Value.bool b from rr)
  have e : (xor true b) = !b := by cases b <;> rfl
  rw [e] at q2
  exact wpAny_pure ⟨.bl (!b), H', I2, rfl, q2⟩
/-- len(o) -/
def rLenO (C : Addr) (sp : Sp) (E : XK) : List V → Hp → VK → Prop := fun xs H Q => ∃ (a dx : Addr) (fs : List (Str × V)), xs = [.ref a] ∧ H a = some (.ins C dx fs) ∧ sp [.ref a] H (fun r H' => ∃ n : Int, r = .int n ∧ (0 ≤ n ∧ n < 2 ^ 63) ∧ Q (.int n) H') E
theorem call_lenO (m : Meth X.K C "__len__" f) (F : FnOk X.prog X.w X.K X.mg X.base CX k f fd ps sp) (hr : Room (k + 1) X.A) (bd : L2.Binds X.K fd ps []) (pass : Passes CX X E) : CallR X (.builtin "len") (rLenO C sp E) := by
  intro pins s σ H xs us Q I r ⟨a, dx, fs, ex, ea, q⟩
  subst ex
  obtain ⟨u, rfl, ru⟩ := vals1 r
  cases (show u = Value.ref a from ru)
  obtain ⟨ox, od, at_⟩ := ins_inst I ea
  obtain ⟨mm, fr⟩ := inv_fr I
  refine PySem.W.len_K fr I.ok.mod.kin at_ m.at_ m.fn (run_in X.A.in1 (.inr rfl) F hr bd pass I (vs := [.ref a]) (.cons rfl .nil) q ?_)
  intro r2 H' u2 s2 I2 rr ⟨n, en, hn, q2⟩
  subst en
  obtain ⟨t, rfl⟩ := rr
  exact ⟨hn, .int n, H', I2.tok _, ⟨_, rfl⟩, q2⟩
/-- o[i] -/
def rIxO (C : Addr) (sp : Sp) (E : XK) : R2 := fun x y H Q => ∃ (a dx : Addr) (fs : List (Str × V)), x = .ref a ∧ H a = some (.ins C dx fs) ∧ sp [.ref a, y] H Q E
theorem pe_ixO {va vb : Expr} {ta tb : TE} {pos : Pos} (m : Meth X.K C "__getitem__" f) (fn : PySem.W.fnIn X.K f = true) (F : FnOk X.prog X.w X.K X.mg X.base CX k f fd ps sp) (hr : Room (k + 1) X.A) (bd : L2.Binds X.K fd ps []) (pass : Passes CX X E)
    (ha : PE X va ta) (hb : PE X vb tb) (hsl : ∀ (a : Addr) (i : Value), subscripted vb true (.ref a) i = runValue (.builtin "lifetime.subscript" ⟨[.ref a, i], []⟩) := by intro _ _; with_unfolding_all rfl) :
    PE X (.Subscript va vb pos) (tOp (rIxO C sp E) ta tb) := by
  constructor
  intro pins s σ H Q I h
  refine Subscript_ (binT ha hb I h ?_)
  intro v u s2 x y H2 I2 rx ry ⟨a, dx, fs, ex, ea, q⟩
  subst ex
  cases (show v = Value.ref a from rx)
  obtain ⟨ox, od, at_⟩ := ins_inst I2 ea
  obtain ⟨mm, fr⟩ := inv_fr I2
  exact PySem.W.sub_K fr I2.ok.mod.kin at_ m.at_ fn m.fn (run_in X.A.in1 (.inr rfl) F hr bd pass I2 (vs := [.ref a, y]) (.cons rfl (.cons ry .nil)) q fun r H' u2 s3 I3 rr q2 => ⟨r, H', I3, rr, q2⟩) (hsl a u)
end
end GG

set_option maxHeartbeats 4000000
/-! ### own classes with __eq__: == and != -/
namespace PySem.W
open PySem PySem.Calls PyProof.Rows
section
variable {prog : Program} {w : World} {A : Around} {E : Value → Shared → Prop} {s : Shared} {K : Frag} {x C L f : Addr} {h₀ : Heap} {m : Str → Option Value} {ox : Obj} {od : Option Obj} {b tb : Value}
theorem ifBound_KB {M : Model} {args : List Value} {Q : Option Value → Shared → Prop} (X : K.In s.heap) (I : InstAt s.heap x ox C od) (hs : findIn K (.ref C) "__ne__" = some (some (.builtin "object.__ne__")))
    (h : wpAny M A (call (.builtin "object.__ne__") (.ref x :: args)) (fun v => Q (some v)) E s) : wpAny M A (callSpecialIfBound? (.ref x) "__ne__" args) Q E s := by
  simp only [callSpecialIfBound?, bindSpecialIfBound?]
  refine wpAny_holding (wpAny_bind (wpAny_bind (wpAny_bind (I.type.here ((looks_findIn X hs).here ?_)))))
  simp only [PySem.F.cmp_object.ne.bind]
  refine wpAny_bind (wpAny_askSetting (wpAny_ite ?_))
  have fin : wpAny M A (call (.builtin "object.__ne__") ([.ref x] ++ args) >>= fun v => pure (some v)) Q E s := wpAny_bind (wpAny_mono h (fun v s' h' => wpAny_pure h') fun _ _ h' => h')
  split
  · exact wpAny_bind (wpAny_pure (wpAny_pure fin))
  · exact wpAny_tryCatch (wpAny_bind (wpAny_pure (wpAny_pure fin)))
/-- x != b, by __eq__ at f -/
theorem ne_K {Q : Value → Shared → Prop} (hu : A.units + 1 < cLine) (F : Fr h₀ L s.heap m) (X₀ : K.In h₀) (I : InstAt s.heap x ox C od) (hb : Looks (model prog w) s.heap (typeOf b) tb) (hn : notFirst K C tb = true)
    (hne : findIn K (.ref C) "__ne__" = some (some (.builtin "object.__ne__"))) (ho : subIn K (.ref C) (.type "object") = some true)
    (hs : findIn K (.ref C) "__eq__" = some (some (.ref f))) (hf : isFn K (.ref f) = true)
    (h : wpAny (model prog w) A.in1 (call (.ref f) [.ref x, b]) (fun v s' => ∃ c, v = .bool c ∧ Q (.bool (!c)) s') E s) : wpAny (model prog w) A (richCompare .NotEq (.ref x) b) Q E s := by
  have X := X₀.keeps F.keep
  have one : wpAny (model prog w) A (tryCompare (.ref x) "__ne__" b) (fun r s' => ∃ v, r = some v ∧ Q v s') E s := by
    unfold tryCompare
    refine wpAny_bind (ifBound_KB X I hne (wpAny_call (codeAny_call_builtin PySem.F.cmp_object.ne.plain PySem.F.cmpEntry_ne (check_slot PySem.F.cmpKind_ne PySem.F.cmpSplit_ne (I.type.andThen (looks_subIn X ho)) (PySem.F.cmpArgs_ne _ _) ?_))))
    unfold Builtin.«object.__ne__»
    repeat (first
      | with_reducible refine wpAny_cRoomFor (A := A.in1) (show A.in1.units < cLine from hu) ?_
      | (refine wpAny_bind (m := callSpecialIfBound? (.ref x) (Str.ofString "__eq__") [b])
          (ifBound_K X I hs hf (wpAny_mono h (fun r s' hr => by
            obtain ⟨c, rfl, hq⟩ := hr
            repeat (first | exact ⟨_, rfl, hq⟩ | exact wpAny_pure ⟨_, rfl, hq⟩ | exact wpAny_truthy_bool ⟨_, rfl, hq⟩ | (refine wpAny_bind (m := truthy (.bool _)) (wpAny_truthy_bool ?_)) | wp_step)) fun _ _ e => e)))
      | wp_step)
  unfold richCompare
  simp only [oneThing_ref]
  refine wpAny_holding (wpAny_bind (wpAny_cRoomFor (by omega) ?_))
  refine wpAny_bind (I.type.here (wpAny_bind (hb.here ?_)))
  have fin : wpAny (model prog w) A (tryCompare (.ref x) "__ne__" b) (fun r s' => ∃ v, r = some v ∧ Q v s') E s := one
  split
  · rename_i q
    have e : subIn K tb (.ref C) = some false := by
      rcases Bool.or_eq_true_iff.mp hn with e | e
      · rw [beq_iff_eq.mp e] at q; simp at q
      · exact beq_iff_eq.mp e
    refine wpAny_bind ((looks_subIn X e).here ?_)
    simp only [Bool.false_eq_true, if_false]
    refine wpAny_bind (wpAny_mono one (fun r s' z => ?_) fun _ _ e => e)
    obtain ⟨v, rfl, hq⟩ := z
    exact wpAny_pure hq
  · refine wpAny_bind (wpAny_pure ?_)
    simp only [Bool.false_eq_true, if_false]
    refine wpAny_bind (wpAny_mono one (fun r s' z => ?_) fun _ _ e => e)
    obtain ⟨v, rfl, hq⟩ := z
    exact wpAny_pure hq
end
end PySem.W
namespace GG
open PySem PySem.Spec PyProof.Rows L2
section
variable {X : Cx} {CX : CXT} {k : Nat} {f C a dx : Addr} {fs : List (Str × V)} {fd : FuncData} {ps : List Str} {sp : Sp} {E : XK} {pins : List (Addr × Obj)} {σ : L2.St} {H : Hp} {s : Shared}
theorem tyX_looks {y : V} {u t : Value} (I : Inv X pins σ H s) (ty : TyX X.K H y t) (ry : RelV y u) : PySem.W.Looks (model X.prog X.w) s.heap (typeOf u) t := by
  obtain ⟨P, k, hp, _⟩ := kit_of I ry ty
  exact k.ty _ _ I.kIn hp
/-- o == e: the values on the right whose class is not below C -/
def rEqO (K : PySem.W.Frag) (C : Addr) (sp : Sp) (E : XK) (neg : Bool) : R2 := fun x y H Q => ∃ (a dx : Addr) (fs : List (Str × V)) (t : Value), x = .ref a ∧ H a = some (.ins C dx fs) ∧
  TyX K H y t ∧ PySem.W.notFirst K C t = true ∧ sp [.ref a, y] H (fun r H' => ∃ b, r = .bl b ∧ Q (.bl (xor neg b)) H') E
theorem op_eqO (m : Meth X.K C "__eq__" f) (F : FnOk X.prog X.w X.K X.mg X.base CX k f fd ps sp) (hr : Room (k + 1) X.A) (bd : L2.Binds X.K fd ps []) (pass : Passes CX X E) : OpR X (compareOp .Eq) (rEqO X.K C sp E false) := by
  intro pins s σ H x y v u Q I rx ry ⟨a, dx, fs, t, ex, ea, ty, nf, q⟩
  subst ex
  cases (show v = Value.ref a from rx)
  obtain ⟨ox, od, at_⟩ := ins_inst I ea
  obtain ⟨mm, fr⟩ := inv_fr I
  refine PySem.W.cmp_ofEq (PySem.W.cmp_K (op := .Eq) (by have := hr.un; omega) fr I.ok.mod.kin at_ (tyX_looks I ty ry) nf m.at_ m.fn (run_in X.A (.inl rfl) F hr bd pass I (vs := [.ref a, y]) (.cons rfl (.cons ry .nil)) q ?_))
  intro r H' u2 s2 I2 rr ⟨b, eb, q2⟩
  subst eb
  cases (show u2 = Value.bool b from rr)
  have e : (xor false b) = b := by cases b <;> rfl
  rw [e] at q2
  exact ⟨.bl b, H', I2, rfl, q2⟩
theorem op_neO (m : Meth X.K C "__eq__" f) (hne : PySem.W.findIn X.K (.ref C) "__ne__" = some (some (.builtin "object.__ne__"))) (ho : PySem.W.subIn X.K (.ref C) (.type "object") = some true)
    (F : FnOk X.prog X.w X.K X.mg X.base CX k f fd ps sp) (hr : Room (k + 1) X.A) (bd : L2.Binds X.K fd ps []) (pass : Passes CX X E) : OpR X (compareOp .NotEq) (rEqO X.K C sp E true) := by
  intro pins s σ H x y v u Q I rx ry ⟨a, dx, fs, t, ex, ea, ty, nf, q⟩
  subst ex
  cases (show v = Value.ref a from rx)
  obtain ⟨ox, od, at_⟩ := ins_inst I ea
  obtain ⟨mm, fr⟩ := inv_fr I
  refine PySem.W.cmp_ofNotEq (PySem.W.ne_K (by have := hr.un; omega) fr I.ok.mod.kin at_ (tyX_looks I ty ry) nf hne ho m.at_ m.fn (run_in X.A.in1 (.inr rfl) F hr bd pass I (vs := [.ref a, y]) (.cons rfl (.cons ry .nil)) q ?_))
  intro r H' u2 s2 I2 rr ⟨b, eb, q2⟩
  subst eb
  cases (show u2 = Value.bool b from rr)
  have e : (xor true b) = !b := by cases b <;> rfl
  rw [e] at q2
  exact ⟨b, rfl, .bl (!b), H', I2, rfl, q2⟩
end
end GG

set_option maxHeartbeats 8000000
/-! ### webs: rows of natural numbers, the class Web -/
namespace GG
open PySem PySem.Spec PyProof.Rows L2
abbrev vN (k : Nat) : V := .int k
def clsBody : PySem.Stmt → List PySem.Stmt
  | .ClassDef _ _ _ b _ _ _ _ _ _ _ => b
  | _ => []
theorem vint_inj {a b : Int} (h : V.int a = V.int b) : a = b := by cases h; rfl
theorem vN_inj {a b : Nat} (h : vN a = vN b) : a = b := by
  have := vint_inj h
  omega
theorem mapN (xs : List Nat) : xs.map vN = (xs.map fun k : Nat => (k : Int)).map V.int := by
  rw [List.map_map]
  rfl
theorem sqT_ty {K : PySem.W.Frag} {H : Hp} {a : Addr} {xs : List V} (h : SqT K H a xs) : TyX K H (.ref a) (.type "tuple") := by
  rcases h with (h | ⟨o, h⟩) | ⟨o, its, n, hk, hc, _⟩
  · exact .base (.tup h)
  · exact .fTuple h
  · exact .kTuple hk hc
theorem seqL_same {K : PySem.W.Frag} {H H' : Hp} {a : Addr} {xs : List V} (s : Same H H') (h : SqL K H a xs) : SqL K H' a xs := by
  rcases h with (h | ⟨o, h⟩) | h
  · exact .inl (.inl (s _ _ h))
  · exact .inl (.inr ⟨o, s _ _ h⟩)
  · exact .inr h
/-- a tuple at r of tuples of natural numbers -/
structure RowsT (K : PySem.W.Frag) (H : Hp) (r : Addr) (as : List Addr) (rows : List (List Nat)) : Prop where
  seq : SqT K H r (as.map V.ref)
  len : as.length = rows.length
  row : ∀ (i : Nat) (a : Addr) (row : List Nat), as[i]? = some a → rows[i]? = some row → SqT K H a (row.map vN)
theorem RowsT.same {K : PySem.W.Frag} {H H' : Hp} {r : Addr} {as : List Addr} {rows : List (List Nat)} (h : RowsT K H r as rows) (s : Same H H') : RowsT K H' r as rows :=
  ⟨sqT_same s h.seq, h.len, fun i a row h1 h2 => sqT_same s (h.row i a row h1 h2)⟩
/-! ### as data -/
abbrev natsD (row : List Nat) : PyData := .tuple (row.map fun k : Nat => .int (k : Int))
abbrev tupsD (rows : List (List Nat)) : List PyData := rows.map natsD
theorem nats_dp {K : PySem.W.Frag} {H : Hp} : ∀ row : List Nat, DpAll K H (row.map vN) (row.map fun k : Nat => .int (k : Int))
  | [] => .nil
  | _ :: r => .cons (.int _) (nats_dp r)
theorem natsD_dp {K : PySem.W.Frag} {H : Hp} {a : Addr} {row : List Nat} (h : SqT K H a (row.map vN)) : Dp K H (.ref a) (natsD row) := .tup h (nats_dp row)
theorem nats_flat : ∀ row : List Nat, PyData.depthAll (row.map fun k : Nat => .int (k : Int)) = 0 ∧ PyData.canLayAll0 (row.map fun k : Nat => .int (k : Int)) = true
  | [] => ⟨rfl, rfl⟩
  | f :: r => by
    obtain ⟨a, b⟩ := nats_flat r
    refine ⟨?_, ?_⟩
    · rw [List.map_cons, PyData.depthAll, a]
      rfl
    · rw [List.map_cons, PyData.canLayAll0, b]
      rfl
theorem natsD_shaped (row : List Nat) : SeqAt.shaped (natsD row) = true := by
  obtain ⟨a, b⟩ := nats_flat row
  unfold SeqAt.shaped
  rw [PyData.canLay0, b, PyData.depth, a]
  rfl
theorem nats_eqv : ∀ fs gs : List Nat, PyData.eqvAll (fs.map fun k : Nat => .int (k : Int)) (gs.map fun k : Nat => .int (k : Int)) = decide (fs = gs)
  | [], [] => rfl
  | [], _ :: _ => rfl
  | _ :: _, [] => rfl
  | f :: r, g :: t => by
    rw [List.map_cons, List.map_cons, PyData.eqvAll, nats_eqv r t, PyData.eqv]
    by_cases h : f = g
    · subst h
      by_cases e : r = t <;> simp [e]
    · have : ((f : Int) == (g : Int)) = false := by simpa using fun z => h (by omega)
      rw [this, Bool.false_and]
      simp [h]
theorem natsD_eqv (a b : List Nat) : PyData.eqv (natsD a) (natsD b) = decide (a = b) := by
  rw [PyData.eqv, nats_eqv]
theorem tupsD_flat : ∀ rows : List (List Nat), PyData.depthAll (tupsD rows) ≤ 1 ∧ PyData.canLayAll0 (tupsD rows) = true
  | [] => ⟨Nat.zero_le _, rfl⟩
  | f :: r => by
    obtain ⟨a, b⟩ := tupsD_flat r
    obtain ⟨c, d⟩ := nats_flat f
    refine ⟨?_, ?_⟩
    · rw [tupsD, List.map_cons, PyData.depthAll, PyData.depth, c]
      exact Nat.max_le.mpr ⟨by decide, a⟩
    · rw [tupsD, List.map_cons, PyData.canLayAll0, PyData.canLay0, d]
      exact b
theorem tupsD_shaped (rows : List (List Nat)) : SeqAt.shaped (.tuple (tupsD rows)) = true ∧ SeqAt.shaped (.list (tupsD rows)) = true := by
  obtain ⟨a, b⟩ := tupsD_flat rows
  refine ⟨?_, ?_⟩
  · unfold SeqAt.shaped
    rw [PyData.canLay0, b, PyData.depth]
    exact decide_eq_true (by omega)
  · unfold SeqAt.shaped
    rw [PyData.canLay0, b, PyData.depth]
    exact decide_eq_true (by omega)
theorem tupsD_eqv : ∀ fs gs : List (List Nat), PyData.eqvAll (tupsD fs) (tupsD gs) = decide (fs = gs)
  | [], [] => rfl
  | [], _ :: _ => rfl
  | _ :: _, [] => rfl
  | f :: r, g :: t => by
    rw [tupsD, tupsD, List.map_cons, List.map_cons, PyData.eqvAll, natsD_eqv]
    have := tupsD_eqv r t
    rw [show List.map natsD r = tupsD r from rfl, show List.map natsD t = tupsD t from rfl, this]
    by_cases h : f = g
    · subst h
      by_cases e : r = t <;> simp [e]
    · simp [h]
theorem tupsD_dp {K : PySem.W.Frag} {H : Hp} : ∀ (as : List Addr) (rows : List (List Nat)), as.length = rows.length → (∀ (i : Nat) (a : Addr) (row : List Nat), as[i]? = some a → rows[i]? = some row → SqT K H a (row.map vN)) →
    DpAll K H (as.map V.ref) (tupsD rows)
  | [], [], _, _ => .nil
  | [], _ :: _, h, _ => by cases h
  | _ :: _, [], h, _ => by cases h
  | a :: as, row :: rows, h, hr => .cons (natsD_dp (hr 0 a row rfl rfl)) (tupsD_dp as rows (by simpa using h) fun i b r h1 h2 => hr (i + 1) b r h1 h2)
theorem RowsT.dp {K : PySem.W.Frag} {H : Hp} {r : Addr} {as : List Addr} {rows : List (List Nat)} (h : RowsT K H r as rows) : Dp K H (.ref r) (.tuple (tupsD rows)) := .tup h.seq (tupsD_dp as rows h.len h.row)
/-- a list at r of tuples of natural numbers -/
structure RowsL (K : PySem.W.Frag) (H : Hp) (r : Addr) (as : List Addr) (rows : List (List Nat)) : Prop where
  seq : SqL K H r (as.map V.ref)
  len : as.length = rows.length
  row : ∀ (i : Nat) (a : Addr) (row : List Nat), as[i]? = some a → rows[i]? = some row → SqT K H a (row.map vN)
theorem RowsL.same {K : PySem.W.Frag} {H H' : Hp} {r : Addr} {as : List Addr} {rows : List (List Nat)} (h : RowsL K H r as rows) (s : Same H H') : RowsL K H' r as rows :=
  ⟨seqL_same s h.seq, h.len, fun i a row h1 h2 => sqT_same s (h.row i a row h1 h2)⟩
theorem RowsL.dp {K : PySem.W.Frag} {H : Hp} {r : Addr} {as : List Addr} {rows : List (List Nat)} (h : RowsL K H r as rows) : Dp K H (.ref r) (.list (tupsD rows)) := .lst h.seq (tupsD_dp as rows h.len h.row)
/-- addresses of tuples of natural numbers -/
def Tups (K : PySem.W.Frag) (H : Hp) (as : List Addr) (rows : List (List Nat)) : Prop := as.length = rows.length ∧ ∀ (i : Nat) (a : Addr) (row : List Nat), as[i]? = some a → rows[i]? = some row → SqT K H a (row.map vN)
theorem Tups.nil {K : PySem.W.Frag} {H : Hp} : Tups K H [] [] := ⟨rfl, fun i a row h => by cases h⟩
theorem Tups.same {K : PySem.W.Frag} {H H' : Hp} {as : List Addr} {rows : List (List Nat)} (t : Tups K H as rows) (s : Same H H') : Tups K H' as rows := ⟨t.1, fun i a row h1 h2 => sqT_same s (t.2 i a row h1 h2)⟩
theorem sqT_lst {K : PySem.W.Frag} {H : Hp} {a D : Addr} {xs ys : List V} {o : HO} (h : SqT K H a xs) (hD : H D = some (.lst ys)) : SqT K (upd H D o) a xs := by
  rcases h with (h | ⟨u, h⟩) | h
  · exact .inl (.inl (by rw [upd_ne (fun e => by rw [e, hD] at h; cases h)]; exact h))
  · exact .inl (.inr ⟨u, by rw [upd_ne (fun e => by rw [e, hD] at h; cases h)]; exact h⟩)
  · exact .inr h
theorem Tups.lst {K : PySem.W.Frag} {H : Hp} {D : Addr} {ys : List V} {o : HO} {as : List Addr} {rows : List (List Nat)} (t : Tups K H as rows) (hD : H D = some (.lst ys)) : Tups K (upd H D o) as rows :=
  ⟨t.1, fun i a row h1 h2 => sqT_lst (t.2 i a row h1 h2) hD⟩
theorem Tups.snoc {K : PySem.W.Frag} {H : Hp} {q : Addr} {row : List Nat} {as : List Addr} {rows : List (List Nat)} (t : Tups K H as rows) (hq : SqT K H q (row.map vN)) : Tups K H (as ++ [q]) (rows ++ [row]) := by
  refine ⟨by rw [List.length_append, List.length_append, t.1]; rfl, fun i a r h1 h2 => ?_⟩
  by_cases il : i < as.length
  · rw [List.getElem?_append_left il] at h1
    rw [List.getElem?_append_left (by rw [← t.1]; exact il)] at h2
    exact t.2 i a r h1 h2
  · have b := (List.getElem?_eq_some_iff.mp h1).1
    rw [List.length_append, List.length_singleton] at b
    have e : i = as.length := by omega
    subst e
    rw [List.getElem?_append_right (Nat.le_refl _), Nat.sub_self] at h1
    rw [t.1, List.getElem?_append_right (Nat.le_refl _), Nat.sub_self] at h2
    cases h1
    cases h2
    exact hq
theorem Tups.rowsT {K : PySem.W.Frag} {H : Hp} {r : Addr} {as : List Addr} {rows : List (List Nat)} (t : Tups K H as rows) (h : SqT K H r (as.map V.ref)) : RowsT K H r as rows := ⟨h, t.1, t.2⟩
theorem Tups.rowsL {K : PySem.W.Frag} {H : Hp} {r : Addr} {as : List Addr} {rows : List (List Nat)} (t : Tups K H as rows) (h : SqL K H r (as.map V.ref)) : RowsL K H r as rows := ⟨h, t.1, t.2⟩
theorem RowsT.tups {K : PySem.W.Frag} {H : Hp} {r : Addr} {as : List Addr} {rows : List (List Nat)} (h : RowsT K H r as rows) : Tups K H as rows := ⟨h.len, h.row⟩
/-- the rows of a web -/
structure WebOk (rows : List (List Nat)) : Prop where
  some_ : 1 ≤ rows.length
  few : rows.length ≤ 256
  inn : ∀ row ∈ rows, ∀ x ∈ row, x < rows.length
  asc : ∀ row ∈ rows, row.Pairwise (· < ·)
theorem asc_len {many : Nat} : ∀ {row : List Nat} {lo : Nat}, row.Pairwise (· < ·) → (∀ x ∈ row, lo ≤ x ∧ x < many) → row.length + lo ≤ max lo many
  | [], lo, _, _ => by
    show 0 + lo ≤ _
    omega
  | x :: r, lo, h, hb => by
    obtain ⟨h1, h2⟩ := List.pairwise_cons.mp h
    have b := hb x List.mem_cons_self
    have := asc_len (row := r) (lo := x + 1) h2 (fun y hy => ⟨h1 y hy, (hb y (List.mem_cons_of_mem _ hy)).2⟩)
    rw [List.length_cons]
    omega
theorem WebOk.rowLen {rows : List (List Nat)} (h : WebOk rows) {row : List Nat} (m : row ∈ rows) : row.length ≤ 256 := by
  have := asc_len (lo := 0) (h.asc row m) (fun x hx => ⟨Nat.zero_le _, h.inn row m x hx⟩)
  have := h.few
  omega
theorem ascI_of {row : List Nat} (h : row.Pairwise (· < ·)) : ascI (row.map fun k : Nat => (k : Int)) = true := by
  unfold ascI
  rw [List.all_eq_true]
  intro i hi
  have hi := List.mem_range.mp hi
  rw [List.length_map] at hi
  have h1 : i < row.length := by omega
  have h2 : i + 1 < row.length := by omega
  refine decide_eq_true ?_
  rw [List.getD_eq_getElem?_getD, List.getD_eq_getElem?_getD, List.getElem?_map, List.getElem?_map, List.getElem?_eq_getElem h1, List.getElem?_eq_getElem h2]
  have := List.pairwise_iff_getElem.mp h i (i + 1) h1 h2 (Nat.lt_succ_self i)
  show ((row[i] : Nat) : Int) < ((row[i + 1] : Nat) : Int)
  omega
/-- a web of these rows at w; ld: what it keeps of its depth -/
def WebAt (K : PySem.W.Frag) (H : Hp) (C w : Addr) (rows : List (List Nat)) : Prop :=
  ∃ dx r as ld, H w = some (.ins C dx [("_rows", .ref r), ("_lone_depth", ld)]) ∧ RowsT K H r as rows
theorem WebAt.same {K : PySem.W.Frag} {H H' : Hp} {C w : Addr} {rows : List (List Nat)} (h : WebAt K H C w rows) (s : Same H H') : WebAt K H' C w rows := by
  obtain ⟨dx, r, as, ld, h1, h2⟩ := h
  exact ⟨dx, r, as, ld, s _ _ h1, h2.same s⟩
/-- what the head's text says of the class Web -/
structure WebC (K : PySem.W.Frag) (C : Addr) : Prop where
  c : Cls K C
  no : NoAttr K C "_rows"
  no2 : NoAttr K C "_lone_depth"
theorem lk_rows {r ld : V} : List.lookup ("_rows" : Str) [(("_rows" : Str), r), ("_lone_depth", ld)] = some r := by rfl
/-! ### word webs -/
def wordRows (d k : Nat) : List (List Nat) := (List.range (d ^ k)).map fun p => (List.range d).map fun c => p * d % d ^ k + c
theorem wordRows_len (d k : Nat) : (wordRows d k).length = d ^ k := by
  unfold wordRows
  rw [List.length_map, List.length_range]
theorem word_fit {d k p c : Nat} (hk : 1 ≤ k) (hp : p < d ^ k) (hc : c < d) : p * d % d ^ k + c < d ^ k := by
  obtain ⟨m, rfl⟩ : ∃ m, k = m + 1 := ⟨k - 1, by omega⟩
  rw [Nat.pow_succ, Nat.mul_mod_mul_right]
  have d0 : 0 < d := by omega
  have hm : 0 < d ^ m := Nat.pow_pos d0
  have h1 := Nat.mod_lt p hm
  have h2 : (p % d ^ m + 1) * d ≤ d ^ m * d := Nat.mul_le_mul_right d h1
  rw [Nat.add_mul, Nat.one_mul] at h2
  omega
theorem range_asc (s d : Nat) : ((List.range d).map fun c => s + c).Pairwise (· < ·) := by
  rw [List.pairwise_map]
  exact List.pairwise_lt_range.imp fun h => by omega
theorem wordRows_ok {d k : Nat} (hd : 1 ≤ d) (hk : 1 ≤ k) (h : d ^ k ≤ 256) : WebOk (wordRows d k) := by
  refine ⟨?_, ?_, fun row hr x hx => ?_, fun row hr => ?_⟩
  · rw [wordRows_len]
    exact Nat.pow_pos hd
  · rw [wordRows_len]
    exact h
  · rw [wordRows_len]
    obtain ⟨p, hp, rfl⟩ := List.mem_map.mp hr
    obtain ⟨c, hc, rfl⟩ := List.mem_map.mp hx
    exact word_fit hk (List.mem_range.mp hp) (List.mem_range.mp hc)
  · obtain ⟨p, hp, rfl⟩ := List.mem_map.mp hr
    exact range_asc _ _
def allRows (n : Nat) : List (List Nat) := List.replicate n (List.range n)
theorem allRows_ok {n : Nat} (h1 : 1 ≤ n) (h2 : n ≤ 256) : WebOk (allRows n) := by
  refine ⟨by rw [allRows, List.length_replicate]; exact h1, by rw [allRows, List.length_replicate]; exact h2, fun row hr x hx => ?_, fun row hr => ?_⟩
  · obtain ⟨_, rfl⟩ := List.mem_replicate.mp hr
    rw [allRows, List.length_replicate]
    exact List.mem_range.mp hx
  · obtain ⟨_, rfl⟩ := List.mem_replicate.mp hr
    exact List.pairwise_lt_range
theorem allRows_word {n : Nat} : wordRows n 1 = allRows n := by
  unfold wordRows allRows
  rw [Nat.pow_one]
  refine List.ext_getElem (by rw [List.length_map, List.length_range, List.length_replicate]) fun i h1 h2 => ?_
  rw [List.getElem_map, List.getElem_range, List.getElem_replicate, Nat.mul_mod_left]
  simp
theorem rgV_nat (a b : Nat) : rgV (a : Int) ((a + b : Nat) : Int) = ((List.range b).map fun c => a + c).map vN := by
  unfold rgV
  rw [List.map_map, show (((a + b : Nat) : Int) - (a : Int)).toNat = b by omega]
  rfl
end GG

set_option maxHeartbeats 4000000
namespace GG
open PySem PySem.Spec PyProof.Rows L2
/-! ### a tuple times 1 is itself -/
theorem tuple_mul1 (l : Addr) (items : Array Value) (n : Nat) (dd : Option Addr) (sl : Array (Option Value)) (u : Tok) :
    Meets (Builtin.«tuple.__mul__» ⟨[.ref l, .int 1 u], []⟩) (fun _ R s => s.heap.get? l = some { cls := .type "tuple", dict := dd, data := .seq items n, slots := sl } ∧
      R (.ok (.ret (Value.ref l))) s) :=
  .of_wp fun prog w A R s h => by
    obtain ⟨hp, g, d, tk, os⟩ := s
    obtain ⟨hl, h⟩ := h
    have f1 := AutoSeq1.idx_int
    wp_walk using wpAny_loadPart' hl
    exact ⟨_, rfl, h⟩
def rRepN (K : PySem.W.Frag) : R2 := fun x y H Q => ∃ l k xs, x = .ref l ∧ y = .int k ∧ SqT K H l xs ∧ xs ≠ [] ∧ 1 ≤ k ∧ k ≤ 1000 ∧ xs.length ≤ 1000 ∧ (k = 1 → Q (.ref l) H) ∧
  (k ≠ 1 → ∀ p, H p = none → Q (.ref p) (upd H p (.tup (List.replicate k.toNat xs).flatten)))
theorem op_repN {X : Cx} : OpR X (binaryOp .Mult) (rRepN X.K) := by
  intro pins s σ H x y v u Q I rx ry ⟨l, k, xs, ex, ey, hT, hne, k1, k2, few, q1, q2⟩
  by_cases e : k = 1
  · subst e
    subst ex ey
    cases rx
    obtain ⟨t, rfl⟩ := ry
    obtain ⟨vs, rv, ⟨⟨c, od, dt, so⟩, at_, hc, tk, hdt⟩, _⟩ := I.tuple hT
    simp only at hc hdt
    subst hc hdt
    refine wpAny_binaryOp_repeat_ref (T := "tuple") (U := "int") (by decide) ⟨_, at_, rfl⟩ (fun s' => typeIs_int s' 1 t) noFill_tuple_mul F.fills_int_mul F.slot_int_rmul repeat_tuple F.slot_int_index.lookup
      (call_meets F.slot_int_rmul (typeIs_int s 1 t) F.entry_int_rmul (F.args_int_rmul_2 _ _) (int_rmul_tuple 1 t l vs.toArray tk od so)
        ⟨at_, rfl, ⟨_, at_, rfl⟩, call_meets F.slot_tuple_mul ⟨_, at_, rfl⟩ F.entry_tuple_mul (F.args_tuple_mul_2 _ _)
          (tuple_mul1 l vs.toArray tk od so t) ⟨at_, ?_⟩⟩)
    exact ⟨.ref l, _, I, rfl, q1 rfl⟩
  · exact op_repT pins s σ H x y v u Q I rx ry ⟨l, k, xs, ex, ey, hT, hne, by omega, k2, few, q2 e⟩
end GG
namespace GG
open PySem PySem.Spec PyProof.Rows L2
/-! ### t + u, any tuples -/
def rCatN (K : PySem.W.Frag) : R2 := fun x y H Q => ∃ a b xs ys, x = .ref a ∧ y = .ref b ∧ SqT K H a xs ∧ SqT K H b ys ∧ xs.length + ys.length ≤ sizeLine ∧ ∀ r H', Same H H' → SqT K H' r (xs ++ ys) → Q (.ref r) H'
theorem op_catN {X : Cx} : OpR X (binaryOp .Add) (rCatN X.K) := by
  intro pins s σ H x y v u Q I rx ry h
  obtain ⟨a, b, xs, ys, rfl, rfl, ha, hb, hz, q⟩ := h
  by_cases hx : xs = []
  · subst hx
    cases rx
    cases ry
    obtain ⟨its, r1, p1, _⟩ := I.tuple ha
    obtain ⟨its2, r2, p2, _⟩ := I.tuple hb
    obtain ⟨⟨cls, dd, data, sl⟩, ho, hc, n, hd⟩ := id p1
    obtain ⟨⟨cls2, dd2, data2, sl2⟩, ho2, hc2, n2, hd2⟩ := id p2
    simp only at hc hd hc2 hd2
    subst hc hd hc2 hd2
    cases r1
    exact concat_meets ⟨_, ho, rfl⟩ ⟨_, ho2, rfl⟩ noFill_tuple_add seq_tuple_add PySem.F.slot_tuple_add PySem.F.entry_tuple_add (PySem.F.args_tuple_add_2 _ _)
      (tuple_addW0 a b _ its2.toArray n n2 dd dd2 sl sl2 (by rfl)) ⟨ho, ho2, ⟨.ref b, H, I, rfl, q b H (.refl H) hb⟩⟩
  · exact op_catT pins s σ H _ _ v u Q I rx ry ⟨a, b, xs, ys, rfl, rfl, ha, hb, hx, hz, fun e => q a H (.refl H) (by subst e; rw [List.append_nil]; exact ha), fun e p np => q p _ (fun c o z => by rw [upd_ne (ne_of_none z np)]; exact z) (.of upd_same)⟩
end GG
namespace GG
open PySem PySem.Spec PyProof.Rows L2
/-! ### t[a:b], any tuple -/
def rSlN (K : PySem.W.Frag) : V → Option Int → Option Int → Hp → VK → Prop := fun x lo hi H Q => ∃ a xs, x = .ref a ∧ SqT K H a xs ∧ ∀ r H', Same H H' → SqT K H' r (cutV xs lo hi) → Q (.ref r) H'
theorem sl_tupN {X : Cx} : SlR X (rSlN X.K) := by
  intro pins s σ H x v vl vu lo hi sl Q I rx hs pl pu h
  obtain ⟨a, xs, ex, hx, q⟩ := h
  refine sl_tupA pins s σ H x v vl vu lo hi sl Q I rx hs pl pu ⟨a, xs, ex, hx, fun w => q a H (.refl H) ?_, fun w p np => q p _ (fun c o z => by rw [upd_ne (ne_of_none z np)]; exact z) (.of upd_same)⟩
  have e : cutV xs lo hi = xs := by
    unfold cutV
    rw [w.1, w.2]
    simp
  rw [e]
  exact hx
theorem cutV_from1 {xs : List V} : cutV xs (some 1) none = xs.drop 1 := by
  unfold cutV
  show (xs.drop (min (1 : Int).toNat xs.length)).take (xs.length - min (1 : Int).toNat xs.length) = _
  have e : (1 : Int).toNat = 1 := rfl
  rw [e]
  cases xs with
  | nil => rfl
  | cons x r =>
    have : min 1 (x :: r).length = 1 := by
      rw [List.length_cons]
      omega
    rw [this, List.take_of_length_le (by rw [List.length_drop]; exact Nat.le_refl _)]
end GG

set_option maxHeartbeats 4000000
/-! ### rules whose readings name the outer K: for blocks and suites -/
namespace GG
open PySem PySem.Spec PyProof.Rows L2
section
variable {X : Cx} {K : PySem.W.Frag}
theorem tupleK (h : X.K = K) : CallR X (.type "tuple") (fun xs H Q => ∃ p ys, xs = [V.ref p] ∧ ((SqL K H p ys ∧ ∀ l, H l = none → Q (.ref l) (upd H l (.tup ys))) ∨ SqT K H p ys ∧ Q (.ref p) H)) := by
  subst h
  exact call_tuple_of
theorem listK (h : X.K = K) : CallR X (.type "list") (fun xs H Q => ∃ p ys, xs = [V.ref p] ∧ (SqL K H p ys ∨ SqT K H p ys) ∧ ∀ l, H l = none → Q (.ref l) (upd H l (.lst ys))) := by
  subst h
  exact call_list_of
theorem sortedK (h : X.K = K) : CallR X (.builtin "sorted") (rSortedI K) := by
  subst h
  exact cr_sortedI
theorem catK (h : X.K = K) : OpR X (binaryOp .Add) (rCatN K) := by
  subst h
  exact op_catN
theorem slK (h : X.K = K) : SlR X (rSlN K) := by
  subst h
  exact sl_tupN
theorem inSeqK (h : X.K = K) : OpR X (compareOp .In) (rIn K false) := by
  subst h
  exact op_in_seq
theorem notInSeqK (h : X.K = K) : OpR X (compareOp .NotIn) (rIn K true) := by
  subst h
  exact op_notIn_seq
theorem ixTupK (h : X.K = K) : IxR X (fun x y H Q => ∃ a xs i v, x = .ref a ∧ y = .int i ∧ SqT K H a xs ∧ atI xs i = some v ∧ Q v H) := by
  subst h
  exact ix_tup
theorem ixLstK (h : X.K = K) : IxR X (fun x y H Q => ∃ a xs i v, x = .ref a ∧ y = .int i ∧ SqL K H a xs ∧ atI xs i = some v ∧ Q v H) := by
  subst h
  exact ix_list
end
/-- sorted, told of natural numbers that are so already -/
theorem sorted_nats {ns' : List Int} {xs : List Nat} (p : ns'.Perm (xs.map fun k : Nat => (k : Int))) (s : ns'.Pairwise (· ≤ ·)) (h : xs.Pairwise (· < ·)) : ns' = xs.map fun k : Nat => (k : Int) := by
  refine List.Perm.eq_of_pairwise (fun x y _ _ h1 h2 => Int.le_antisymm h1 h2) s ?_ p
  rw [List.pairwise_map]
  exact h.imp fun h => by omega
end GG

set_option maxHeartbeats 16000000
namespace K09
def topS (i : Nat) : PySem.Stmt := PySem.Challenge.pw_onebetween_k09_word_webs_told.main.body.getD i (.Pass ⟨0, 0, 0, 0⟩)
end K09
namespace K09
open PySem PySem.Spec PyProof.Rows L2 GG
abbrev sDice : Stmt := topS 38
abbrev sRoll : Stmt := topS 39
abbrev sPick : Stmt := topS 40
theorem scDice : FnScope ["script", "spot", "cell", "left"] ["script", "spot"] (defScope sDice) := ⟨rfl, rfl, rfl, by decide +kernel, rfl, by decide +kernel, by decide +kernel⟩
theorem scRoll : FnScope ["dice", "total", "found", "one", "two"] ["dice", "total"] (defScope sRoll) := ⟨rfl, rfl, rfl, by decide +kernel, rfl, by decide +kernel, by decide +kernel⟩
theorem scPick : FnScope ["dice", "items"] ["dice", "items"] (defScope sPick) := ⟨rfl, rfl, rfl, by decide +kernel, rfl, by decide +kernel, by decide +kernel⟩
section
variable {P : Program} {w : World} {K : PySem.W.Frag} {mg : Str → Option Value} {base : Heap}
theorem ok_dice {f : Addr} {fd : FuncData} {k : Nat} (F : Fun K "_law_dice" "_law_dice" sDice f fd)
    (ml : mg "len" = none) (mi : mg "int" = none) (mx : mg "max" = none) (ma : mg "abs" = none) :
    FnOk P w K mg base CX0 (k + 1) f fd ["script", "spot"] (spDice K) := by
  refine F.ok scDice (fun vs H Q E h => ?_) (fun cdv A outer s H vs Q E hr h => ?_)
  · obtain ⟨a, ns, spot, rfl, _⟩ := h
    rfl
  · obtain ⟨a, ns, spot, rfl, hS, hsp, q⟩ := h
    refine ⟨_, pss_cons (ps_set (i := 2) scDice.nd rfl (.inl rfl)
        (pe_ifExp (pt_cmpR op_lt (pv 1) (pe_callB call_len_seq (by rfl) ml PySem.boot_len (pa_cons (pv 0) pa_nil)) (nomark _))
          (pe_callTy call_int1 (by rfl) mi (by decide +kernel) (pa_cons (pe_ix ix_list (pv 0) (pv 1) (fun _ _ => rfl)) pa_nil))
          (pe_op op_add (pe_op op_mul pe_int (pv 1)) pe_int)))
      (pss_cons (ps_set (i := 3) scDice.nd rfl (.inl rfl)
        (pe_op op_mod (pe_callB (call_max2 rfl) (by rfl) mx (by decide +kernel) (pa_cons pe_int (pa_cons (pe_op op_sub (pe_callB call_abs (by rfl) ma (by decide +kernel) (pa_cons (pv 2) pa_nil)) (pe_op op_pow pe_int pe_int)) pa_nil)))
          (pe_op op_mulW (pe_op op_pow pe_int pe_int) (pe_op op_pow pe_int pe_int))))
      (pss_one (ps_ret (pe_lst (pa_cons (pv 3) (pa_cons
        (pe_op op_add (pe_op op_add (pe_op op_add (pe_op op_mul (pe_op op_mod (pe_callB call_abs (by rfl) ma (by decide +kernel) (pa_cons (pv 2) pa_nil)) pe_int) pe_int) (pe_op op_mul pe_int (pv 1)))
          (pe_op op_mul pe_int (pe_callTy call_int1 (by rfl) mi (by decide +kernel) (pa_cons (pe_cmpR op_lt (pv 2) pe_int (nomark _)) pa_nil)))) pe_int)
        (pa_cons pe_int pa_nil))))))), ?_⟩
    refine ⟨.int spot, rfl, .ref a, rfl, a, _, rfl, .inl hS, _, _, rfl, rfl, _, rfl, ite2 (fun e => ?_) (fun e => ?_)⟩
    · have e1 := of_decide_eq_true e
      rw [List.length_map] at e1
      have e2 : spot < ns.length := by omega
      have g : (ns.map V.int)[spot]? = some (.int ns[spot]) := by
        rw [List.getElem?_map, List.getElem?_eq_getElem e2]
        rfl
      refine ⟨.ref a, rfl, .int spot, rfl, a, _, spot, .int ns[spot], rfl, rfl, hS, atI_nat g, .inl ⟨_, rfl, ?_⟩⟩
      refine ⟨_, rfl, _, rfl, _, _, rfl, rfl, ⟨by decide, by decide, by decide⟩, _, _, rfl, rfl, _, _, rfl, _, _, rfl, rfl, ⟨by decide, by decide, by decide⟩, _, _, rfl, rfl, ⟨by decide, by decide, by decide⟩, _, _, rfl, rfl, mul60, _, _, rfl, rfl, pos60, ?_⟩
      refine ⟨_, rfl, _, rfl, _, rfl, _, _, rfl, rfl, (show (0 : Int) < 1152921504606846809 by decide), _, _, rfl, rfl, .inr (by decide), _, rfl, _, _, rfl, rfl, .inl (by decide), _, _, rfl, rfl, _, rfl, _, _, rfl, rfl, .inr ⟨_, rfl, _, _, rfl, rfl, .inl (by decide), _, _, rfl, rfl, _, _, rfl, rfl, (by show 3 ≤ sizeLine; decide), fun p np => ?_⟩⟩
      exact q _ p (sameUpd np) np ⟨_, _, _, upd_same, Int.emod_nonneg _ (by have := pos60; omega)⟩
    · refine ⟨_, rfl, _, _, rfl, rfl, .inl (by decide), _, _, rfl, rfl, ?_⟩
      refine ⟨_, rfl, _, rfl, _, _, rfl, rfl, ⟨by decide, by decide, by decide⟩, _, _, rfl, rfl, _, _, rfl, _, _, rfl, rfl, ⟨by decide, by decide, by decide⟩, _, _, rfl, rfl, ⟨by decide, by decide, by decide⟩, _, _, rfl, rfl, mul60, _, _, rfl, rfl, pos60, ?_⟩
      refine ⟨_, rfl, _, rfl, _, rfl, _, _, rfl, rfl, (show (0 : Int) < 1152921504606846809 by decide), _, _, rfl, rfl, .inr (by decide), _, rfl, _, _, rfl, rfl, .inl (by decide), _, _, rfl, rfl, _, rfl, _, _, rfl, rfl, .inr ⟨_, rfl, _, _, rfl, rfl, .inl (by decide), _, _, rfl, rfl, _, _, rfl, rfl, (by show 3 ≤ sizeLine; decide), fun p np => ?_⟩⟩
      exact q _ p (sameUpd np) np ⟨_, _, _, upd_same, Int.emod_nonneg _ (by have := pos60; omega)⟩
theorem ok_roll {f : Addr} {fd : FuncData} {k : Nat} (F : Fun K "_law_roll" "_law_roll" sRoll f fd) (mi : mg "int" = none) :
    FnOk P w K mg base CX0 (k + 1) f fd ["dice", "total"] spRoll := by
  refine F.ok scRoll (fun vs H Q E h => ?_) (fun cdv A outer s H vs Q E hr h => ?_)
  · obtain ⟨a, n, rfl, _⟩ := h
    rfl
  · obtain ⟨l, n, rfl, ⟨a, b, c, hd, ha⟩, h0, h1, q⟩ := h
    have at0 : atI [V.int a, .int b, .int c] 0 = some (.int a) := rfl
    have at1 : atI [V.int a, .int b, .int c] 1 = some (.int b) := rfl
    have at2 : atI [V.int a, .int b, .int c] 2 = some (.int c) := rfl
    refine ⟨_, pss_cons (ps_if (pt_cmpR op_gt (pe_ix ix_list (pv 0) pe_int (fun _ _ => rfl)) pe_int (nomark _))
        (pss_cons (ps_set (i := 2) scRoll.nd rfl (.inl rfl) (pe_op op_mod (pe_callTy call_int1 (by rfl) mi (by decide +kernel) (pa_cons (pe_ix ix_list (pv 0) pe_int (fun _ _ => rfl)) pa_nil)) (pv 1)))
        (pss_cons (ps_asg (pe_op op_fdiv (pe_ix ix_list (pv 0) pe_int (fun _ _ => rfl)) (pv 1)) (pg_sub (pv 0) pe_int set_list))
        (pss_one (ps_ret (pv 2))))) pss_nil)
      (pss_cons (ps_asg (pe_op op_add (pe_ix ix_list (pv 0) pe_int (fun _ _ => rfl)) pe_int) (pg_sub (pv 0) pe_int set_list))
      (pss_cons (ps_set (i := 3) scRoll.nd rfl (.inl rfl) (pe_op op_mod (pe_callTy call_int1 (by rfl) mi (by decide +kernel)
          (pa_cons (pe_op op_add (pe_ix ix_list (pv 0) pe_int (fun _ _ => rfl)) (pe_op op_mul pe_int (pe_ix ix_list (pv 0) pe_int (fun _ _ => rfl)))) pa_nil)) pe_int))
      (pss_cons (ps_set (i := 4) scRoll.nd rfl (.inl rfl) (pe_op op_add (pe_op op_mul (pe_op op_mod (pe_callTy call_int1 (by rfl) mi (by decide +kernel)
          (pa_cons (pe_op op_add (pe_op op_mul (pv 3) (pv 3)) (pe_op op_mul pe_int (pe_ix ix_list (pv 0) pe_int (fun _ _ => rfl)))) pa_nil)) pe_int) pe_int) (pv 3)))
      (pss_one (ps_ret (pe_op op_mod (pe_callTy call_int1 (by rfl) mi (by decide +kernel) (pa_cons (pe_op op_fdiv (pv 4) pe_int) pa_nil)) (pv 1))))))), ?_⟩
    refine ⟨.ref l, rfl, l, _, 0, _, rfl, rfl, .of hd, at0, a, 0, rfl, rfl, _, rfl, ite2 (fun e => ?_) (fun e => ?_)⟩
    · refine ⟨.ref l, rfl, l, _, 0, _, rfl, rfl, .of hd, at0, .inl ⟨a, rfl, .int n, rfl, a, n, rfl, rfl, h0, ?_⟩⟩
      refine ⟨.ref l, rfl, l, _, 0, _, rfl, rfl, .of hd, at0, .int n, rfl, a, n, rfl, rfl, ⟨h0, h1⟩, .ref l, rfl, l, _, 0, 0, rfl, rfl, hd, rfl, ?_⟩
      refine ⟨_, rfl, q _ _ .at ⟨a / n, b, c, upd_same, Int.ediv_nonneg ha (by omega)⟩ (Int.emod_nonneg _ (by omega)) (Int.emod_lt_of_pos _ h0)⟩
    · refine ⟨.ref l, rfl, l, _, 2, _, rfl, rfl, .of hd, at2, c, 1, rfl, rfl, .ref l, rfl, l, _, 2, 2, rfl, rfl, hd, rfl, ?_⟩
      have hd' : (upd H l (.lst [.int a, .int b, .int (c + 1)])) l = some (.lst [.int a, .int b, .int (c + 1)]) := upd_same
      have at1 : atI [V.int a, .int b, .int (c + 1)] 1 = some (.int b) := rfl
      have at2 : atI [V.int a, .int b, .int (c + 1)] 2 = some (.int (c + 1)) := rfl
      have p1 : (0 : Int) < 2305843009213693669 := by decide
      have p2 : (0 : Int) < 1152921504606846779 := by decide
      refine ⟨.ref l, rfl, l, _, 1, _, rfl, rfl, .of hd', at1, .ref l, rfl, l, _, 2, _, rfl, rfl, .of hd', at2, _, _, rfl, rfl, .inl (by decide), _, _, rfl, rfl, .inl ⟨_, rfl, _, _, rfl, rfl, p1, ?_⟩⟩
      have b0 := Int.emod_nonneg (b + 86028121 * (c + 1)) (show (2305843009213693669 : Int) ≠ 0 by decide)
      have b1 := Int.emod_lt_of_pos (b + 86028121 * (c + 1)) p1
      refine ⟨_, rfl, _, rfl, _, _, rfl, rfl, .inl ⟨Int.lt_of_lt_of_le (by decide) b0, Int.lt_trans b1 (by decide)⟩, .ref l, rfl, l, _, 2, _, rfl, rfl, .of hd', at2, _, _, rfl, rfl, .inl (by decide), _, _, rfl, rfl, .inl ⟨_, rfl, _, _, rfl, rfl, p2, ?_⟩⟩
      refine ⟨_, _, rfl, rfl, .inr (by decide), _, rfl, _, _, rfl, rfl, ?_⟩
      refine ⟨_, rfl, _, _, rfl, rfl, ⟨by decide, by decide⟩, .inl ⟨_, rfl, .int n, rfl, _, n, rfl, rfl, h0, ?_⟩⟩
      exact q _ _ .at ⟨a, b, c + 1, upd_same, ha⟩ (Int.emod_nonneg _ (by omega)) (Int.emod_lt_of_pos _ h0)
theorem ok_pick {f fR : Addr} {fd fdR : FuncData} (F : Fun K "_law_pick" "_law_pick" sPick f fd) (FR : Fun K "_law_roll" "_law_roll" sRoll fR fdR)
    (bR : Binds K fdR ["dice", "total"] []) (gR : mg "_law_roll" = some (.ref fR)) (ml : mg "len" = none) (mi : mg "int" = none) :
    FnOk P w K mg base CX0 2 f fd ["dice", "items"] (spPick K) := by
  have GR : FnOk P w K mg base CX0 1 fR fdR ["dice", "total"] spRoll := ok_roll FR mi
  refine F.ok scPick (fun vs H Q E h => ?_) (fun cdv A outer s H vs Q E hr h => ?_)
  · obtain ⟨l, a, xs, rfl, _⟩ := h
    rfl
  · obtain ⟨l, a, xs, rfl, hd, ne, hx, h0, h1, q⟩ := h
    refine ⟨_, pss_one (ps_ret (pe_ix ix_seq (pv 1) (pe_call GR hr (by rfl) gR FR.kp bR .nil pass0
      (pa_cons (pv 0) (pa_cons (pe_callB call_len_seq (by rfl) ml PySem.boot_len (pa_cons (pv 1) pa_nil)) pa_nil))) (fun _ _ => rfl))), ?_⟩
    refine ⟨.ref a, rfl, .ref l, rfl, .ref a, rfl, a, xs, rfl, hx, l, xs.length, rfl, hd, by omega, by omega, fun H' r bt hd' r0 r1 => ?_⟩
    have e : xs[r.toNat]? = some xs[r.toNat] := List.getElem?_eq_getElem (by omega)
    have e2 : atI xs r = some xs[r.toNat] := by
      have := atI_nat e
      rwa [show ((r.toNat : Nat) : Int) = r by omega] at this
    rcases hx with hx | hx
    · exact .inl ⟨a, xs, r, _, rfl, rfl, bt.seqL ne hx, e2, q H' r.toNat _ bt hd' e⟩
    · exact .inr (.inl ⟨a, xs, r, _, rfl, rfl, bt.seqT ne hx, e2, q H' r.toNat _ bt hd' e⟩)
end
end K09

set_option maxHeartbeats 16000000
namespace K09
open PySem PySem.Spec PyProof.Rows L2 GG
abbrev sInteger : Stmt := topS 3
abbrev sWithin : Stmt := topS 5
theorem scInteger : FnScope ["value"] ["value"] (defScope sInteger) := ⟨rfl, rfl, rfl, by decide +kernel, rfl, by decide +kernel, by decide +kernel⟩
theorem scWithin : FnScope ["value", "least", "most"] ["value", "least", "most"] (defScope sWithin) := ⟨rfl, rfl, rfl, by decide +kernel, rfl, by decide +kernel, by decide +kernel⟩
section
variable {P : Program} {w : World} {K : PySem.W.Frag} {mg : Str → Option Value} {base : Heap}
theorem ok_integer {f : Addr} {fd : FuncData} {k : Nat} {tB : Tok} (F : Fun K "is_integer" "is_integer" sInteger f fd)
    (mi : mg "int" = none) (mb : mg "bool" = none) (ms : mg "isinstance" = none) (mB : mg "_BOUND" = some (.int BND tB)) :
    FnOk P w K mg base CX0 (k + 1) f fd ["value"] (spInteger K) := by
  refine F.ok scInteger (fun vs H Q E h => ?_) (fun cdv A outer s H vs Q E hr h => ?_)
  · obtain ⟨v, rfl, _⟩ := h
    rfl
  · obtain ⟨v, rfl, h⟩ := h
    refine ⟨_, pss_one (ps_ret (pe_and (pe_callB call_isi (by rfl) ms (by decide +kernel) (pa_cons (pv 0) (pa_cons (pe_bltn (v := .ty "int") (by rfl) mi (by decide +kernel) rfl) pa_nil)))
      (pe_and (pe_not (pe_callB call_isi (by rfl) ms (by decide +kernel) (pa_cons (pv 0) (pa_cons (pe_bltn (v := .ty "bool") (by rfl) mb (by decide +kernel) rfl) pa_nil))))
      (pe_one (pe_chain op_lt op_lt (pe_un un_neg (pe_glob (v := .int BND) (by rfl) mB ⟨_, rfl⟩)) (pv 0) (pe_glob (v := .int BND) (by rfl) mB ⟨_, rfl⟩)))))), ?_⟩
    rcases h with ⟨i, rfl, q⟩ | ⟨⟨b, rfl⟩ | ⟨t, ty, kb⟩, q⟩
    · refine ⟨_, rfl, _, _, _, _, true, rfl, .ty _, .base (.int i), kit_ty (by decide +kernel), true, rfl, iteT ?_⟩
      refine ⟨_, rfl, _, _, _, _, false, rfl, .ty _, .base (.int i), kit_ty (by decide +kernel), false, rfl, true, rfl, iteT ?_⟩
      refine ⟨_, rfl, _, rfl, _, _, rfl, rfl, _, rfl, ite2 (fun e => ?_) (fun e => ?_)⟩
      · refine ⟨_, _, rfl, rfl, ?_⟩
        have e' : intOk i = decide (i < BND) := by
          unfold intOk
          rw [e, Bool.true_and]
        rw [e'] at q
        exact q
      · have e' : intOk i = false := by
          unfold intOk
          rw [Bool.not_eq_true _ |>.mp e, Bool.false_and]
        rw [e'] at q
        exact q
    · refine ⟨_, rfl, _, _, _, _, true, rfl, .ty _, .base (.bl b), kit_ty (by decide +kernel), true, rfl, iteT ?_⟩
      exact ⟨_, rfl, _, _, _, _, true, rfl, .ty _, .base (.bl b), kit_ty (by decide +kernel), true, rfl, false, rfl, iteF q⟩
    · exact ⟨_, rfl, _, _, _, _, false, rfl, .ty _, ty, kit_ty kb, false, rfl, iteF q⟩
theorem ok_within {f fI : Addr} {fd fdI : FuncData} (F : Fun K "is_within" "is_within" sWithin f fd) (bI : Binds K fdI ["value"] [])
    (GI : FnOk P w K mg base CX0 1 fI fdI ["value"] (spInteger K)) (gI : mg "is_integer" = some (.ref fI)) (kI : PySem.W.keepIn K (.ref fI) = true) :
    FnOk P w K mg base CX0 2 f fd ["value", "least", "most"] (spWithin K) := by
  refine F.ok scWithin (fun vs H Q E h => ?_) (fun cdv A outer s H vs Q E hr h => ?_)
  · obtain ⟨v, lo, hi, rfl, _⟩ := h
    rfl
  · obtain ⟨v, lo, hi, rfl, h⟩ := h
    refine ⟨_, pss_one (ps_ret (pe_and (pe_call GI hr (by rfl) gI kI bI .nil pass0 (pa_cons (pv 0) pa_nil))
      (pe_one (pe_chain op_le op_le (pv 1) (pv 0) (pv 2))))), ?_⟩
    rcases h with ⟨i, rfl, q⟩ | ⟨no, q⟩
    · refine ⟨_, rfl, _, rfl, .inl ⟨i, rfl, _, rfl, and2 (d := decide (lo ≤ i) && decide (i ≤ hi)) (fun _ Q' z => ?_) q⟩⟩
      refine ⟨_, rfl, _, rfl, _, _, rfl, rfl, _, rfl, ite2 (fun e => ⟨_, rfl, _, _, rfl, rfl, ?_⟩) (fun e => ?_)⟩
      · rw [e, Bool.true_and] at z
        exact z
      · rw [Bool.not_eq_true _ |>.mp e, Bool.false_and] at z
        exact z
    · exact ⟨_, rfl, _, rfl, .inr ⟨no, _, rfl, iteF q⟩⟩
end
end K09

set_option maxHeartbeats 16000000
namespace K09
open PySem PySem.Spec PyProof.Rows L2 GG RZ
abbrev sAsc : Stmt := topS 6
theorem scAsc : FnScope ["value", "many", "number", "low", "high"] ["value", "many"] (defScope sAsc) := ⟨rfl, rfl, rfl, by decide +kernel, rfl, by decide +kernel, by decide +kernel⟩
/-- ints or none: what may stand in the tuple; what is answered -/
def spAsc (K : PySem.W.Frag) : Sp := fun vs H Q _ => ∃ v many, vs = [v, .int many] ∧ 0 ≤ many ∧ many ≤ 1000 ∧
  (((∃ t, TyX K H v (.type t) ∧ kitB t "tuple" = some false) ∧ Q (.bl false) H) ∨
   (∃ a xs, v = .ref a ∧ SqT K H a xs ∧ TyX K H v (.type "tuple") ∧ xs.length ≤ 1000 ∧ (∀ x ∈ xs, (∃ n, x = .int n) ∨ NoInt K H x) ∧ (∃ x ∈ xs, inM many x = false) ∧ ∀ H', Same H H' → Q (.bl false) H') ∨
   (∃ a ns, v = .ref a ∧ SqT K H a (ns.map V.int) ∧ TyX K H v (.type "tuple") ∧ ns.length ≤ 1000 ∧ (∀ n ∈ ns, 0 ≤ n ∧ n < many) ∧ ∀ H', Same H H' → Q (.bl (ascI ns)) H'))
def ansA (many : Int) (ns : List Int) : Bool := if 0 < ns.length ∧ (ns.getD 0 0 < 0 ∨ many ≤ ns.getD (ns.length - 1) 0) then false else ascI ns
theorem asc_lt {ns : List Int} (h : ascI ns = true) : ∀ (d i : Nat), i + d < ns.length → ns.getD i 0 ≤ ns.getD (i + d) 0
  | 0, i, _ => Int.le_refl _
  | d + 1, i, l => by
    have a := asc_lt h d i (by omega)
    have b := List.all_eq_true.mp h (i + d) (List.mem_range.mpr (by omega))
    have c := of_decide_eq_true b
    rw [show i + (d + 1) = i + d + 1 by omega]
    omega
theorem ans_bad {many : Int} {ns : List Int} {n : Int} (hn : n ∈ ns) (b : ¬ (0 ≤ n ∧ n < many)) : ansA many ns = false := by
  unfold ansA
  by_cases c : 0 < ns.length ∧ (ns.getD 0 0 < 0 ∨ many ≤ ns.getD (ns.length - 1) 0)
  · rw [if_pos c]
  · rw [if_neg c]
    rcases h : ascI ns with _ | _
    · rfl
    · exfalso
      obtain ⟨i, hi, e⟩ := List.getElem_of_mem hn
      have e' : ns.getD i 0 = n := by rw [List.getD_eq_getElem?_getD, List.getElem?_eq_getElem hi, e]; rfl
      have h1 := asc_lt h i 0 (by omega)
      have h2 := asc_lt h (ns.length - 1 - i) i (by omega)
      rw [Nat.zero_add] at h1
      rw [show i + (ns.length - 1 - i) = ns.length - 1 by omega] at h2
      have c1 : ¬ (ns.getD 0 0 < 0) := fun z => c ⟨by omega, .inl z⟩
      have c2 : ¬ (many ≤ ns.getD (ns.length - 1) 0) := fun z => c ⟨by omega, .inr z⟩
      omega
theorem ans_good {many : Int} {ns : List Int} (h : ∀ n ∈ ns, 0 ≤ n ∧ n < many) : ansA many ns = ascI ns := by
  unfold ansA
  rw [if_neg]
  rintro ⟨p, c⟩
  have g : ∀ i, i < ns.length → 0 ≤ ns.getD i 0 ∧ ns.getD i 0 < many := fun i hi => by
    rw [List.getD_eq_getElem?_getD, List.getElem?_eq_getElem hi]
    exact h _ (List.getElem_mem hi)
  have g0 := g 0 p
  have g1 := g (ns.length - 1) (by omega)
  omega
theorem atI_last {α : Type} {xs : List α} (h : 0 < xs.length) : atI xs (-1) = xs[xs.length - 1]? := by
  have e : ixN xs.length (-1) = some (xs.length - 1) := by
    unfold ixN
    rw [if_neg (by decide), if_pos (by omega)]
    congr 1
    omega
  unfold atI
  rw [e]
  rfl
section
variable {P : Program} {w : World} {K : PySem.W.Frag} {mg : Str → Option Value} {base : Heap}
theorem ok_asc {f fI : Addr} {fd fdI : FuncData} (F : Fun K "is_ascending" "is_ascending" sAsc f fd) (bI : Binds K fdI ["value"] [])
    (GI : FnOk P w K mg base CX0 1 fI fdI ["value"] (spInteger K)) (gI : mg "is_integer" = some (.ref fI)) (kI : PySem.W.keepIn K (.ref fI) = true)
    (ms : mg "isinstance" = none) (mt : mg "tuple" = none) (ma : mg "all" = none) (mz : mg "zip" = none) (ml : mg "len" = none) :
    FnOk P w K mg base CX0 3 f fd ["value", "many"] (spAsc K) := by
  refine F.ok scAsc (fun vs H Q E h => ?_) (fun cdv A outer s H vs Q E hr h => ?_)
  · obtain ⟨v, many, rfl, _⟩ := h
    rfl
  · obtain ⟨v, many, rfl, m0, m1, h⟩ := h
    have N := scAsc.nd
    refine ⟨_, pss_cons (ps_if (PW.pt (pw_or (pt_not (pt_val (pe_callB call_isi (by rfl) ms (by decide +kernel) (pa_cons (pv 0) (pa_cons (pe_bltn (v := .ty "tuple") (by rfl) mt (by decide +kernel) rfl) pa_nil)))))
        (pw_or1 (pt_not (pt_val (pe_callB (cr_all rfl) (by rfl) ma (by decide +kernel) (pa_cons
          (pe_lc (own := [("number", 2)]) (g := gName 2) (tt := tYes) rfl N (pi_tup (pv 0)) (blkOk_by (own := [("number", 2)]) (N := ["value", "many", "number", "low", "high"]) (sc := defScope sAsc) (by decide +kernel))
            (fun _ _ _ _ _ => pg_name (i := 2) N rfl (Or.inl rfl)) (fun _ _ _ _ _ => pts_nil)
            (fun _ _ _ _ _ => pe_call GI (hr.mono (by decide)) (by rfl) gI kI bI .nil pass0 (pa_cons (pv 2) pa_nil))) pa_nil)))))))
        (pss_one (ps_ret pe_bl)) pss_nil)
      (C8.pss_cut (ps_if (PW.pt (pw_and (pt_cmpR op_gt (pe_callB call_len_seq (by rfl) ml PySem.boot_len (pa_cons (pv 0) pa_nil)) pe_int (nomark _))
          (pw_and1 (PW.pt (pw_or (pt_cmpR op_lt (pe_ix ix_seq (pv 0) pe_int (fun _ _ => rfl)) pe_int (nomark _)) (pw_or1 (pt_cmpR op_ge (pe_ix ix_seq (pv 0) (pe_un un_neg pe_int) (fun _ _ => rfl)) (pv 1) (nomark _))))))))
        (pss_one (ps_ret pe_bl)) pss_nil)
      (pss_one (ps_ret (pe_callB (cr_all rfl) (by rfl) ma (by decide +kernel) (pa_cons
          (pe_lc (own := [("low", 3), ("high", 4)]) (g := gTup K 2 (gCons (gName 3) (gCons (gName 4) gNil))) (tt := tYes) rfl N (pi_zipA (by rfl) mz (pa_cons (pv 0) (pa_cons (pe_slice sl_tupA (pv 0) (po_some pe_int) po_none) pa_nil)))
            (blkOk_by (own := [("low", 3), ("high", 4)]) (N := ["value", "many", "number", "low", "high"]) (sc := defScope sAsc) (by decide +kernel))
            (fun _ _ _ _ _ => pg_tup rfl (pgs_cons (pg_name (i := 3) N rfl (Or.inl rfl)) (pgs_cons (pg_name (i := 4) N rfl (Or.inl rfl)) pgs_nil))) (fun _ _ _ _ _ => pts_nil)
            (fun _ _ _ _ _ => pe_cmpR op_lt (pv 3) (pv 4) (nomark _))) pa_nil))))), ?_⟩
    have seg : ∀ (a : Addr) (xs : List V), xs.length ≤ 1000 → ∀ (D : Addr) (k : Nat) (x : V) (H1 : Hp), H D = none → xs[k]? = some x → Same H H1 → H1 D = some (.lst ((xs.take k).map fun v => .bl (inI v))) →
        ((xs.take k).map fun v => V.bl (inI v)).length < sizeLine ∧ Same H (upd H1 D (.lst ((xs.take k).map (fun v => V.bl (inI v)) ++ [V.bl (inI x)]))) ∧
          upd H1 D (.lst ((xs.take k).map (fun v => V.bl (inI v)) ++ [V.bl (inI x)])) D = some (.lst ((xs.take (k + 1)).map fun v => .bl (inI v))) := by
      intro a xs hl D k x H1 nD hx sm hD
      refine ⟨?_, fun b o e => ?_, ?_⟩
      · rw [List.length_map, List.length_take]
        exact Nat.lt_of_le_of_lt (Nat.min_le_right _ _) (small1000 hl)
      · rw [upd_ne (ne_of_none e nD)]
        exact sm b o e
      · rw [upd_same, List.take_add_one, hx, List.map_append]
        rfl
    rcases h with ⟨⟨t, ty, kb⟩, q⟩ | h
    · exact ⟨_, rfl, _, _, _, _, false, rfl, .ty _, ty, kit_ty kb, false, rfl, iteT q⟩
    obtain ⟨a, xs, rfl, sq, ty, hl, items, h⟩ : ∃ a xs, v = .ref a ∧ SqT K H a xs ∧ TyX K H v (.type "tuple") ∧ xs.length ≤ 1000 ∧ (∀ x ∈ xs, (∃ n, x = .int n) ∨ NoInt K H x) ∧
        (((∃ x ∈ xs, inI x = false) ∧ ∀ H', Same H H' → Q (.bl false) H') ∨ ∃ ns : List Int, xs = ns.map V.int ∧ (∀ n ∈ ns, intOk n = true) ∧ ∀ H', Same H H' → Q (.bl (ansA many ns)) H') := by
      rcases h with ⟨a, xs, rfl, sq, ty, hl, items, bad, q⟩ | ⟨a, ns, rfl, sq, ty, hl, items, q⟩
      · refine ⟨a, xs, rfl, sq, ty, hl, items, ?_⟩
        by_cases hb : ∃ x ∈ xs, inI x = false
        · exact .inl ⟨hb, q⟩
        · right
          have allI : ∀ x ∈ xs, ∃ n, x = .int n ∧ intOk n = true := fun x hx => by
            have g : inI x = true := by
              rcases e : inI x with _ | _
              · exact absurd ⟨x, hx, e⟩ hb
              · rfl
            rcases items x hx with ⟨n, rfl⟩ | no
            · exact ⟨n, rfl, g⟩
            · rw [inI_no no] at g
              cases g
          obtain ⟨ns, rfl, hn⟩ : ∃ ns : List Int, xs = ns.map V.int ∧ ∀ n ∈ ns, intOk n = true := by
            clear bad hb items hl sq ty q
            induction xs with
            | nil => exact ⟨[], rfl, fun _ h => by cases h⟩
            | cons x xs ih =>
              obtain ⟨n, rfl, hn⟩ := allI x (by simp)
              obtain ⟨ns, rfl, hs⟩ := ih (fun y hy => allI y (by simp [hy]))
              exact ⟨n :: ns, rfl, fun m hm => by
                rcases List.mem_cons.mp hm with rfl | hm
                · exact hn
                · exact hs m hm⟩
          refine ⟨ns, rfl, hn, ?_⟩
          obtain ⟨x, hx, hb⟩ := bad
          obtain ⟨n, hn', rfl⟩ := List.mem_map.mp hx
          rw [ans_bad hn' (fun z => by
            have : inOk 0 (many - 1) n = false := hb
            unfold inOk at this
            rw [hn n hn', decide_eq_true z.1, decide_eq_true (show n ≤ many - 1 by omega)] at this
            cases this)]
          exact q
      · refine ⟨a, ns.map V.int, rfl, sq, ty, by rw [List.length_map]; exact hl, fun x hx => ?_, .inr ⟨ns, rfl, fun n hn => ?_, ?_⟩⟩
        · obtain ⟨n, _, rfl⟩ := List.mem_map.mp hx
          exact .inl ⟨n, rfl⟩
        · obtain ⟨n0, n1⟩ := items n hn
          exact intOk_small (by omega) (by omega)
        · rw [ans_good items]
          exact q
    refine ⟨_, rfl, _, _, _, _, true, rfl, .ty _, ty, kit_ty (by decide +kernel), true, rfl, iteF ?_⟩
    refine ⟨.ref a, rfl, a, rfl, ⟨_, sq⟩, fun D nD => ?_⟩
    refine lc_tup (K := K) (a := a) (xs := xs) (fun k H1 => Same H H1 ∧ H1 D = some (.lst ((xs.take k).map fun v => .bl (inI v)))) ⟨sameUpd nD, upd_same⟩ (fun k H1 _ hP => sqT_same hP.1 sq) (fun k v H1 hv hP => ?_) (fun H1 hP => ?_)
    · obtain ⟨sm, hD⟩ := hP
      have st := seg a xs hl D k v H1 nD hv sm hD
      rcases items v (List.mem_of_getElem? hv) with ⟨n, rfl⟩ | no
      · exact ⟨rfl, _, rfl, _, rfl, .inl ⟨n, rfl, _, hD, st⟩⟩
      · refine ⟨rfl, _, rfl, _, rfl, .inr ⟨noInt_same sm no, _, hD, ?_⟩⟩
        rw [inI_no no] at st
        exact st
    · obtain ⟨sm, hD⟩ := hP
      rw [List.take_length] at hD
      rcases h with ⟨bad, q⟩ | ⟨ns, rfl, allI, q⟩
      · refine ⟨D, xs.map inI, rfl, .of ?_, _, rfl, iteTo ?_ (q H1 sm)⟩
        · rw [hD, List.map_map]
          rfl
        · have e : (xs.map inI).all id = false := by
            rw [List.all_eq_false]
            obtain ⟨x, hx, hb⟩ := bad
            exact ⟨inI x, List.mem_map.mpr ⟨x, hx, rfl⟩, by rw [hb]; decide⟩
          rw [e]
          rfl
      · have e : ((ns.map V.int).map inI).all id = true := by
          rw [List.all_eq_true]
          intro b hb
          obtain ⟨x, hx, rfl⟩ := List.mem_map.mp hb
          obtain ⟨n, hn, rfl⟩ := List.mem_map.mp hx
          exact allI n hn
        refine ⟨D, (ns.map V.int).map inI, rfl, .of ?_, _, rfl, iteFo (by rw [e]; rfl) ?_⟩
        · rw [hD, List.map_map, List.map_map, List.map_map]
          rfl
        have hl : ns.length ≤ 1000 := by rw [List.length_map] at hl; exact hl
        have sqv := sqT_same sm sq
        refine ⟨fun σ' H' => σ' = [some (.ref a), some (.int many), none, none, none] ∧ H' = H1 ∧ ansA many ns = ascI ns, ?_, ?_⟩
        · refine ⟨_, rfl, a, _, rfl, .inr sqv, _, _, rfl, rfl, _, rfl, ?_⟩
          rw [List.length_map]
          show if decide (((ns.length : Nat) : Int) > 0) = true then _ else _
          by_cases z : ns = []
          · subst z
            exact iteF (iteF ⟨rfl, rfl, rfl⟩)
          · have np : 0 < ns.length := List.length_pos_iff.mpr z
            have g0 : (ns.map V.int)[0]? = some (.int (ns.getD 0 0)) := by
              rw [List.getElem?_map, List.getElem?_eq_getElem np, List.getD_eq_getElem?_getD, List.getElem?_eq_getElem np]
              rfl
            have gl : (ns.map V.int)[ns.length - 1]? = some (.int (ns.getD (ns.length - 1) 0)) := by
              have l1 : ns.length - 1 < ns.length := by omega
              rw [List.getElem?_map, List.getElem?_eq_getElem l1, List.getD_eq_getElem?_getD, List.getElem?_eq_getElem l1]
              rfl
            refine iteTo (decide_eq_true (by omega)) ?_
            refine ⟨_, rfl, .inr (.inl ⟨a, _, 0, _, rfl, rfl, sqv, atI_nat (j := 0) g0, _, _, rfl, rfl, _, rfl, ite2 (fun e => ?_) (fun e => ?_)⟩)⟩
            · have c := of_decide_eq_true e
              have : ansA many ns = false := by
                unfold ansA
                exact if_pos ⟨np, .inl c⟩
              rw [this] at q
              exact iteT (q H1 sm)
            · have c : ¬ ns.getD 0 0 < 0 := fun w => e (decide_eq_true w)
              have al : atI (ns.map V.int) (-1) = some (.int (ns.getD (ns.length - 1) 0)) := by
                rw [atI_last (by rw [List.length_map]; exact np), List.length_map]
                exact gl
              refine ⟨_, rfl, 1, rfl, .inr (.inl ⟨a, _, -1, _, rfl, rfl, sqv, al, _, rfl, _, _, rfl, rfl, _, rfl, ite2 (fun e2 => ?_) (fun e2 => ?_)⟩)⟩
              · have c2 := of_decide_eq_true e2
                have : ansA many ns = false := by
                  unfold ansA
                  exact if_pos ⟨np, .inr c2⟩
                rw [this] at q
                exact q H1 sm
              · refine ⟨rfl, rfl, ?_⟩
                unfold ansA
                exact if_neg (fun w => w.2.elim c (fun v => e2 (decide_eq_true v)))
        rintro σ' H' ⟨rfl, rfl, eqa⟩
        rw [eqa] at q
        have sq1 := sqT_same sm sq
        have nbr : ∀ (H2 : Hp) (D2 : Addr), Same H' H2 → H2 D2 = none → ∀ (k : Nat) (T : Addr) (x y : V) (H3 : Hp), k < ns.length - 1 → H3 T = none → (ns.map V.int)[k]? = some x → ((ns.drop 1).map V.int)[k]? = some y →
            Same H2 H3 → H3 D2 = some (.lst ((List.range k).map fun i => V.bl (decide (ns.getD i 0 < ns.getD (i + 1) 0)))) →
            ∃ i j : Int, x = .int i ∧ y = .int j ∧ (upd H3 T (.tup [x, y])) D2 = some (.lst ((List.range k).map fun i => V.bl (decide (ns.getD i 0 < ns.getD (i + 1) 0)))) ∧ ((List.range k).map fun i => V.bl (decide (ns.getD i 0 < ns.getD (i + 1) 0))).length < sizeLine ∧
              Same H2 (upd (upd H3 T (.tup [x, y])) D2 (.lst ((List.range k).map (fun i => V.bl (decide (ns.getD i 0 < ns.getD (i + 1) 0))) ++ [V.bl (decide (i < j))]))) ∧
              upd (upd H3 T (.tup [x, y])) D2 (.lst ((List.range k).map (fun i => V.bl (decide (ns.getD i 0 < ns.getD (i + 1) 0))) ++ [V.bl (decide (i < j))])) D2 = some (.lst ((List.range (k + 1)).map fun i => V.bl (decide (ns.getD i 0 < ns.getD (i + 1) 0)))) := by
          intro H2 D2 s2 nD2 k T x y H3 hk nT hx hy s3 hD2
          rw [List.getElem?_map] at hx hy
          obtain ⟨i, hi, rfl⟩ := Option.map_eq_some_iff.mp hx
          obtain ⟨j, hj, rfl⟩ := Option.map_eq_some_iff.mp hy
          rw [List.getElem?_drop] at hj
          refine ⟨i, j, rfl, rfl, sameUpd nT _ _ hD2, ?_, fun b o e => ?_, ?_⟩
          · rw [List.length_map, List.length_range]
            exact small1000 (by omega)
          · rw [upd_ne (ne_of_none e nD2)]
            exact sameUpd nT _ _ (s3 b o e)
          · rw [upd_same, List.range_succ, List.map_append]
            have ei : ns.getD k 0 = i := by rw [List.getD_eq_getElem?_getD, hi]; rfl
            have ej : ns.getD (k + 1) 0 = j := by rw [List.getD_eq_getElem?_getD, Nat.add_comm, hj]; rfl
            show _ = some (HO.lst (_ ++ [V.bl (decide (ns.getD k 0 < ns.getD (k + 1) 0))]))
            rw [ei, ej]
        have endq : ∀ (H2 : Hp) (D2 : Addr) (H4 : Hp), Same H' H2 → Same H2 H4 → H4 D2 = some (.lst ((List.range (ns.length - 1)).map fun i => V.bl (decide (ns.getD i 0 < ns.getD (i + 1) 0)))) →
            ∃ (a : Addr) (bs : List Bool), [V.ref D2] = [V.ref a] ∧ SqL K H4 a (bs.map V.bl) ∧ Q (.bl (bs.all id)) H4 := by
          intro H2 D2 H4 s2 s4 hD2
          refine ⟨D2, (List.range (ns.length - 1)).map fun i => decide (ns.getD i 0 < ns.getD (i + 1) 0), rfl, .of (by rw [hD2, List.map_map]; rfl), ?_⟩
          have e2 : ((List.range (ns.length - 1)).map fun i => decide (ns.getD i 0 < ns.getD (i + 1) 0)).all id = ascI ns := by
            rw [List.all_map]
            rfl
          rw [e2]
          exact q H4 ((sm.trans s2).trans s4)
        have ln1 : (ns.map V.int).length = ns.length := List.length_map _
        have ln2 : ((ns.drop 1).map V.int).length = ns.length - 1 := by rw [List.length_map, List.length_drop]
        refine ⟨.ref a, rfl, .ref a, rfl, 1, rfl, a, _, rfl, sq1, fun wh => ?_, fun nw b nb => ?_⟩
        · have n0 : ns = [] := by
            have w1 := wh.1
            rw [ln1] at w1
            have w2 : min (1 : Int).toNat ns.length = 0 := w1
            have w3 : (1 : Int).toNat = 1 := rfl
            rw [w3] at w2
            exact List.eq_nil_of_length_eq_zero (by omega)
          subst n0
          refine ⟨a, a, _, _, rfl, .inr ⟨sq1, sq1, fun D2 nD2 => ?_⟩⟩
          exact lc_it (walk_zipT (n := 0) rfl) (fun k H2 => Same H' H2 ∧ H2 D2 = some (.lst [])) ⟨sameUpd nD2, upd_same⟩ (fun i H2 _ p => ⟨sqT_same p.1 sq1, sqT_same p.1 sq1⟩)
            (fun i x H2 H3 hi => absurd hi (Nat.not_lt_zero _)) (fun H2 p => endq H' D2 H2 (.refl H') p.1 p.2)
        · have nn : 1 ≤ ns.length := by
            rcases Nat.eq_zero_or_pos ns.length with z | z
            · refine absurd ⟨?_, ?_⟩ nw
              · show min (1 : Int).toNat (ns.map V.int).length = 0
                rw [ln1, z, Nat.min_zero]
              · rfl
            · exact z
          have cut : cutV (ns.map V.int) (some 1) none = (ns.drop 1).map V.int := by
            show ((ns.map V.int).drop (min (1 : Int).toNat (ns.map V.int).length)).take ((ns.map V.int).length - min (1 : Int).toNat (ns.map V.int).length) = _
            have m : min (1 : Int).toNat (ns.map V.int).length = 1 := by
              rw [ln1]
              show min 1 ns.length = 1
              omega
            rw [m, List.take_of_length_le (by rw [List.length_drop, ln1]; exact Nat.le_refl _), List.map_drop]
          rw [cut]
          have sb : SqT K (upd H' b (.tup ((ns.drop 1).map V.int))) b ((ns.drop 1).map V.int) := .of upd_same
          have s2 := sameUpd (o := .tup ((ns.drop 1).map V.int)) nb
          generalize upd H' b (.tup ((ns.drop 1).map V.int)) = H2 at sb s2 ⊢
          refine ⟨a, b, _, _, rfl, .inr ⟨sqT_same s2 sq1, sb, fun D2 nD2 => ?_⟩⟩
          refine lc_it (walk_zipT (n := ns.length - 1) (by rw [ln1, ln2]; omega)) (fun k H3 => Same H2 H3 ∧ H3 D2 = some (.lst ((List.range k).map fun i => V.bl (decide (ns.getD i 0 < ns.getD (i + 1) 0)))))
            ⟨sameUpd nD2, upd_same⟩ (fun i H3 _ p => ⟨sqT_same p.1 (sqT_same s2 sq1), sqT_same p.1 sb⟩) (fun k x H3 H4 hk p y => ?_) (fun H3 p => endq H2 D2 H3 s2 p.1 p.2)
          obtain ⟨T, u, v, rfl, nT, rfl, hu, hv⟩ := y
          obtain ⟨i, j, rfl, rfl, r1, r2, r3, r4⟩ := nbr H2 D2 s2 nD2 k T u v H3 hk nT hu hv p.1 p.2
          exact ⟨T, _, rfl, .of upd_same, rfl, _, _, rfl, _, _, rfl, rfl, rfl, _, rfl, _, rfl, i, j, rfl, rfl, _, r1, r2, r3, r4⟩
end
end K09

set_option maxHeartbeats 16000000
namespace K09
open PySem PySem.Spec PyProof.Rows L2 GG
abbrev sRows : Stmt := topS 24
theorem scRows : FnScope ["rows", "row"] ["rows"] (defScope sRows) := ⟨rfl, rfl, rfl, by decide +kernel, rfl, by decide +kernel, by decide +kernel⟩
/-- what is_ascending answers of a row of a web of so many places -/
def RowAns (K : PySem.W.Frag) (H : Hp) (many : Int) (v : V) (b : Bool) : Prop :=
  ((∃ t, TyX K H v (.type t) ∧ kitB t "tuple" = some false) ∧ b = false) ∨
  (∃ a xs, v = .ref a ∧ SqT K H a xs ∧ TyX K H v (.type "tuple") ∧ xs.length ≤ 1000 ∧ (∀ x ∈ xs, (∃ n, x = .int n) ∨ NoInt K H x) ∧ (∃ x ∈ xs, inM many x = false) ∧ b = false) ∨
  (∃ (a : Addr) (ns : List Int), v = .ref a ∧ SqT K H a (ns.map V.int) ∧ TyX K H v (.type "tuple") ∧ ns.length ≤ 1000 ∧ (∀ n ∈ ns, 0 ≤ n ∧ n < many) ∧ b = ascI ns)
theorem RowAns.same {K : PySem.W.Frag} {H H' : Hp} {many : Int} {v : V} {b : Bool} (h : RowAns K H many v b) (s : Same H H') : RowAns K H' many v b := by
  rcases h with ⟨⟨t, ty, kb⟩, e⟩ | ⟨a, xs, ev, sq, ty, hl, items, bad, e⟩ | ⟨a, ns, ev, sq, ty, hl, items, e⟩
  · exact .inl ⟨⟨t, tyX_same s ty, kb⟩, e⟩
  · exact .inr (.inl ⟨a, xs, ev, sqT_same s sq, tyX_same s ty, hl, fun x hx => (items x hx).imp id (noInt_same s), bad, e⟩)
  · exact .inr (.inr ⟨a, ns, ev, sqT_same s sq, tyX_same s ty, hl, items, e⟩)
theorem RowAns.or {K : PySem.W.Frag} {H : Hp} {many : Int} {v : V} {b : Bool} {Q : VK} (h : RowAns K H many v b) (q : ∀ H', Same H H' → Q (.bl b) H') :
    ((∃ t, TyX K H v (.type t) ∧ kitB t "tuple" = some false) ∧ Q (.bl false) H) ∨
   (∃ a xs, v = .ref a ∧ SqT K H a xs ∧ TyX K H v (.type "tuple") ∧ xs.length ≤ 1000 ∧ (∀ x ∈ xs, (∃ n, x = .int n) ∨ NoInt K H x) ∧ (∃ x ∈ xs, inM many x = false) ∧ ∀ H', Same H H' → Q (.bl false) H') ∨
   (∃ a ns, v = .ref a ∧ SqT K H a (ns.map V.int) ∧ TyX K H v (.type "tuple") ∧ ns.length ≤ 1000 ∧ (∀ n ∈ ns, 0 ≤ n ∧ n < many) ∧ ∀ H', Same H H' → Q (.bl (ascI ns)) H') := by
  rcases h with ⟨no, rfl⟩ | ⟨a, xs, ev, sq, ty, hl, items, bad, rfl⟩ | ⟨a, ns, ev, sq, ty, hl, items, rfl⟩
  · exact .inl ⟨no, q H (.refl H)⟩
  · exact .inr (.inl ⟨a, xs, ev, sq, ty, hl, items, bad, q⟩)
  · exact .inr (.inr ⟨a, ns, ev, sq, ty, hl, items, q⟩)
theorem RowAns.asc {K : PySem.W.Frag} {H : Hp} {many : Int} {v : V} {b : Bool} {Q : VK} {E : XK} (h : RowAns K H many v b) (m0 : 0 ≤ many) (m1 : many ≤ 1000) (q : ∀ H', Same H H' → Q (.bl b) H') : spAsc K [v, .int many] H Q E := by
  refine ⟨v, many, rfl, m0, m1, ?_⟩
  rcases h with ⟨no, rfl⟩ | ⟨a, xs, ev, sq, ty, hl, items, bad, rfl⟩ | ⟨a, ns, ev, sq, ty, hl, items, rfl⟩
  · exact .inl ⟨no, q H (.refl H)⟩
  · exact .inr (.inl ⟨a, xs, ev, sq, ty, hl, items, bad, q⟩)
  · exact .inr (.inr ⟨a, ns, ev, sq, ty, hl, items, q⟩)
/-- what _are_rows is asked, what it answers -/
def RowsAns (K : PySem.W.Frag) (H : Hp) (v : V) (b : Bool) : Prop :=
  ((∃ t, TyX K H v (.type t) ∧ kitB t "tuple" = some false) ∧ b = false) ∨
  (∃ a xs, v = .ref a ∧ SqT K H a xs ∧ TyX K H v (.type "tuple") ∧ (xs.length < 1 ∨ 256 < xs.length) ∧ b = false) ∨
  (∃ (a : Addr) (xs : List V) (bs : List Bool), v = .ref a ∧ SqT K H a xs ∧ TyX K H v (.type "tuple") ∧ 1 ≤ xs.length ∧ xs.length ≤ 256 ∧ bs.length = xs.length ∧ (∀ (i : Nat) (x : V) (c : Bool), xs[i]? = some x → bs[i]? = some c → RowAns K H xs.length x c) ∧ b = bs.all id)
def spRows (K : PySem.W.Frag) : Sp := fun vs H Q _ => ∃ v b, vs = [v] ∧ RowsAns K H v b ∧ ∀ H', Same H H' → Q (.bl b) H'
section
variable {P : Program} {w : World} {K : PySem.W.Frag} {mg : Str → Option Value} {base : Heap}
theorem ok_rows {f fA : Addr} {fd fdA : FuncData} {tM : Tok} (F : Fun K "_are_rows" "_are_rows" sRows f fd) (bA : Binds K fdA ["value", "many"] [])
    (GA : FnOk P w K mg base CX0 3 fA fdA ["value", "many"] (spAsc K)) (gA : mg "is_ascending" = some (.ref fA)) (kA : PySem.W.keepIn K (.ref fA) = true) (mM : mg "MAX_PLACES_webs" = some (.int 256 tM))
    (ms : mg "isinstance" = none) (mt : mg "tuple" = none) (ml : mg "len" = none) (ma : mg "all" = none) :
    FnOk P w K mg base CX0 4 f fd ["rows"] (spRows K) := by
  refine F.ok scRows (fun vs H Q E h => ?_) (fun cdv A outer s H vs Q E hr h => ?_)
  · obtain ⟨v, b, rfl, _⟩ := h
    rfl
  · obtain ⟨v, b, rfl, h, q⟩ := h
    have N := scRows.nd
    refine ⟨_, pss_cons (ps_if (PW.pt (pw_or (pt_not (pt_val (pe_callB call_isi (by rfl) ms (by decide +kernel) (pa_cons (pv 0) (pa_cons (pe_bltn (v := .ty "tuple") (by rfl) mt (by decide +kernel) rfl) pa_nil)))))
        (pw_or1 (pt_not (pt_chain op_le op_le pe_int (pe_callB call_len_seq (by rfl) ml PySem.boot_len (pa_cons (pv 0) pa_nil)) (pe_glob (v := .int 256) (by rfl) mM ⟨_, rfl⟩))))))
        (pss_one (ps_ret pe_bl)) pss_nil)
      (pss_one (ps_ret (pe_callB (cr_all rfl) (by rfl) ma (by decide +kernel) (pa_cons
          (pe_lc (own := [("row", 1)]) (g := gName 1) (tt := tYes) rfl N (pi_tup (pv 0)) (blkOk_by (own := [("row", 1)]) (N := ["rows", "row"]) (sc := defScope sRows) (by decide +kernel))
            (fun _ _ _ _ _ => pg_name (i := 1) N rfl (Or.inl rfl)) (fun _ _ _ _ _ => pts_nil)
            (fun _ _ _ _ _ => pe_call GA hr (by rfl) gA kA bA .nil pass0 (pa_cons (pv 1) (pa_cons (pe_callB (call_lenK (K := K) rfl) (by rfl) ml PySem.boot_len (pa_cons (pv 0) pa_nil)) pa_nil)))) pa_nil)))), ?_⟩
    rcases h with ⟨⟨t, ty, kb⟩, rfl⟩ | ⟨a, xs, rfl, sq, ty, few, rfl⟩ | ⟨a, xs, bs, rfl, sq, ty, l1, l2, lb, ans, rfl⟩
    · exact ⟨_, rfl, _, _, _, _, false, rfl, .ty _, ty, kit_ty kb, false, rfl, iteT (q H (.refl H))⟩
    · refine ⟨_, rfl, _, _, _, _, true, rfl, .ty _, ty, kit_ty (by decide +kernel), true, rfl, iteF ?_⟩
      refine ⟨.ref a, rfl, a, _, rfl, .inr sq, _, _, rfl, rfl, _, rfl, ?_⟩
      by_cases z : 1 ≤ xs.length
      · refine iteTo (decide_eq_true (by omega)) ⟨_, _, rfl, rfl, _, rfl, iteTo ?_ (q H (.refl H))⟩
        rw [decide_eq_false (by omega)]
        rfl
      · exact iteFo (decide_eq_false (by omega)) ⟨false, rfl, iteT (q H (.refl H))⟩
    · refine ⟨_, rfl, _, _, _, _, true, rfl, .ty _, ty, kit_ty (by decide +kernel), true, rfl, iteF ?_⟩
      refine ⟨.ref a, rfl, a, _, rfl, .inr sq, _, _, rfl, rfl, _, rfl, iteTo (decide_eq_true (by omega)) ⟨_, _, rfl, rfl, _, rfl, iteFo ?_ ?_⟩⟩
      · rw [decide_eq_true (by omega)]
        rfl
      refine ⟨.ref a, rfl, a, rfl, ⟨_, sq⟩, fun D nD => ?_⟩
      refine lc_tup (K := K) (a := a) (xs := xs) (fun k H1 => Same H H1 ∧ H1 D = some (.lst ((bs.take k).map V.bl))) ⟨sameUpd nD, upd_same⟩ (fun k H1 _ hP => sqT_same hP.1 sq) (fun k v H1 hv hP => ?_) (fun H1 hP => ?_)
      · obtain ⟨sm, hD⟩ := hP
        have kl : k < xs.length := (List.getElem?_eq_some_iff.mp hv).1
        have hb : bs[k]? = some bs[k] := List.getElem?_eq_getElem (by omega)
        refine ⟨rfl, _, rfl, _, rfl, a, xs, rfl, .inr (sqT_same sm sq), v, (xs.length : Int), rfl, by omega, by omega, RowAns.or (Q := fun y H4 => ∃ acc, H4 D = some (.lst acc) ∧ acc.length < sizeLine ∧ Same H (upd H4 D (.lst (acc ++ [y]))) ∧ upd H4 D (.lst (acc ++ [y])) D = some (.lst ((bs.take (k + 1)).map V.bl))) ((ans k v _ hv hb).same sm) fun H2 s2 => ⟨_, s2 _ _ hD, ?_, fun b o e => ?_, ?_⟩⟩
        · rw [List.length_map, List.length_take]
          exact Nat.lt_of_le_of_lt (Nat.min_le_right _ _) (small1000 (by omega))
        · rw [upd_ne (ne_of_none e nD)]
          exact s2 _ _ (sm b o e)
        · rw [upd_same, List.take_add_one, hb, List.map_append]
          rfl
      · obtain ⟨sm, hD⟩ := hP
        rw [← lb, List.take_length] at hD
        exact ⟨D, bs, rfl, .of hD, q H1 sm⟩
end
end K09

set_option maxHeartbeats 16000000
namespace K09
open PySem PySem.Spec PyProof.Rows L2 GG
/-- the defs of the class Web, in their order -/
def webS (i : Nat) : Stmt := (clsBody (topS 23)).getD i (.Pass ⟨0, 0, 0, 0⟩)
abbrev sWInit : Stmt := webS 0
abbrev sWRows : Stmt := webS 2
abbrev sWLen : Stmt := webS 17
abbrev sWGet : Stmt := webS 15
abbrev sWIs : Stmt := webS 21
abbrev sWCheck : Stmt := webS 22
abbrev sWEq : Stmt := webS 19
theorem scWInit : FnScope ["self", "rows"] ["self", "rows"] (defScope sWInit) := ⟨rfl, rfl, rfl, by decide +kernel, rfl, by decide +kernel, by decide +kernel⟩
theorem scWRows : FnScope ["self"] ["self"] (defScope sWRows) := ⟨rfl, rfl, rfl, by decide +kernel, rfl, by decide +kernel, by decide +kernel⟩
theorem scWLen : FnScope ["self"] ["self"] (defScope sWLen) := ⟨rfl, rfl, rfl, by decide +kernel, rfl, by decide +kernel, by decide +kernel⟩
theorem scWGet : FnScope ["self", "place"] ["self", "place"] (defScope sWGet) := ⟨rfl, rfl, rfl, by decide +kernel, rfl, by decide +kernel, by decide +kernel⟩
theorem scWIs : FnScope ["self", "value"] ["self", "value"] (defScope sWIs) := ⟨rfl, rfl, rfl, by decide +kernel, rfl, by decide +kernel, by decide +kernel⟩
theorem scWCheck : FnScope ["self", "place"] ["self", "place"] (defScope sWCheck) := ⟨rfl, rfl, rfl, by decide +kernel, rfl, by decide +kernel, by decide +kernel⟩
theorem scWEq : FnScope ["self", "value"] ["self", "value"] (defScope sWEq) := ⟨rfl, rfl, rfl, by decide +kernel, rfl, by decide +kernel, by decide +kernel⟩
/-- right rows are right -/
theorem rowsAns {K : PySem.W.Frag} {H : Hp} {r : Addr} {as : List Addr} {rows : List (List Nat)} (h : RowsT K H r as rows) (ok : WebOk rows) : RowsAns K H (.ref r) true := by
  have la : (as.map V.ref).length = rows.length := by rw [List.length_map, h.len]
  refine .inr (.inr ⟨r, as.map V.ref, List.replicate rows.length true, rfl, h.seq, sqT_ty h.seq, by rw [la]; exact ok.some_, by rw [la]; exact ok.few, by rw [List.length_replicate, la], fun i x c hx hc => ?_, ?_⟩)
  · rw [List.getElem?_map] at hx
    obtain ⟨a, ha, rfl⟩ := Option.map_eq_some_iff.mp hx
    have il : i < rows.length := by
      have := (List.getElem?_eq_some_iff.mp ha).1
      have := h.len
      omega
    have ec : c = true := by
      rw [List.getElem?_replicate_of_lt il] at hc
      exact (Option.some.inj hc).symm
    subst ec
    have hr := h.row i a rows[i] ha (List.getElem?_eq_getElem il)
    have m : rows[i] ∈ rows := List.getElem_mem il
    refine .inr (.inr ⟨a, rows[i].map (fun k : Nat => (k : Int)), rfl, by rw [← mapN]; exact hr, sqT_ty hr, ?_, fun n hn => ?_, (ascI_of (ok.asc _ m)).symm⟩)
    · rw [List.length_map]
      have := ok.rowLen m
      omega
    · obtain ⟨k, hk, rfl⟩ := List.mem_map.mp hn
      have := ok.inn _ m k hk
      omega
  · rw [List.all_replicate]
    simp
/-- __init__, of right rows -/
def spWInit (K : PySem.W.Frag) (C : Addr) : Sp := fun vs H Q _ => ∃ x dx r as rows, vs = [.ref x, .ref r] ∧ H x = some (.ins C dx []) ∧ RowsT K H r as rows ∧ WebOk rows ∧
  ∀ H', But x H H' → H' x = some (.ins C dx [("_rows", .ref r), ("_lone_depth", .non)]) → Q .non H'
def spWRows (K : PySem.W.Frag) (C : Addr) : Sp := fun vs H Q _ => ∃ w dx r ld, vs = [.ref w] ∧ H w = some (.ins C dx [("_rows", .ref r), ("_lone_depth", ld)]) ∧ Q (.ref r) H
def spWLen (K : PySem.W.Frag) (C : Addr) : Sp := fun vs H Q _ => ∃ w rows, vs = [.ref w] ∧ WebAt K H C w rows ∧ Q (.int rows.length) H
def spWIs (K : PySem.W.Frag) (C : Addr) : Sp := fun vs H Q _ => ∃ w rows v, vs = [.ref w, v] ∧ WebAt K H C w rows ∧
  ((∃ n, v = .int n ∧ Q (.bl (inOk 0 ((rows.length : Int) - 1) n)) H) ∨ (NoInt K H v ∧ Q (.bl false) H))
/-- of right places -/
def spWCheck (K : PySem.W.Frag) (C : Addr) : Sp := fun vs H Q _ => ∃ w rows n, vs = [.ref w, vN n] ∧ WebAt K H C w rows ∧ rows.length ≤ 256 ∧ n < rows.length ∧ Q .non H
def spWGet (K : PySem.W.Frag) (C : Addr) : Sp := fun vs H Q _ => ∃ w dx r as ld rows n a, vs = [.ref w, vN n] ∧ H w = some (.ins C dx [("_rows", .ref r), ("_lone_depth", ld)]) ∧ RowsT K H r as rows ∧ rows.length ≤ 256 ∧ as[n]? = some a ∧ Q (.ref a) H
def spWEq (K : PySem.W.Frag) (C : Addr) : Sp := fun vs H Q _ => ∃ w v rows, vs = [.ref w, .ref v] ∧ WebAt K H C w rows ∧ ∃ rows2, WebAt K H C v rows2 ∧ Q (.bl (decide (rows = rows2))) H
theorem inOk_of {m n : Int} (h0 : 0 ≤ n) (h1 : n < m) (hm : m ≤ 1000) : inOk 0 (m - 1) n = true := by
  unfold inOk
  rw [intOk_small (by omega) (by omega), decide_eq_true h0, decide_eq_true (by omega)]
  rfl
section
variable {P : Program} {w : World} {K : PySem.W.Frag} {mg : Str → Option Value} {base : Heap}
theorem ok_winit {f fR C : Addr} {fd fdR : FuncData} (F : Fun K "__init__" "Web.__init__" sWInit f fd) (bR : Binds K fdR ["rows"] []) (W : WebC K C)
    (GR : FnOk P w K mg base CX0 4 fR fdR ["rows"] (spRows K)) (gR : mg "_are_rows" = some (.ref fR)) (kR : PySem.W.keepIn K (.ref fR) = true) :
    FnOk P w K mg base CX0 5 f fd ["self", "rows"] (spWInit K C) := by
  refine F.ok scWInit (fun vs H Q E h => ?_) (fun cdv A outer s H vs Q E hr h => ?_)
  · obtain ⟨x, dx, r, as, rows, rfl, _⟩ := h
    rfl
  · obtain ⟨x, dx, r, as, rows, rfl, hx, hrw, ok, q⟩ := h
    refine ⟨_, pss_cons (ps_if (pt_not (pt_val (pe_call GR hr (by rfl) gR kR bR .nil pass0 (pa_cons (pv 1) pa_nil)))) (pss_one ps_never) pss_nil)
      (pss_cons (ps_fld (pv 0) (pv 1) rfl) (pss_one (ps_fld (pv 0) pe_non rfl))), ?_⟩
    refine ⟨_, rfl, _, true, rfl, rowsAns hrw ok, fun H1 s1 => ⟨true, rfl, iteF ?_⟩⟩
    have h1 := s1 _ _ hx
    refine ⟨_, rfl, _, rfl, x, C, dx, _, rfl, h1, W.c, W.no, (by show 0 < 1000; decide), ?_⟩
    refine ⟨_, rfl, x, C, dx, _, rfl, upd_same, W.c, W.no2, (by show 1 < 1000; decide), ?_⟩
    refine q _ (fun b o n e => ?_) ?_
    · rw [upd_ne n, upd_ne n]
      exact s1 _ _ e
    · rw [upd_same]
      rfl
theorem ok_wrows {f C : Addr} {fd : FuncData} {k : Nat} (F : Fun K "rows" "Web.rows" sWRows f fd) (W : WebC K C) : FnOk P w K mg base CX0 (k + 1) f fd ["self"] (spWRows K C) := by
  refine F.ok scWRows (fun vs H Q E h => ?_) (fun cdv A outer s H vs Q E hr h => ?_)
  · obtain ⟨w, dx, r, ld, rfl, _⟩ := h
    rfl
  · obtain ⟨w, dx, r, ld, rfl, hw, q⟩ := h
    exact ⟨_, pss_one (ps_ret (pe_fld (pv 0) rfl)), _, rfl, w, C, dx, _, _, rfl, hw, W.c, W.no, rfl, q⟩
theorem ok_wlen {f C : Addr} {fd : FuncData} {k : Nat} (F : Fun K "__len__" "Web.__len__" sWLen f fd) (W : WebC K C) (ml : mg "len" = none) : FnOk P w K mg base CX0 (k + 1) f fd ["self"] (spWLen K C) := by
  refine F.ok scWLen (fun vs H Q E h => ?_) (fun cdv A outer s H vs Q E hr h => ?_)
  · obtain ⟨w, rows, rfl, _⟩ := h
    rfl
  · obtain ⟨w, rows, rfl, ⟨dx, r, as, ld, hw, hrw⟩, q⟩ := h
    refine ⟨_, pss_one (ps_ret (pe_callB call_len_seq (by rfl) ml PySem.boot_len (pa_cons (pe_fld (pv 0) rfl) pa_nil))), ?_⟩
    refine ⟨_, rfl, w, C, dx, _, _, rfl, hw, W.c, W.no, rfl, r, _, rfl, .inr hrw.seq, ?_⟩
    rw [List.length_map, hrw.len]
    exact q
theorem ok_wis {f fW C : Addr} {fd fdW : FuncData} (F : Fun K "_is_place" "Web._is_place" sWIs f fd) (bW : Binds K fdW ["value", "least", "most"] []) (W : WebC K C)
    (GW : FnOk P w K mg base CX0 2 fW fdW ["value", "least", "most"] (spWithin K)) (gW : mg "is_within" = some (.ref fW)) (kW : PySem.W.keepIn K (.ref fW) = true) (ml : mg "len" = none) :
    FnOk P w K mg base CX0 3 f fd ["self", "value"] (spWIs K C) := by
  refine F.ok scWIs (fun vs H Q E h => ?_) (fun cdv A outer s H vs Q E hr h => ?_)
  · obtain ⟨w, rows, v, rfl, _⟩ := h
    rfl
  · obtain ⟨w, rows, v, rfl, ⟨dx, r, as, ld, hw, hrw⟩, h⟩ := h
    refine ⟨_, pss_one (ps_ret (pe_call GW hr (by rfl) gW kW bW .nil pass0 (pa_cons (pv 1) (pa_cons pe_int (pa_cons (pe_op op_sub (pe_callB call_len_seq (by rfl) ml PySem.boot_len (pa_cons (pe_fld (pv 0) rfl) pa_nil)) pe_int) pa_nil))))), ?_⟩
    refine ⟨_, rfl, _, rfl, w, C, dx, _, _, rfl, hw, W.c, W.no, rfl, r, _, rfl, .inr hrw.seq, _, _, rfl, rfl, v, 0, (((as.map V.ref).length : Nat) : Int) - 1, rfl, ?_⟩
    rw [List.length_map, hrw.len]
    exact h
theorem ok_wcheck {f fS C : Addr} {fd fdS : FuncData} (F : Fun K "_check_place" "Web._check_place" sWCheck f fd) (bS : Binds K fdS ["self", "value"] []) (W : WebC K C) (mS : Meth K C "_is_place" fS)
    (GS : FnOk P w K mg base CX0 3 fS fdS ["self", "value"] (spWIs K C)) : FnOk P w K mg base CX0 4 f fd ["self", "place"] (spWCheck K C) := by
  refine F.ok scWCheck (fun vs H Q E h => ?_) (fun cdv A outer s H vs Q E hr h => ?_)
  · obtain ⟨w, rows, n, rfl, _⟩ := h
    rfl
  · obtain ⟨w, rows, n, rfl, wa, few, hn, q⟩ := h
    obtain ⟨dx, r, as, ld, hw, hrw⟩ := id wa
    refine ⟨_, pss_one (ps_if (pt_not (pt_val (pe_meth (pv 0) W.c mS GS hr bS .nil pass0 (pa_cons (pv 1) pa_nil)))) (pss_one ps_never) pss_nil), ?_⟩
    exact ⟨_, rfl, w, dx, _, rfl, hw, rfl, _, rfl, w, rows, _, rfl, wa, .inl ⟨(n : Int), rfl, true, by rw [inOk_of (by omega) (by omega) (by omega)], iteF q⟩⟩
theorem ok_wget {f fC C : Addr} {fd fdC : FuncData} (F : Fun K "__getitem__" "Web.__getitem__" sWGet f fd) (bC : Binds K fdC ["self", "place"] []) (W : WebC K C) (mC : Meth K C "_check_place" fC)
    (GC : FnOk P w K mg base CX0 4 fC fdC ["self", "place"] (spWCheck K C)) : FnOk P w K mg base CX0 5 f fd ["self", "place"] (spWGet K C) := by
  refine F.ok scWGet (fun vs H Q E h => ?_) (fun cdv A outer s H vs Q E hr h => ?_)
  · obtain ⟨w, dx, r, as, ld, rows, n, a, rfl, _⟩ := h
    rfl
  · obtain ⟨w, dx, r, as, ld, rows, n, a, rfl, hw, hrw, few, ha, q⟩ := h
    refine ⟨_, pss_cons (ps_expr (pe_meth (pv 0) W.c mC GC hr bC .nil pass0 (pa_cons (pv 1) pa_nil))) (pss_one (ps_ret (pe_ix ix_seq (pe_fld (pv 0) rfl) (pv 1) (fun _ _ => rfl)))), ?_⟩
    have nl : n < as.length := (List.getElem?_eq_some_iff.mp ha).1
    have e : (as.map V.ref)[n]? = some (.ref a) := by
      rw [List.getElem?_map, ha]
      rfl
    refine ⟨_, rfl, w, dx, _, rfl, hw, rfl, _, rfl, w, rows, n, rfl, ⟨dx, r, as, ld, hw, hrw⟩, few, by have := hrw.len; omega, ?_⟩
    exact ⟨_, rfl, w, C, dx, _, _, rfl, hw, W.c, W.no, rfl, _, rfl, .inr (.inl ⟨r, _, (n : Int), _, rfl, rfl, hrw.seq, atI_nat e, q⟩)⟩
theorem ok_weq {f C : Addr} {fd : FuncData} {k : Nat} (F : Fun K "__eq__" "Web.__eq__" sWEq f fd) (W : WebC K C) (ms : mg "isinstance" = none) (gW : mg "Web" = some (.ref C))
    (ha : PySem.W.findIn K (.ref C) "__class__" = some (some (.builtin "object.__class__"))) (hn : PySem.W.specialIn K (.builtin "object.__class__") "__get__" = some (some (.builtin "getset_descriptor.__get__")))
    (htk : PySem.W.takesIn K (.builtin "object.__class__") = some true) (hm : PySem.W.mroIn K C (.type "object") = some true) :
    FnOk P w K mg base CX0 (k + 1) f fd ["self", "value"] (spWEq K C) := by
  refine F.ok scWEq (fun vs H Q E h => ?_) (fun cdv A outer s H vs Q E hr h => ?_)
  · obtain ⟨w, v, rows, rfl, _⟩ := h
    rfl
  · obtain ⟨w, v, rows, rfl, ⟨dx, r, as, ld, hw, hrw⟩, rows2, ⟨dx2, r2, as2, ld2, hv, hrw2⟩, q⟩ := h
    have un := hr.units
    refine ⟨_, pss_one (ps_ret (pe_and (pe_callB call_isi (by rfl) ms (by decide +kernel) (pa_cons (pv 1) (pa_cons (pe_glob (v := .ref C) (by rfl) gW rfl) pa_nil)))
      (pe_one (pe_cmpR (op_eqD un) (pe_fld (pv 0) rfl) (pe_fld (pv 1) rfl) (nomark _))))), ?_⟩
    refine ⟨_, rfl, .ref v, .ref C, .ref C, .ref C, true, rfl, .own C, .base (.ins hv W.c ha hn htk hm), ?_, true, rfl, iteT ?_⟩
    · show (if (Value.ref C == Value.ref C) = true then some true else _) = some true
      rw [if_pos (beq_self_eq_true _)]
    refine ⟨_, rfl, w, C, dx, _, _, rfl, hw, W.c, W.no, rfl, _, rfl, v, C, dx2, _, _, rfl, hv, W.c, W.no, rfl, ?_⟩
    refine ⟨_, _, hrw.dp, hrw2.dp, (tupsD_shaped rows).1, (tupsD_shaped rows2).1, ?_⟩
    rw [PyData.eqv, tupsD_eqv]
    exact q
end
end K09

set_option maxHeartbeats 16000000
namespace K09
open PySem PySem.Spec PyProof.Rows L2 GG
/-! ### the numbers' functions, of right arguments -/
abbrev sCount : Stmt := topS 4
abbrev sBase : Stmt := topS 19
abbrev sPower : Stmt := topS 15
abbrev sRaised : Stmt := topS 16
abbrev sFig : Stmt := topS 17
abbrev sNum : Stmt := topS 18
abbrev sAre : Stmt := topS 20
theorem scCount : FnScope ["value"] ["value"] (defScope sCount) := ⟨rfl, rfl, rfl, by decide +kernel, rfl, by decide +kernel, by decide +kernel⟩
theorem scBase : FnScope ["base"] ["base"] (defScope sBase) := ⟨rfl, rfl, rfl, by decide +kernel, rfl, by decide +kernel, by decide +kernel⟩
theorem scPower : FnScope ["base", "exponent"] ["base", "exponent"] (defScope sPower) := ⟨rfl, rfl, rfl, by decide +kernel, rfl, by decide +kernel, by decide +kernel⟩
theorem scRaised : FnScope ["base", "exponent", "result", "bit"] ["base", "exponent"] (defScope sRaised) := ⟨rfl, rfl, rfl, by decide +kernel, rfl, by decide +kernel, by decide +kernel⟩
theorem scFig : FnScope ["base", "length", "number", "figures", "rest", "_"] ["base", "length", "number"] (defScope sFig) := ⟨rfl, rfl, rfl, by decide +kernel, rfl, by decide +kernel, by decide +kernel⟩
theorem scNum : FnScope ["base", "figures", "number", "figure"] ["base", "figures"] (defScope sNum) := ⟨rfl, rfl, rfl, by decide +kernel, rfl, by decide +kernel, by decide +kernel⟩
theorem scAre : FnScope ["base", "figures", "figure"] ["base", "figures"] (defScope sAre) := ⟨rfl, rfl, rfl, by decide +kernel, rfl, by decide +kernel, by decide +kernel⟩
def spBase : Sp := fun vs H Q _ => ∃ i, vs = [.int i] ∧ intOk i = true ∧ 1 ≤ i ∧ Q .non H
def spRaised : Sp := fun vs H Q _ => ∃ i n, vs = [.int i, .int n] ∧ 1 ≤ i ∧ i < 2 ^ 64 ∧ 0 ≤ n ∧ n ≤ 1000 ∧ Q (.int (i ^ n.toNat)) H
def spPower : Sp := fun vs H Q _ => ∃ i n, vs = [.int i, .int n] ∧ intOk i = true ∧ 1 ≤ i ∧ i < 2 ^ 64 ∧ 0 ≤ n ∧ n ≤ 1000 ∧ Q (.int (i ^ n.toNat)) H
def spFig : Sp := fun vs H Q _ => ∃ i L n, vs = [.int i, .int L, .int n] ∧ intOk i = true ∧ 1 ≤ i ∧ 0 ≤ L ∧ L ≤ 1000 ∧ intOk n = true ∧ 0 ≤ n ∧ n / i ^ L.toNat = 0 ∧
  ∀ H' p, Same H H' → H p = none → H' p = some (.tup ((figs i L.toNat n).map V.int)) → Q (.ref p) H'
def spAre (K : PySem.W.Frag) : Sp := fun vs H Q _ => ∃ (i : Int) (a : Addr) (fs : List Int), vs = [.int i, .ref a] ∧ i < 2 ^ 64 ∧ SqT K H a (fs.map V.int) ∧ fs.length ≤ 100 ∧ (∀ f ∈ fs, 0 ≤ f ∧ f < i) ∧ ∀ H', Same H H' → Q (.bl true) H'
def spNum (K : PySem.W.Frag) : Sp := fun vs H Q _ => ∃ (i : Int) (a : Addr) (fs : List Int), vs = [.int i, .ref a] ∧ intOk i = true ∧ 1 ≤ i ∧ i < 2 ^ 64 ∧ SqT K H a (fs.map V.int) ∧ fs.length ≤ 100 ∧ (∀ f ∈ fs, 0 ≤ f ∧ f < i) ∧ ∀ H', Same H H' → Q (.int (val i fs)) H'
theorem inOk1000 {n : Int} (n0 : 0 ≤ n) (n1 : n ≤ 1000) : inOk 0 1000 n = true := by
  unfold inOk
  rw [intOk_small (by omega) (by omega), decide_eq_true n0, decide_eq_true n1]
  rfl
section
variable {P : Program} {w : World} {K : PySem.W.Frag} {mg : Str → Option Value} {base : Heap}
theorem ok_count {f fI : Addr} {fd fdI : FuncData} (F : Fun K "is_count" "is_count" sCount f fd) (bI : Binds K fdI ["value"] [])
    (GI : FnOk P w K mg base CX0 1 fI fdI ["value"] (spInteger K)) (gI : mg "is_integer" = some (.ref fI)) (kI : PySem.W.keepIn K (.ref fI) = true) :
    FnOk P w K mg base CX0 2 f fd ["value"] (spCount K) := by
  refine F.ok scCount (fun vs H Q E h => ?_) (fun cdv A outer s H vs Q E hr h => ?_)
  · obtain ⟨v, rfl, _⟩ := h
    rfl
  · obtain ⟨v, rfl, h⟩ := h
    refine ⟨_, pss_one (ps_ret (pe_and (pe_call GI hr (by rfl) gI kI bI .nil pass0 (pa_cons (pv 0) pa_nil))
      (pe_one (pe_cmpR op_ge (pv 0) pe_int (nomark _))))), ?_⟩
    rcases h with ⟨i, rfl, q⟩ | ⟨no, q⟩
    · exact ⟨_, rfl, _, rfl, .inl ⟨i, rfl, _, rfl, and2 (d := decide (0 ≤ i)) (fun _ Q' z => ⟨_, rfl, _, _, rfl, rfl, z⟩) q⟩⟩
    · exact ⟨_, rfl, _, rfl, .inr ⟨no, _, rfl, iteF q⟩⟩
theorem ok_base {f fI : Addr} {fd fdI : FuncData} (F : Fun K "_check_base" "_check_base" sBase f fd) (bI : Binds K fdI ["value"] [])
    (GI : FnOk P w K mg base CX0 1 fI fdI ["value"] (spInteger K)) (gI : mg "is_integer" = some (.ref fI)) (kI : PySem.W.keepIn K (.ref fI) = true) :
    FnOk P w K mg base CX0 2 f fd ["base"] spBase := by
  refine F.ok scBase (fun vs H Q E h => ?_) (fun cdv A outer s H vs Q E hr h => ?_)
  · obtain ⟨i, rfl, _⟩ := h
    rfl
  · obtain ⟨i, rfl, g, i1, q⟩ := h
    refine ⟨_, pss_one (ps_if (PW.pt (pw_or (pt_not (pt_val (pe_call GI hr (by rfl) gI kI bI .nil pass0 (pa_cons (pv 0) pa_nil)))) (pw_or1 (pt_cmpR op_lt (pv 0) pe_int (nomark _))))) (pss_one ps_never) pss_nil), ?_⟩
    refine ⟨_, rfl, _, rfl, .inl ⟨i, rfl, true, by rw [g], iteF ?_⟩⟩
    refine ⟨_, rfl, _, _, rfl, rfl, _, rfl, iteFo (decide_eq_false ?_) q⟩
    omega
theorem ok_raised {f : Addr} {fd : FuncData} {k : Nat} (F : Fun K "raised" "raised" sRaised f fd) (mrev : mg "reversed" = none) (mr : mg "range" = none) :
    FnOk P w K mg base CX0 (k + 1) f fd ["base", "exponent"] spRaised := by
  refine F.ok scRaised (fun vs H Q E h => ?_) (fun cdv A outer s H vs Q E hr h => ?_)
  · obtain ⟨i, n, rfl, _⟩ := h
    rfl
  · obtain ⟨i, n, rfl, g2, hi, n0, n1, q⟩ := h
    refine ⟨_, pss_cons (ps_set (i := 2) scRaised.nd rfl (.inl rfl) pe_int)
      (pss_cons (ps_for PassesOwn.never rfl (pi_revR (by rfl) mrev (prg_1 (by rfl) mr (pe_bits (pv 1)))) (pg_name (i := 3) scRaised.nd rfl (.inl rfl))
        (pss_cons (ps_set (i := 2) scRaised.nd rfl (.inl rfl) (pe_op op_mulW (pv 2) (pv 2)))
        (pss_one (ps_if (pt_cmpR op_eq (pe_op op_and (pe_op op_shr (pv 1) (pv 3)) pe_int) pe_int (nomark _))
          (pss_one (ps_set (i := 2) scRaised.nd rfl (.inl rfl) (pe_op op_mulW (pv 2) (pv 0)))) pss_nil))))
      (pss_one (ps_ret (pv 2)))), ?_⟩
    have bl : Builtin.Int.intBits n ≤ 1000000 := by
      unfold Builtin.Int.intBits
      split
      · omega
      · have := PySem.Flt.log2_lt_of (n := n.natAbs) (k := 11) (by decide) (by omega)
        omega
    refine ⟨_, rfl, _, rfl, _, rfl, by decide, by decide, by omega, by omega, ?_⟩
    generalize hL : Builtin.Int.intBits n = L
    have top := shr_top n0
    rw [hL] at top
    refine for_rangeC (fun k σ H1 => ∃ y3, σ = [some (.int i), some (.int n), some (.int (i ^ (n / 2 ^ (L - k)).toNat)), y3] ∧ H1 = H) ⟨none, ?_, rfl⟩ (fun k σ H1 hk hP => ?_) (fun σ H1 hP => ?_)
    · rw [Nat.sub_zero, top, show (0 : Int).toNat = 0 from rfl, Int.pow_zero]
      rfl
    · obtain ⟨y3, rfl, rfl⟩ := hP
      have kL : k < L := by omega
      have e1 : L - k = L - (k + 1) + 1 := by omega
      have st := shr_step n n0 (L - (k + 1))
      rw [← e1] at st
      have mle : (n / 2 ^ (L - k)).toNat ≤ 1000 := by
        have := Int.ediv_le_self (2 ^ (L - k)) n0
        omega
      have sz := pow_size g2 hi mle
      have mle2 : (n / 2 ^ (L - k)).toNat + (n / 2 ^ (L - k)).toNat ≤ 2000 := by omega
      have sz2 := pow_size g2 hi mle2
      rw [Int.pow_add] at sz2
      have bitv : (0 + (((L : Int) - 0).toNat : Int) - 1 + ((k : Nat) : Int) * -1) = ((L - (k + 1) : Nat) : Int) := by omega
      refine ⟨_, rfl, _, rfl, _, _, rfl, rfl, wide_mul sz sz (by decide) (by decide) (by decide), ?_⟩
      refine ⟨_, rfl, _, rfl, _, _, rfl, rfl, (by rw [bitv]; exact Int.natCast_nonneg _), _, _, rfl, rfl, rfl, _, rfl, ite2 (fun e => ?_) (fun e => ?_)⟩
      · have b1 := V.int.inj (of_decide_eq_true e)
        rw [bitv, Int.toNat_natCast, bitAnd_m1] at b1
        refine ⟨_, rfl, _, rfl, _, _, rfl, rfl, wide_mul sz2 (show i.natAbs < 2 ^ 64 by omega) (by decide) (by decide) (by decide), some (.int (0 + (((L : Int) - 0).toNat : Int) - 1 + ((k : Nat) : Int) * -1)), ?_, rfl⟩
        rw [b1] at st
        rw [st, show (1 : Int).toNat = 1 from rfl, Int.pow_succ, Nat.two_mul, Int.pow_add]
        rfl
      · have b1 : ¬ (n / 2 ^ (L - (k + 1)) % 2 = 1) := fun z => e (by rw [bitv, Int.toNat_natCast]; exact decide_eq_true (congrArg V.int ((bitAnd_m1 _).trans z)))
        have b0 : n / 2 ^ (L - (k + 1)) % 2 = 0 := by omega
        refine ⟨some (.int (0 + (((L : Int) - 0).toNat : Int) - 1 + ((k : Nat) : Int) * -1)), ?_, rfl⟩
        rw [b0] at st
        rw [st, show (0 : Int).toNat = 0 from rfl, Nat.add_zero, Nat.two_mul, Int.pow_add]
        rfl
    · obtain ⟨y3, rfl, rfl⟩ := hP
      have e0 : (((L : Nat) : Int) - 0).toNat = L := by omega
      refine ⟨_, rfl, ?_⟩
      rw [e0, Nat.sub_self, Int.pow_zero, Int.ediv_one]
      exact q
theorem ok_power {f fB fW fR : Addr} {fd fdB fdW fdR : FuncData} {tL : Tok} (F : Fun K "power" "power" sPower f fd) (bB : Binds K fdB ["base"] []) (bW : Binds K fdW ["value", "least", "most"] []) (bR : Binds K fdR ["base", "exponent"] [])
    (GB : FnOk P w K mg base CX0 2 fB fdB ["base"] spBase) (GW : FnOk P w K mg base CX0 2 fW fdW ["value", "least", "most"] (spWithin K)) (GR : FnOk P w K mg base CX0 1 fR fdR ["base", "exponent"] spRaised)
    (gB : mg "_check_base" = some (.ref fB)) (gW : mg "is_within" = some (.ref fW)) (gR : mg "raised" = some (.ref fR)) (kB : PySem.W.keepIn K (.ref fB) = true) (kW : PySem.W.keepIn K (.ref fW) = true) (kR : PySem.W.keepIn K (.ref fR) = true)
    (mL : mg "_LIMIT" = some (.int 1000 tL)) :
    FnOk P w K mg base CX0 3 f fd ["base", "exponent"] spPower := by
  refine F.ok scPower (fun vs H Q E h => ?_) (fun cdv A outer s H vs Q E hr h => ?_)
  · obtain ⟨i, n, rfl, _⟩ := h
    rfl
  · obtain ⟨i, n, rfl, g1, g2, hi, n0, n1, q⟩ := h
    have hr1 := hr.mono (show 1 ≤ 2 by decide)
    refine ⟨_, pss_cons (ps_expr (pe_call GB hr (by rfl) gB kB bB .nil pass0 (pa_cons (pv 0) pa_nil)))
      (pss_cons (ps_if (pt_not (pt_val (pe_call GW hr (by rfl) gW kW bW .nil pass0 (pa_cons (pv 1) (pa_cons pe_int (pa_cons (pe_glob (v := .int 1000) (by rfl) mL ⟨_, rfl⟩) pa_nil)))))) (pss_one ps_never) pss_nil)
      (pss_one (ps_ret (pe_call GR hr1 (by rfl) gR kR bR .nil pass0 (pa_cons (pv 0) (pa_cons (pv 1) pa_nil)))))), ?_⟩
    refine ⟨_, rfl, i, rfl, g1, g2, ?_⟩
    refine ⟨_, rfl, _, _, _, rfl, .inl ⟨n, rfl, true, by rw [inOk1000 n0 n1], iteF ?_⟩⟩
    exact ⟨_, rfl, _, rfl, i, n, rfl, g2, hi, n0, n1, q⟩
theorem ok_fig {f fB fW fN : Addr} {fd fdB fdW fdN : FuncData} {tL : Tok} (F : Fun K "figures_of" "figures_of" sFig f fd) (bB : Binds K fdB ["base"] []) (bW : Binds K fdW ["value", "least", "most"] []) (bN : Binds K fdN ["value"] [])
    (GB : FnOk P w K mg base CX0 2 fB fdB ["base"] spBase) (GW : FnOk P w K mg base CX0 2 fW fdW ["value", "least", "most"] (spWithin K)) (GN : FnOk P w K mg base CX0 2 fN fdN ["value"] (spCount K))
    (gB : mg "_check_base" = some (.ref fB)) (gW : mg "is_within" = some (.ref fW)) (gN : mg "is_count" = some (.ref fN)) (kB : PySem.W.keepIn K (.ref fB) = true) (kW : PySem.W.keepIn K (.ref fW) = true) (kN : PySem.W.keepIn K (.ref fN) = true)
    (mL : mg "_LIMIT" = some (.int 1000 tL)) (mr : mg "range" = none) (mt : mg "tuple" = none) :
    FnOk P w K mg base CX0 3 f fd ["base", "length", "number"] spFig := by
  refine F.ok scFig (fun vs H Q E h => ?_) (fun cdv A outer s H vs Q E hr h => ?_)
  · obtain ⟨i, L, n, rfl, _⟩ := h
    rfl
  · obtain ⟨i, L, n, rfl, g1, g2, L0, L1, x1, x0, fits, q⟩ := h
    refine ⟨_, pss_cons (ps_expr (pe_call GB hr (by rfl) gB kB bB .nil pass0 (pa_cons (pv 0) pa_nil)))
      (pss_cons (ps_if (pt_not (pt_val (pe_call GW hr (by rfl) gW kW bW .nil pass0 (pa_cons (pv 1) (pa_cons pe_int (pa_cons (pe_glob (v := .int 1000) (by rfl) mL ⟨_, rfl⟩) pa_nil)))))) (pss_one ps_never) pss_nil)
      (pss_cons (ps_if (pt_not (pt_val (pe_call GN hr (by rfl) gN kN bN .nil pass0 (pa_cons (pv 2) pa_nil)))) (pss_one ps_never) pss_nil)
      (pss_cons (ps_set (i := 3) scFig.nd rfl (.inl rfl) (pe_lst pa_nil))
      (pss_cons (ps_set (i := 4) scFig.nd rfl (.inl rfl) (pv 2))
      (pss_cons (ps_for PassesOwn.never rfl (pi_range1 rfl mr (pa_cons (pv 1) pa_nil)) (pg_name (i := 5) scFig.nd rfl (.inl rfl))
        (pss_cons (ps_expr (pe_bm PySem.F.plainAttrs_list PySem.F.slot_list_append PySem.F.type_list_append mt_append (pv 3) (pa_cons (pe_op op_mod (pv 4) (pv 0)) pa_nil)))
        (pss_one (ps_set (i := 4) scFig.nd rfl (.inl rfl) (pe_op op_fdivW (pv 4) (pv 0))))))
      (pss_cons (ps_if (pt_cmpR op_ne (pv 4) pe_int (nomark _)) (pss_one ps_never) pss_nil)
      (pss_one (ps_ret (pe_callTy call_tuple_of (by rfl) mt (by decide +kernel) (pa_cons (pe_revL (pv 3)) pa_nil)))))))))), ?_⟩
    have cnt : cntOk n = true := by
      unfold cntOk
      rw [x1, decide_eq_true x0]
      rfl
    refine ⟨_, rfl, i, rfl, g1, g2, ?_⟩
    refine ⟨_, rfl, _, _, _, rfl, .inl ⟨L, rfl, true, by rw [inOk1000 L0 L1], iteF ?_⟩⟩
    refine ⟨_, rfl, _, rfl, .inl ⟨n, rfl, true, by rw [cnt], iteF ?_⟩⟩
    refine ⟨by decide, fun p np => ⟨_, rfl, _, rfl, L, rfl, by omega, by omega, ?_⟩⟩
    refine for_range (lo := 0) (n := L.toNat) (fun k σ H1 => ∃ y5, σ = [some (.int i), some (.int L), some (.int n), some (.ref p), some (.int (n / i ^ k)), y5] ∧ Same H H1 ∧
        H1 p = some (.lst (((List.range k).map fun j => n / i ^ j % i).map V.int)))
      ⟨none, by rw [Int.pow_zero, Int.ediv_one]; rfl, sameUpd np, upd_same⟩ (fun k σ H1 hk hP => ?_) (fun σ H1 hP => ?_)
    · obtain ⟨y5, rfl, sm, hp⟩ := hP
      refine ⟨.ref p, rfl, .inl ⟨rfl, _, .inl (.inl hp)⟩, _, rfl, _, rfl, _, _, rfl, rfl, (by show (0 : Int) < i; omega), p, _, _, rfl, rfl, hp, ?_, ?_⟩
      · rw [List.length_map, List.length_map, List.length_range]
        exact small1000 (by omega)
      · refine ⟨_, rfl, _, rfl, _, _, rfl, rfl, wide_div (by omega) (bits_up (intOk_bits g1) (by decide : 700 ≤ 7000)) (by decide) (by decide), some (.int (0 + k)), ?_, ?_, ?_⟩
        · rw [Int.pow_succ, ← Int.ediv_ediv_of_nonneg (by have := pow_pos' g2 k; omega)]
          rfl
        · exact fun b o e => by
            rw [upd_ne (ne_of_none e np)]
            exact sm b o e
        · rw [upd_same, List.range_succ, List.map_append, List.map_append]
          rfl
    · obtain ⟨y5, rfl, sm, hp⟩ := hP
      refine ⟨_, rfl, rfl, _, rfl, iteFo (by rw [fits]; rfl) ?_⟩
      refine ⟨.ref p, rfl, p, _, rfl, .of hp, fun r nr => ?_⟩
      refine ⟨r, _, rfl, .inl ⟨.of upd_same, fun t nt => ?_⟩⟩
      refine q _ t (sm.trans ((sameUpd nr).trans (sameUpd nt))) ?_ ?_
      · exact (sm.trans (sameUpd nr)).free nt
      · rw [upd_same]
        unfold figs
        rw [List.map_reverse]
theorem ok_are {f fW : Addr} {fd fdW : FuncData} {tL : Tok} (F : Fun K "_are_figures" "_are_figures" sAre f fd) (bW : Binds K fdW ["value", "least", "most"] [])
    (GW : FnOk P w K mg base CX0 2 fW fdW ["value", "least", "most"] (spWithin K))
    (gW : mg "is_within" = some (.ref fW)) (kW : PySem.W.keepIn K (.ref fW) = true)
    (mL : mg "_LIMIT" = some (.int 1000 tL)) (ms : mg "isinstance" = none) (mt : mg "tuple" = none) (ml : mg "len" = none) (ma : mg "all" = none) :
    FnOk P w K mg base CX0 3 f fd ["base", "figures"] (spAre K) := by
  refine F.ok scAre (fun vs H Q E h => ?_) (fun cdv A outer s H vs Q E hr h => ?_)
  · obtain ⟨i, a, fs, rfl, _⟩ := h
    rfl
  · obtain ⟨i, a, fs, rfl, i2, ha, hl, all, q⟩ := h
    refine ⟨_, pss_cons (ps_if (PW.pt (pw_or (pt_not (pt_val (pe_callB call_isi (by rfl) ms (by decide +kernel) (pa_cons (pv 1) (pa_cons (pe_bltn (v := .ty "tuple") (by rfl) mt (by decide +kernel) rfl) pa_nil)))))
        (pw_or1 (pt_cmpR op_gt (pe_callB call_len_seq (by rfl) ml PySem.boot_len (pa_cons (pv 1) pa_nil)) (pe_glob (v := .int 1000) (by rfl) mL ⟨_, rfl⟩) (nomark _)))))
        (pss_one (ps_ret pe_bl)) pss_nil)
      (pss_one (ps_ret (pe_callB (cr_all rfl) (by rfl) ma (by decide +kernel) (pa_cons
        (pe_lc (own := [("figure", 2)]) (g := gName 2) (tt := tYes) rfl scAre.nd (pi_tup (pv 1)) (blkOk_by (own := [("figure", 2)]) (N := ["base", "figures", "figure"]) (sc := defScope sAre) (by decide +kernel))
          (fun _ _ _ _ _ => pg_name (i := 2) scAre.nd rfl (Or.inl rfl)) (fun _ _ _ _ _ => pts_nil)
          (fun _ _ _ _ _ => pe_call GW hr (by rfl) gW kW bW .nil pass0 (pa_cons (pv 2) (pa_cons pe_int (pa_cons (pe_op op_sub (pv 0) pe_int) pa_nil))))) pa_nil)))), ?_⟩
    refine ⟨_, rfl, _, _, _, _, true, rfl, .ty _, sqT_ty ha, kit_ty (by decide +kernel), true, rfl, iteF ?_⟩
    refine ⟨_, rfl, a, _, rfl, .inr ha, _, _, rfl, rfl, _, rfl, iteFo (decide_eq_false (by rw [List.length_map]; omega)) ?_⟩
    refine ⟨.ref a, rfl, a, rfl, ⟨_, ha⟩, fun D nD => ?_⟩
    refine lc_tup (K := K) (a := a) (xs := fs.map V.int) (fun k H1 => Same H H1 ∧ H1 D = some (.lst ((fs.take k).map fun _ => .bl true))) ⟨sameUpd nD, upd_same⟩ (fun k H1 _ hP => sqT_same hP.1 ha) (fun k v H1 hv hP => ?_) (fun H1 hP => ?_)
    · obtain ⟨sm, hD⟩ := hP
      rw [List.getElem?_map] at hv
      obtain ⟨n, hn, rfl⟩ := Option.map_eq_some_iff.mp hv
      obtain ⟨n0, n1⟩ := all n (List.mem_of_getElem? hn)
      have w1 : inOk 0 (i - 1) n = true := by
        unfold inOk
        rw [intOk_small (by omega) (by omega), decide_eq_true n0, decide_eq_true (by omega)]
        rfl
      refine ⟨rfl, _, rfl, _, rfl, _, _, rfl, rfl, _, _, _, rfl, .inl ⟨n, rfl, _, hD, ?_, fun b o e => ?_, ?_⟩⟩
      · rw [List.length_map, List.length_take]
        exact Nat.lt_of_le_of_lt (Nat.min_le_right _ _) (small1000 (by omega))
      · rw [upd_ne (ne_of_none e nD)]
        exact sm b o e
      · rw [upd_same, List.take_add_one, hn, List.map_append, w1]
        rfl
    · obtain ⟨sm, hD⟩ := hP
      rw [List.length_map, List.take_length] at hD
      refine ⟨D, fs.map fun _ => true, rfl, .of ?_, ?_⟩
      · rw [hD, List.map_map]
        rfl
      · have e : (fs.map fun _ => true).all id = true := by
          rw [List.all_eq_true]
          intro b hb
          obtain ⟨_, _, rfl⟩ := List.mem_map.mp hb
          rfl
        rw [e]
        exact q H1 sm
theorem ok_num {f fB fA : Addr} {fd fdB fdA : FuncData} (F : Fun K "number_of" "number_of" sNum f fd) (bB : Binds K fdB ["base"] []) (bA : Binds K fdA ["base", "figures"] [])
    (GB : FnOk P w K mg base CX0 2 fB fdB ["base"] spBase) (GA : FnOk P w K mg base CX0 3 fA fdA ["base", "figures"] (spAre K))
    (gB : mg "_check_base" = some (.ref fB)) (gA : mg "_are_figures" = some (.ref fA)) (kB : PySem.W.keepIn K (.ref fB) = true) (kA : PySem.W.keepIn K (.ref fA) = true) :
    FnOk P w K mg base CX0 4 f fd ["base", "figures"] (spNum K) := by
  refine F.ok scNum (fun vs H Q E h => ?_) (fun cdv A outer s H vs Q E hr h => ?_)
  · obtain ⟨i, a, fs, rfl, _⟩ := h
    rfl
  · obtain ⟨i, a, fs, rfl, i1, i0, i2, ha, hl, all, q⟩ := h
    have hr2 := hr.mono (show 2 ≤ 3 by decide)
    refine ⟨_, pss_cons (ps_expr (pe_call GB hr2 (by rfl) gB kB bB .nil pass0 (pa_cons (pv 0) pa_nil)))
      (pss_cons (ps_if (pt_not (pt_val (pe_call GA hr (by rfl) gA kA bA .nil pass0 (pa_cons (pv 0) (pa_cons (pv 1) pa_nil))))) (pss_one ps_never) pss_nil)
      (pss_cons (ps_set (i := 2) scNum.nd rfl (.inl rfl) pe_int)
      (pss_cons (ps_for PassesOwn.never rfl (pi_tup (pv 1)) (pg_name (i := 3) scNum.nd rfl (.inl rfl))
        (pss_one (ps_set (i := 2) scNum.nd rfl (.inl rfl) (pe_op op_add (pe_op op_mulW (pv 2) (pv 0)) (pv 3)))))
      (pss_one (ps_ret (pv 2)))))), ?_⟩
    refine ⟨_, rfl, i, rfl, i1, i0, ?_⟩
    refine ⟨_, rfl, _, rfl, i, a, fs, rfl, i2, ha, hl, all, fun H1 sm => ⟨true, rfl, iteF ?_⟩⟩
    refine ⟨_, rfl, a, rfl, ⟨_, sqT_same sm ha⟩, ?_⟩
    refine for_tup (K := K) (a := a) (xs := fs.map V.int) (fun k σ H2 => ∃ y3, σ = [some (.int i), some (.ref a), some (.int (val i (fs.take k))), y3] ∧ H2 = H1) ⟨none, rfl, rfl⟩
      (fun k σ H2 _ hP => by obtain ⟨_, _, rfl⟩ := hP; exact sqT_same sm ha) (fun k v σ H2 hv hP => ?_) (fun σ H2 hP => ?_)
    · obtain ⟨y3, rfl, rfl⟩ := hP
      rw [List.getElem?_map] at hv
      obtain ⟨n, hn, rfl⟩ := Option.map_eq_some_iff.mp hv
      obtain ⟨v0, v1⟩ := val_bound i0 (fs.take k) fun f hf => all f (List.mem_of_mem_take hf)
      have lk : (fs.take k).length ≤ 100 := by
        rw [List.length_take]
        omega
      have sz := le_bits v0 (Int.le_of_lt v1) (pow_size i0 i2 lk)
      refine ⟨_, rfl, _, rfl, _, _, rfl, rfl, wide_mul sz (show i.natAbs < 2 ^ 64 by omega) (by decide) (by decide) (by decide), _, rfl, _, _, rfl, rfl, some (.int n), ?_, rfl⟩
      rw [List.take_add_one, hn]
      show _ = [some (V.int i), some (V.ref a), some (V.int (val i (fs.take k ++ [n]))), some (V.int n)]
      rw [val_snoc]
      rfl
    · obtain ⟨y3, rfl, rfl⟩ := hP
      refine ⟨_, rfl, ?_⟩
      rw [List.length_map, List.take_length]
      exact q H2 sm
end
end K09

set_option maxHeartbeats 16000000
namespace K09
open PySem PySem.Spec PyProof.Rows L2 GG
/-! ### word webs and webs with all ties, of right arguments -/
abbrev sCkNum : Stmt := topS 26
abbrev sCkPos : Stmt := topS 35
abbrev sCkWords : Stmt := topS 34
abbrev sCkSize : Stmt := topS 36
abbrev sWordWeb : Stmt := topS 30
abbrev sAllTies : Stmt := topS 31
theorem scCkNum : FnScope ["number", "least", "most"] ["number", "least", "most"] (defScope sCkNum) := ⟨rfl, rfl, rfl, by decide +kernel, rfl, by decide +kernel, by decide +kernel⟩
theorem scCkPos : FnScope ["number"] ["number"] (defScope sCkPos) := ⟨rfl, rfl, rfl, by decide +kernel, rfl, by decide +kernel, by decide +kernel⟩
theorem scCkWords : FnScope ["degree", "depth"] ["degree", "depth"] (defScope sCkWords) := ⟨rfl, rfl, rfl, by decide +kernel, rfl, by decide +kernel, by decide +kernel⟩
theorem scCkSize : FnScope ["many"] ["many"] (defScope sCkSize) := ⟨rfl, rfl, rfl, by decide +kernel, rfl, by decide +kernel, by decide +kernel⟩
theorem scWordWeb : FnScope ["degree", "depth", "many", "starts", "place", "start"] ["degree", "depth"] (defScope sWordWeb) := ⟨rfl, rfl, rfl, by decide +kernel, rfl, by decide +kernel, by decide +kernel⟩
theorem scAllTies : FnScope ["number"] ["number"] (defScope sAllTies) := ⟨rfl, rfl, rfl, by decide +kernel, rfl, by decide +kernel, by decide +kernel⟩
def spCkNum : Sp := fun vs H Q _ => ∃ n lo hi, vs = [.int n, .int lo, .int hi] ∧ inOk lo hi n = true ∧ Q .non H
def spCkPos : Sp := fun vs H Q _ => ∃ n, vs = [.int n] ∧ intOk n = true ∧ 1 ≤ n ∧ Q .non H
def spCkWords : Sp := fun vs H Q _ => ∃ d k, vs = [.int d, .int k] ∧ intOk d = true ∧ 1 ≤ d ∧ 1 ≤ k ∧ k ≤ 8 ∧ Q .non H
def spCkSize : Sp := fun vs H Q _ => ∃ n, vs = [.int n] ∧ n ≤ 256 ∧ Q .non H
def spWordWeb (K : PySem.W.Frag) (C : Addr) : Sp := fun vs H Q _ => ∃ d k : Nat, vs = [vN d, vN k] ∧ 1 ≤ d ∧ 1 ≤ k ∧ k ≤ 8 ∧ d ^ k ≤ 256 ∧ ∀ H' w, Same H H' → H w = none → WebAt K H' C w (wordRows d k) → Q (.ref w) H'
def spAllTies (K : PySem.W.Frag) (C : Addr) : Sp := fun vs H Q _ => ∃ n : Nat, vs = [vN n] ∧ 1 ≤ n ∧ n ≤ 256 ∧ ∀ H' w, Same H H' → H w = none → WebAt K H' C w (allRows n) → Q (.ref w) H'
section
variable {P : Program} {w : World} {K : PySem.W.Frag} {mg : Str → Option Value} {base : Heap}
theorem ok_cknum {f fW : Addr} {fd fdW : FuncData} (F : Fun K "check_number" "check_number" sCkNum f fd) (bW : Binds K fdW ["value", "least", "most"] [])
    (GW : FnOk P w K mg base CX0 2 fW fdW ["value", "least", "most"] (spWithin K)) (gW : mg "is_within" = some (.ref fW)) (kW : PySem.W.keepIn K (.ref fW) = true) :
    FnOk P w K mg base CX0 3 f fd ["number", "least", "most"] spCkNum := by
  refine F.ok scCkNum (fun vs H Q E h => ?_) (fun cdv A outer s H vs Q E hr h => ?_)
  · obtain ⟨n, lo, hi, rfl, _⟩ := h
    rfl
  · obtain ⟨n, lo, hi, rfl, ok, q⟩ := h
    refine ⟨_, pss_one (ps_if (pt_not (pt_val (pe_call GW hr (by rfl) gW kW bW .nil pass0 (pa_cons (pv 0) (pa_cons (pv 1) (pa_cons (pv 2) pa_nil)))))) (pss_one ps_never) pss_nil), ?_⟩
    exact ⟨_, rfl, _, rfl, _, rfl, _, _, _, rfl, .inl ⟨n, rfl, true, by rw [ok], iteF q⟩⟩
theorem ok_ckpos {f fI : Addr} {fd fdI : FuncData} (F : Fun K "_check_positive" "_check_positive" sCkPos f fd) (bI : Binds K fdI ["value"] [])
    (GI : FnOk P w K mg base CX0 1 fI fdI ["value"] (spInteger K)) (gI : mg "is_integer" = some (.ref fI)) (kI : PySem.W.keepIn K (.ref fI) = true) :
    FnOk P w K mg base CX0 2 f fd ["number"] spCkPos := by
  refine F.ok scCkPos (fun vs H Q E h => ?_) (fun cdv A outer s H vs Q E hr h => ?_)
  · obtain ⟨i, rfl, _⟩ := h
    rfl
  · obtain ⟨i, rfl, g, i1, q⟩ := h
    refine ⟨_, pss_one (ps_if (PW.pt (pw_or (pt_not (pt_val (pe_call GI hr (by rfl) gI kI bI .nil pass0 (pa_cons (pv 0) pa_nil)))) (pw_or1 (pt_cmpR op_lt (pv 0) pe_int (nomark _))))) (pss_one ps_never) pss_nil), ?_⟩
    refine ⟨_, rfl, _, rfl, .inl ⟨i, rfl, true, by rw [g], iteF ?_⟩⟩
    refine ⟨_, rfl, _, _, rfl, rfl, _, rfl, iteFo (decide_eq_false ?_) q⟩
    omega
theorem ok_ckwords {f fP fN : Addr} {fd fdP fdN : FuncData} {tD : Tok} (F : Fun K "_check_words" "_check_words" sCkWords f fd) (bP : Binds K fdP ["number"] []) (bN : Binds K fdN ["number", "least", "most"] [])
    (GP : FnOk P w K mg base CX0 2 fP fdP ["number"] spCkPos) (GN : FnOk P w K mg base CX0 3 fN fdN ["number", "least", "most"] spCkNum)
    (gP : mg "_check_positive" = some (.ref fP)) (gN : mg "check_number" = some (.ref fN)) (kP : PySem.W.keepIn K (.ref fP) = true) (kN : PySem.W.keepIn K (.ref fN) = true) (mD : mg "MAX_DEPTH" = some (.int 8 tD)) :
    FnOk P w K mg base CX0 4 f fd ["degree", "depth"] spCkWords := by
  refine F.ok scCkWords (fun vs H Q E h => ?_) (fun cdv A outer s H vs Q E hr h => ?_)
  · obtain ⟨d, k, rfl, _⟩ := h
    rfl
  · obtain ⟨d, k, rfl, g, d1, k1, k2, q⟩ := h
    have hr2 := hr.mono (show 2 ≤ 3 by decide)
    refine ⟨_, pss_cons (ps_expr (pe_call GP hr2 (by rfl) gP kP bP .nil pass0 (pa_cons (pv 0) pa_nil)))
      (pss_one (ps_expr (pe_call GN hr (by rfl) gN kN bN .nil pass0 (pa_cons (pv 1) (pa_cons pe_int (pa_cons (pe_glob (v := .int 8) (by rfl) mD ⟨_, rfl⟩) pa_nil)))))), ?_⟩
    refine ⟨_, rfl, d, rfl, g, d1, _, rfl, k, 1, 8, rfl, ?_, q⟩
    unfold inOk
    rw [intOk_small (by omega) (by omega), decide_eq_true k1, decide_eq_true k2]
    rfl
theorem ok_cksize {f : Addr} {fd : FuncData} {tM : Tok} {k : Nat} (F : Fun K "_check_size" "_check_size" sCkSize f fd) (mM : mg "MAX_PLACES_making" = some (.int 256 tM)) :
    FnOk P w K mg base CX0 (k + 1) f fd ["many"] spCkSize := by
  refine F.ok scCkSize (fun vs H Q E h => ?_) (fun cdv A outer s H vs Q E hr h => ?_)
  · obtain ⟨n, rfl, _⟩ := h
    rfl
  · obtain ⟨n, rfl, n1, q⟩ := h
    refine ⟨_, pss_one (ps_if (pt_cmpR op_gt (pv 0) (pe_glob (v := .int 256) (by rfl) mM ⟨_, rfl⟩) (nomark _)) (pss_one ps_never) pss_nil), ?_⟩
    refine ⟨_, rfl, _, _, rfl, rfl, _, rfl, iteFo (decide_eq_false ?_) q⟩
    omega
theorem ok_wordweb {f fC fP fS fI C : Addr} {fd fdC fdP fdS fdI : FuncData} (F : Fun K "word_web" "word_web" sWordWeb f fd) (bC : Binds K fdC ["degree", "depth"] []) (bP : Binds K fdP ["base", "exponent"] []) (bS : Binds K fdS ["many"] []) (bI : Binds K fdI ["self", "rows"] [])
    (GC : FnOk P w K mg base CX0 4 fC fdC ["degree", "depth"] spCkWords) (GP : FnOk P w K mg base CX0 3 fP fdP ["base", "exponent"] spPower) (GS : FnOk P w K mg base CX0 1 fS fdS ["many"] spCkSize)
    (M : Mk K C fI) (GI : FnOk P w K mg base CX0 5 fI fdI ["self", "rows"] (spWInit K C))
    (gC : mg "_check_words" = some (.ref fC)) (gP : mg "power" = some (.ref fP)) (gS : mg "_check_size" = some (.ref fS)) (gW : mg "Web" = some (.ref C)) (kC : PySem.W.keepIn K (.ref fC) = true) (kP : PySem.W.keepIn K (.ref fP) = true) (kS : PySem.W.keepIn K (.ref fS) = true)
    (mr : mg "range" = none) (mt : mg "tuple" = none) :
    FnOk P w K mg base CX0 7 f fd ["degree", "depth"] (spWordWeb K C) := by
  refine F.ok scWordWeb (fun vs H Q E h => ?_) (fun cdv A outer s H vs Q E hr h => ?_)
  · obtain ⟨d, k, rfl, _⟩ := h
    rfl
  · obtain ⟨d, k, rfl, d1, k1, k8, few, q⟩ := h
    have hr4 := hr.mono (show 4 ≤ 6 by decide)
    have hr3 := hr.mono (show 3 ≤ 6 by decide)
    have hr1 := hr.mono (show 1 ≤ 6 by decide)
    have N := scWordWeb.nd
    refine ⟨_, pss_cons (ps_expr (pe_call GC hr4 (by rfl) gC kC bC .nil pass0 (pa_cons (pv 0) (pa_cons (pv 1) pa_nil))))
      (pss_cons (ps_set (i := 2) N rfl (.inr rfl) (pe_call GP hr3 (by rfl) gP kP bP .nil pass0 (pa_cons (pv 0) (pa_cons (pv 1) pa_nil))))
      (pss_cons (ps_expr (pe_call GS hr1 (by rfl) gS kS bS .nil pass0 (pa_cons (pv 2) pa_nil)))
      (pss_cons (ps_setLc (i := 3) (own := [("place", 4)]) (g := gName 4) (tt := tYes) rfl N rfl rfl (sw_true rfl rfl rfl (by decide +kernel))
          (pi_range1 (by rfl) mr (pa_cons (pv 2) pa_nil))
          (blkOk_by (own := [("place", 4)]) (N := ["degree", "depth", "many", "starts", "place", "start"]) (sc := defScope sWordWeb) (by decide +kernel))
          (fun _ _ _ _ _ => pg_name (i := 4) N rfl (Or.inl rfl)) (fun _ _ _ _ _ => pts_nil) (fun _ _ _ _ _ => pe_op op_mod (pe_op op_mul (pv 4) (pv 0)) (pv 2)))
      (pss_one (ps_ret (pe_make M GI hr (by rfl) gW bI .nil pass0 (pa_cons (pe_callTy call_tuple_of (by rfl) mt (by decide +kernel) (pa_cons
          (pe_lc (own := [("start", 5)]) (g := gName 5) (tt := tYes) rfl N (pi_list (pv 3))
            (blkOk_by (own := [("start", 5)]) (N := ["degree", "depth", "many", "starts", "place", "start"]) (sc := defScope sWordWeb) (by decide +kernel))
            (fun _ _ _ _ _ => pg_name (i := 5) N rfl (Or.inl rfl)) (fun _ _ _ _ _ => pts_nil)
            (fun _ _ _ _ _ => pe_tupRg rfl (by rfl) mt (prg_2 (by rfl) mr (pv 5) (pe_op op_add (pv 5) (pv 0))))) pa_nil)) pa_nil))))))), ?_⟩
    have dk : 1 ≤ d ^ k := Nat.pow_pos d1
    have dd : d ≤ d ^ k := by
      calc d = d ^ 1 := (Nat.pow_one d).symm
        _ ≤ d ^ k := Nat.pow_le_pow_right d1 k1
    have pw : (d : Int) ^ ((k : Nat) : Int).toNat = ((d ^ k : Nat) : Int) := by
      rw [Int.toNat_natCast, Int.natCast_pow]
    refine ⟨_, rfl, _, rfl, _, _, rfl, intOk_small (by omega) (by omega), by omega, by omega, by omega, ?_⟩
    refine ⟨_, rfl, _, rfl, (d : Int), (k : Int), rfl, intOk_small (by omega) (by omega), by omega, by omega, by omega, by omega, ?_⟩
    rw [pw]
    refine ⟨_, rfl, _, rfl, by omega, ?_⟩
    have hb : ((d ^ k : Nat) : Int) < 2 ^ 62 := by omega
    refine ⟨_, rfl, _, rfl, by omega, hb, fun D nD => ?_⟩
    refine lc_range (lo := 0) (n := ((d ^ k : Nat) : Int).toNat) (fun j H2 => Same H H2 ∧ H2 D = some (.lst ((List.range j).map fun p => vN (p * d % d ^ k)))) ⟨sameUpd nD, upd_same⟩ (fun j H2 hj hP => ?_) (fun H2 hP => ?_)
    · obtain ⟨sm, hD⟩ := hP
      rw [Int.toNat_natCast] at hj
      refine ⟨rfl, _, rfl, _, rfl, _, _, rfl, rfl, .inl ⟨by omega, by omega⟩, _, rfl, _, _, rfl, rfl, by omega, _, hD, ?_, fun b o e => ?_, ?_⟩
      · rw [List.length_map, List.length_range]
        exact small1000 (by omega)
      · rw [upd_ne (ne_of_none e nD)]
        exact sm b o e
      · rw [upd_same, List.range_succ, List.map_append]
        have e : V.int ((0 + (j : Int)) * (d : Int) % ((d ^ k : Nat) : Int)) = vN (j * d % d ^ k) := by
          rw [Int.zero_add]
          rfl
        show some (HO.lst (_ ++ [V.int ((0 + (j : Int)) * (d : Int) % ((d ^ k : Nat) : Int))])) = _
        rw [e]
        rfl
    · obtain ⟨sm, hD⟩ := hP
      rw [Int.toNat_natCast] at hD
      refine ⟨_, rfl, D, rfl, ⟨_, .of hD⟩, fun L nL => ?_⟩
      refine lc_list (a := D) (xs := (List.range (d ^ k)).map fun p => vN (p * d % d ^ k)) (fun j H3 => Same H2 H3 ∧ ∃ as, H3 L = some (.lst (as.map V.ref)) ∧ Tups K H3 as ((wordRows d k).take j)) ⟨sameUpd nL, [], upd_same, .nil⟩
        (fun j H3 hj hP => .of (hP.1 _ _ hD)) (fun j v H3 hv hP => ?_) (fun H3 hP => ?_)
      · obtain ⟨s3, as, hL, tp⟩ := hP
        rw [List.getElem?_map] at hv
        obtain ⟨p, hp, rfl⟩ := Option.map_eq_some_iff.mp hv
        obtain ⟨pl, ep⟩ := List.getElem?_eq_some_iff.mp hp
        rw [List.length_range] at pl
        rw [List.getElem_range] at ep
        subst ep
        have wr : (wordRows d k)[j]? = some ((List.range d).map fun c => j * d % d ^ k + c) := by
          unfold wordRows
          rw [List.getElem?_map, List.getElem?_range pl]
          rfl
        have fit := word_fit k1 pl (show 0 < d by omega)
        have b0 : (0 : Int) ≤ ((j * d % d ^ k : Nat) : Int) := Int.natCast_nonneg _
        have b1 : ((j * d % d ^ k : Nat) : Int) < 256 := by
          have : j * d % d ^ k < 256 := by omega
          exact_mod_cast this
        refine ⟨rfl, _, rfl, _, rfl, _, rfl, _, _, rfl, rfl, _, _, rfl, rfl, .of_le (by omega) (by omega) (by omega) (by omega), fun t nt => ?_⟩
        have rg : rgV ((j * d % d ^ k : Nat) : Int) (((j * d % d ^ k : Nat) : Int) + (d : Int)) = ((List.range d).map fun c => j * d % d ^ k + c).map vN := rgV_nat (j * d % d ^ k) d
        rw [rg]
        have hL' := sameUpd (o := .tup (((List.range d).map fun c => j * d % d ^ k + c).map vN)) nt _ _ hL
        refine ⟨_, hL', ?_, fun b o e => ?_, as ++ [t], ?_, ?_⟩
        · rw [List.length_map, tp.1, List.length_take, wordRows_len]
          exact small1000 (by omega)
        · rw [upd_ne (ne_of_none e nL)]
          exact sameUpd nt _ _ (s3 b o e)
        · rw [upd_same, List.map_append]
          rfl
        · rw [List.take_add_one, wr]
          exact ((tp.same (sameUpd nt)).snoc (.of upd_same)).lst hL'
      · obtain ⟨s3, as, hL, tp⟩ := hP
        have tk : (wordRows d k).take ((List.range (d ^ k)).map fun p => vN (p * d % d ^ k)).length = wordRows d k := by
          rw [List.length_map, List.length_range, ← wordRows_len d k, List.take_length]
        rw [tk] at tp
        refine ⟨L, _, rfl, .inl ⟨.of hL, fun t nt => ?_⟩⟩
        have rt : RowsT K (upd H3 t (.tup (as.map V.ref))) t as (wordRows d k) := (tp.same (sameUpd nt)).rowsT (.of upd_same)
        refine fun x dx nx ndx nex => ?_
        have s4 : Same (upd H3 t (.tup (as.map V.ref))) (upd (upd (upd H3 t (.tup (as.map V.ref))) dx (.own x)) x (.ins C dx [])) := fun b o e => by
          rw [upd_ne (ne_of_none e nx), upd_ne (ne_of_none e ndx)]
          exact e
        refine ⟨x, dx, t, as, wordRows d k, rfl, upd_same, rt.same s4, wordRows_ok d1 k1 few, fun H' bt hx => ⟨rfl, q H' x (fun b o e => ?_) ?_ ⟨dx, t, as, .non, hx, ?_⟩⟩⟩
        · have e3 := sameUpd (o := .tup (as.map V.ref)) nt _ _ (s3 _ _ (sm _ _ e))
          exact bt _ _ (ne_of_none e3 nx) (s4 _ _ e3)
        · rcases hq : H x with _ | o
          · rfl
          · have := sameUpd (o := .tup (as.map V.ref)) nt _ _ (s3 _ _ (sm x o hq))
            rw [nx] at this
            cases this
        · exact rt.same fun b o e => bt _ _ (ne_of_none e nx) (s4 _ _ e)
theorem ok_allties {f fP fS fI C : Addr} {fd fdP fdS fdI : FuncData} (F : Fun K "all_ties" "all_ties" sAllTies f fd) (bP : Binds K fdP ["number"] []) (bS : Binds K fdS ["many"] []) (bI : Binds K fdI ["self", "rows"] [])
    (GP : FnOk P w K mg base CX0 2 fP fdP ["number"] spCkPos) (GS : FnOk P w K mg base CX0 1 fS fdS ["many"] spCkSize)
    (M : Mk K C fI) (GI : FnOk P w K mg base CX0 5 fI fdI ["self", "rows"] (spWInit K C))
    (gP : mg "_check_positive" = some (.ref fP)) (gS : mg "_check_size" = some (.ref fS)) (gW : mg "Web" = some (.ref C)) (kP : PySem.W.keepIn K (.ref fP) = true) (kS : PySem.W.keepIn K (.ref fS) = true)
    (mr : mg "range" = none) (mt : mg "tuple" = none) :
    FnOk P w K mg base CX0 7 f fd ["number"] (spAllTies K C) := by
  refine F.ok scAllTies (fun vs H Q E h => ?_) (fun cdv A outer s H vs Q E hr h => ?_)
  · obtain ⟨n, rfl, _⟩ := h
    rfl
  · obtain ⟨n, rfl, n1, few, q⟩ := h
    have hr2 := hr.mono (show 2 ≤ 6 by decide)
    have hr1 := hr.mono (show 1 ≤ 6 by decide)
    refine ⟨_, pss_cons (ps_expr (pe_call GP hr2 (by rfl) gP kP bP .nil pass0 (pa_cons (pv 0) pa_nil)))
      (pss_cons (ps_expr (pe_call GS hr1 (by rfl) gS kS bS .nil pass0 (pa_cons (pv 0) pa_nil)))
      (pss_one (ps_ret (pe_make M GI hr (by rfl) gW bI .nil pass0 (pa_cons (pe_op op_repN (pe_tup (pa_cons (pe_tupRg rfl (by rfl) mt (prg_1 (by rfl) mr (pv 0))) pa_nil)) (pv 0)) pa_nil))))), ?_⟩
    refine ⟨_, rfl, _, rfl, intOk_small (by omega) (by omega), by omega, _, rfl, _, rfl, by omega, ?_⟩
    refine ⟨_, rfl, _, rfl, .of_le (by omega) (by omega) (by omega) (by omega), fun t nt => ⟨(by show 1 ≤ sizeLine; decide), fun u nu => ?_⟩⟩
    have rg : rgV 0 (n : Int) = (List.range n).map vN := by
      have := rgV_nat 0 n
      rw [Nat.zero_add] at this
      rw [show ((0 : Nat) : Int) = 0 from rfl] at this
      rw [this]
      congr 1
      simp
    rw [rg] at nu ⊢
    have ht : SqT K (upd (upd H t (.tup ((List.range n).map vN))) u (.tup [.ref t])) t ((List.range n).map vN) := sqT_same (sameUpd nu) (.of upd_same)
    have fin : ∀ (H3 : Hp) (r : Addr), Same H H3 → SqT K H3 r ((List.replicate n t).map V.ref) → SqT K H3 t ((List.range n).map vN) →
        ∀ x dx, H3 x = none → H3 dx = none → dx ≠ x → spWInit K C [.ref x, .ref r] (upd (upd H3 dx (.own x)) x (.ins C dx [])) (fun v H2 => v = .non ∧ Q (.ref x) H2) E := by
      intro H3 r s3 hr3 ht3 x dx nx ndx nex
      have s4 : Same H3 (upd (upd H3 dx (.own x)) x (.ins C dx [])) := fun b o e => by
        rw [upd_ne (ne_of_none e nx), upd_ne (ne_of_none e ndx)]
        exact e
      have rt : RowsT K H3 r (List.replicate n t) (allRows n) := ⟨hr3, by rw [allRows, List.length_replicate, List.length_replicate], fun i a row h1 h2 => by
        obtain ⟨_, e1⟩ := List.mem_replicate.mp (List.mem_of_getElem? h1)
        obtain ⟨_, e2⟩ := List.mem_replicate.mp (List.mem_of_getElem? h2)
        rw [e1, e2]
        exact ht3⟩
      refine ⟨x, dx, r, _, allRows n, rfl, upd_same, rt.same s4, allRows_ok n1 few, fun H' bt hx => ⟨rfl, q H' x (fun b o e => ?_) ?_ ⟨dx, r, List.replicate n t, .non, hx, ?_⟩⟩⟩
      · have e3 := s3 _ _ e
        exact bt _ _ (ne_of_none e3 nx) (s4 _ _ e3)
      · rcases hq : H x with _ | o
        · rfl
        · have := s3 x o hq
          rw [nx] at this
          cases this
      · exact rt.same fun b o e => bt _ _ (ne_of_none e nx) (s4 _ _ e)
    have s2 : Same H (upd (upd H t (.tup ((List.range n).map vN))) u (.tup [.ref t])) := fun b o e => sameUpd nu _ _ (sameUpd nt _ _ e)
    refine ⟨_, rfl, u, (n : Int), [.ref t], rfl, rfl, .of upd_same, (fun z => by cases z), by omega, by omega, (by show 1 ≤ 1000; decide), fun e => ?_, fun e r nr => ?_⟩
    · have e1 : n = 1 := by omega
      subst e1
      exact fin _ u s2 (.of upd_same) ht
    · have fl : (List.replicate ((n : Nat) : Int).toNat [V.ref t]).flatten = (List.replicate n t).map V.ref := by
        rw [Int.toNat_natCast, List.flatten_replicate_singleton, List.map_replicate]
      rw [fl]
      exact fin _ r (s2.trans (sameUpd nr)) (.of upd_same) (sqT_same (sameUpd nr) ht)
end
end K09

set_option maxHeartbeats 16000000
namespace K09
open PySem PySem.Spec PyProof.Rows L2 GG
/-! ### _law_power, _law_word_rows -/
abbrev sPow : Stmt := topS 41
abbrev sWRowsL : Stmt := topS 42
theorem scPow : FnScope ["base", "number", "found", "turn"] ["base", "number"] (defScope sPow) := ⟨rfl, rfl, rfl, by decide +kernel, rfl, by decide +kernel, by decide +kernel⟩
theorem scWRowsL : FnScope ["degree", "depth", "total", "place", "figure"] ["degree", "depth"] (defScope sWRowsL) := ⟨rfl, rfl, rfl, by decide +kernel, rfl, by decide +kernel, by decide +kernel⟩
def spPow : Sp := fun vs H Q _ => ∃ (i : Int) (n : Nat), vs = [.int i, .int n] ∧ 1 ≤ i ∧ i < 2 ^ 64 ∧ n ≤ 100 ∧ Q (.int (i ^ n)) H
def spWRowsL (K : PySem.W.Frag) : Sp := fun vs H Q _ => ∃ d k : Nat, vs = [vN d, vN k] ∧ 1 ≤ d ∧ 1 ≤ k ∧ k ≤ 8 ∧ d ^ k ≤ 256 ∧ ∀ H' l as, Same H H' → H l = none → H' l = some (.lst (as.map V.ref)) → Tups K H' as (wordRows d k) → Q (.ref l) H'
theorem mod_fit {d k p c : Nat} (hk : 1 ≤ k) (hp : p < d ^ k) (hc : c < d) : (p * d + c) % d ^ k = p * d % d ^ k + c := by
  have h := word_fit hk hp hc
  have hc2 : c < d ^ k := by
    generalize p * d % d ^ k = x at h
    omega
  rw [Nat.add_mod, Nat.mod_eq_of_lt hc2]
  exact Nat.mod_eq_of_lt h
section
variable {P : Program} {w : World} {K : PySem.W.Frag} {mg : Str → Option Value} {base : Heap}
theorem ok_lpow {f : Addr} {fd : FuncData} {k : Nat} (F : Fun K "_law_power" "_law_power" sPow f fd) (mr : mg "range" = none) :
    FnOk P w K mg base CX0 (k + 1) f fd ["base", "number"] spPow := by
  refine F.ok scPow (fun vs H Q E h => ?_) (fun cdv A outer s H vs Q E hr h => ?_)
  · obtain ⟨i, n, rfl, _⟩ := h
    rfl
  · obtain ⟨i, n, rfl, h0, h1, hn, q⟩ := h
    refine ⟨_, pss_cons (ps_set (i := 2) scPow.nd rfl (.inl rfl) pe_int)
      (pss_cons (ps_for PassesOwn.never rfl (pi_range1 rfl mr (pa_cons (pv 1) pa_nil)) (pg_name (i := 3) scPow.nd rfl (.inl rfl))
        (pss_one (ps_set (i := 2) scPow.nd rfl (.inl rfl) (pe_op op_mulW (pv 2) (pv 0)))))
      (pss_one (ps_ret (pv 2)))), ?_⟩
    refine ⟨_, rfl, _, rfl, by omega, by omega, ?_⟩
    refine for_range (lo := 0) (n := ((n : Nat) : Int).toNat) (fun k σ H1 => ∃ y3, σ = [some (.int i), some (.int n), some (.int (i ^ k)), y3] ∧ H1 = H) ⟨none, by rw [Int.pow_zero]; rfl, rfl⟩
      (fun k σ H1 hk hP => ?_) (fun σ H1 hP => ?_)
    · obtain ⟨y3, rfl, rfl⟩ := hP
      have sz := pow_size h0 h1 (show k ≤ 100 by omega)
      exact ⟨_, rfl, _, rfl, _, _, rfl, rfl, wide_mul sz (show i.natAbs < 2 ^ 64 by omega) (by decide) (by decide) (by decide), some (.int (0 + k)), by rw [Int.pow_succ]; rfl, rfl⟩
    · obtain ⟨y3, rfl, rfl⟩ := hP
      rw [Int.toNat_natCast]
      exact ⟨_, rfl, q⟩
theorem ok_lwrows {f fP : Addr} {fd fdP : FuncData} (F : Fun K "_law_word_rows" "_law_word_rows" sWRowsL f fd) (bP : Binds K fdP ["base", "number"] [])
    (GP : FnOk P w K mg base CX0 1 fP fdP ["base", "number"] spPow) (gP : mg "_law_power" = some (.ref fP)) (kP : PySem.W.keepIn K (.ref fP) = true)
    (mr : mg "range" = none) (mt : mg "tuple" = none) (mso : mg "sorted" = none) :
    FnOk P w K mg base CX0 2 f fd ["degree", "depth"] (spWRowsL K) := by
  refine F.ok scWRowsL (fun vs H Q E h => ?_) (fun cdv A outer s H vs Q E hr h => ?_)
  · obtain ⟨d, k, rfl, _⟩ := h
    rfl
  · obtain ⟨d, k, rfl, d1, k1, k8, few, q⟩ := h
    have N := scWRowsL.nd
    refine ⟨_, pss_cons (ps_set (i := 2) N rfl (.inr rfl) (pe_call GP hr (by rfl) gP kP bP .nil pass0 (pa_cons (pv 0) (pa_cons (pv 1) pa_nil))))
      (pss_one (ps_ret (pe_lc (own := [("place", 3)]) (g := gName 3) (tt := tYes) rfl N (pi_range1 (by rfl) mr (pa_cons (pv 2) pa_nil))
          (blkOk_by (own := [("place", 3)]) (N := ["degree", "depth", "total", "place", "figure"]) (sc := defScope sWRowsL) (by decide +kernel))
          (fun _ _ _ _ _ => pg_name (i := 3) N rfl (Or.inr rfl)) (fun _ _ _ _ _ => pts_nil)
          (fun _ _ _ _ _ => pe_callTy (tupleK (K := K) rfl) (by rfl) mt (by decide +kernel) (pa_cons (pe_callB (sortedK (K := K) rfl) (by rfl) mso (by decide +kernel) (pa_cons
            (pe_lc (own := [("figure", 4)]) (g := gName 4) (tt := tYes) rfl N (pi_range1 (by rfl) mr (pa_cons (pv 0) pa_nil))
              (blkOk_by (own := [("figure", 4)]) (N := ["degree", "depth", "total", "place", "figure"]) (by kernel_rfl))
              (fun _ _ _ _ _ => pg_name (i := 4) N rfl (Or.inl rfl)) (fun _ _ _ _ _ => pts_nil)
              (fun _ _ _ _ _ => pe_op op_mod (pe_op op_add (pe_op op_mul (pv 3) (pv 0)) (pv 4)) (pv 2))) pa_nil)) pa_nil))))), ?_⟩
    have dk : 1 ≤ d ^ k := Nat.pow_pos d1
    have dd : d ≤ d ^ k := by
      calc d = d ^ 1 := (Nat.pow_one d).symm
        _ ≤ d ^ k := Nat.pow_le_pow_right d1 k1
    have pw : (d : Int) ^ k = ((d ^ k : Nat) : Int) := by rw [Int.natCast_pow]
    refine ⟨_, rfl, _, rfl, (d : Int), k, rfl, by omega, by omega, by omega, ?_⟩
    rw [pw]
    have hb : ((d ^ k : Nat) : Int) < 2 ^ 62 := by omega
    refine ⟨_, rfl, _, rfl, by omega, hb, fun D nD => ?_⟩
    refine lc_range (lo := 0) (n := ((d ^ k : Nat) : Int).toNat) (fun j H2 => Same H H2 ∧ ∃ as, H2 D = some (.lst (as.map V.ref)) ∧ Tups K H2 as ((wordRows d k).take j)) ⟨sameUpd nD, [], upd_same, .nil⟩ (fun j H2 hj hP => ?_) (fun H2 hP => ?_)
    · obtain ⟨sm, as, hD, tp⟩ := hP
      rw [Int.toNat_natCast] at hj
      refine ⟨rfl, _, rfl, _, rfl, by omega, by omega, fun D2 nD2 => ?_⟩
      refine lc_range (lo := 0) (n := ((d : Nat) : Int).toNat) (fun c H3 => Same H2 H3 ∧ H3 D2 = some (.lst ((List.range c).map fun c => vN ((j * d + c) % d ^ k)))) ⟨sameUpd nD2, upd_same⟩ (fun c H3 hc hP => ?_) (fun H3 hP => ?_)
      · obtain ⟨s3, hD2⟩ := hP
        rw [Int.toNat_natCast] at hc
        refine ⟨rfl, _, rfl, _, rfl, _, _, rfl, rfl, .inl ⟨by omega, by omega⟩, _, rfl, _, _, rfl, rfl, _, rfl, _, _, rfl, rfl, by omega, _, hD2, ?_, fun b o e => ?_, ?_⟩
        · rw [List.length_map, List.length_range]
          exact small1000 (by omega)
        · rw [upd_ne (ne_of_none e nD2)]
          exact s3 b o e
        · rw [upd_same, List.range_succ, List.map_append]
          have e : V.int (((0 + (j : Int)) * (d : Int) + (0 + (c : Int))) % ((d ^ k : Nat) : Int)) = vN ((j * d + c) % d ^ k) := by
            rw [Int.zero_add, Int.zero_add]
            rfl
          show some (HO.lst (_ ++ [V.int (((0 + (j : Int)) * (d : Int) + (0 + (c : Int))) % ((d ^ k : Nat) : Int))])) = _
          rw [e]
          rfl
      · obtain ⟨s3, hD2⟩ := hP
        rw [Int.toNat_natCast] at hD2
        have rw1 : ((List.range d).map fun c => vN ((j * d + c) % d ^ k)) = (((List.range d).map fun c => j * d % d ^ k + c).map fun x : Nat => (x : Int)).map V.int := by
          rw [← mapN, List.map_map]
          refine List.map_congr_left fun c hc => ?_
          rw [mod_fit k1 hj (List.mem_range.mp hc)]
          rfl
        rw [rw1] at hD2
        refine ⟨D2, _, rfl, .of hD2, fun ns' p pm so np => ?_⟩
        have es := sorted_nats pm so (range_asc _ _)
        subst es
        refine ⟨p, _, rfl, .inl ⟨.of upd_same, fun t nt => ?_⟩⟩
        have hD' := sameUpd (o := .tup ((((List.range d).map fun c => j * d % d ^ k + c).map fun x : Nat => (x : Int)).map V.int)) nt _ _ (sameUpd np _ _ (s3 _ _ hD))
        have wr : (wordRows d k)[j]? = some ((List.range d).map fun c => j * d % d ^ k + c) := by
          unfold wordRows
          rw [List.getElem?_map, List.getElem?_range hj]
          rfl
        have s5 : Same H2 (upd (upd H3 p (.lst ((((List.range d).map fun c => j * d % d ^ k + c).map fun x : Nat => (x : Int)).map V.int))) t (.tup ((((List.range d).map fun c => j * d % d ^ k + c).map fun x : Nat => (x : Int)).map V.int))) := fun b o e => sameUpd nt _ _ (sameUpd np _ _ (s3 b o e))
        refine ⟨_, hD', ?_, fun b o e => ?_, as ++ [t], ?_, ?_⟩
        · rw [List.length_map, tp.1, List.length_take, wordRows_len]
          exact small1000 (by omega)
        · rw [upd_ne (ne_of_none e nD)]
          exact s5 _ _ (sm b o e)
        · rw [upd_same, List.map_append]
          rfl
        · rw [List.take_add_one, wr]
          exact ((tp.same s5).snoc (.of (by rw [upd_same, mapN]))).lst hD'
    · obtain ⟨sm, as, hD, tp⟩ := hP
      rw [Int.toNat_natCast, ← wordRows_len d k, List.take_length] at tp
      exact q H2 D as sm nD hD tp
end
end K09

set_option maxHeartbeats 16000000
namespace K09
open PySem PySem.Spec PyProof.Rows L2 GG
/-! ### words of places, places of words; _law_word -/
abbrev sWordOf : Stmt := topS 32
abbrev sPlaceOf : Stmt := topS 33
abbrev sLWord : Stmt := topS 43
theorem scWordOf : FnScope ["degree", "depth", "place"] ["degree", "depth", "place"] (defScope sWordOf) := ⟨rfl, rfl, rfl, by decide +kernel, rfl, by decide +kernel, by decide +kernel⟩
theorem scPlaceOf : FnScope ["degree", "depth", "word"] ["degree", "depth", "word"] (defScope sPlaceOf) := ⟨rfl, rfl, rfl, by decide +kernel, rfl, by decide +kernel, by decide +kernel⟩
theorem scLWord : FnScope ["degree", "depth", "place", "found", "turn"] ["degree", "depth", "place"] (defScope sLWord) := ⟨rfl, rfl, rfl, by decide +kernel, rfl, by decide +kernel, by decide +kernel⟩
def figsN (d L n : Nat) : List Nat := ((List.range L).map fun j => n / d ^ j % d).reverse
theorem figs_cast (d L n : Nat) : figs (d : Int) L (n : Int) = (figsN d L n).map fun k : Nat => (k : Int) := by
  unfold figs figsN
  rw [List.map_reverse, List.map_map]
  refine congrArg List.reverse (List.map_congr_left fun j _ => ?_)
  show (n : Int) / (d : Int) ^ j % (d : Int) = ((n / d ^ j % d : Nat) : Int)
  rw [← Int.natCast_pow]
  rfl
theorem figsN_len (d L n : Nat) : (figsN d L n).length = L := by
  unfold figsN
  rw [List.length_reverse, List.length_map, List.length_range]
theorem figsN_lt {d L n x : Nat} (hd : 1 ≤ d) (h : x ∈ figsN d L n) : x < d := by
  unfold figsN at h
  obtain ⟨j, _, rfl⟩ := List.mem_map.mp (List.mem_reverse.mp h)
  exact Nat.mod_lt _ hd
theorem val_figs {i : Int} (hi : 1 ≤ i) : ∀ (L : Nat) (n : Int), 0 ≤ n → n < i ^ L → val i (figs i L n) = n
  | 0, n, h0, h1 => by
    rw [Int.pow_zero] at h1
    have : n = 0 := by omega
    subst this
    rfl
  | L + 1, n, h0, h1 => by
    have hq : n / i < i ^ L := by
      refine Int.ediv_lt_of_lt_mul (by omega) ?_
      rw [Int.pow_succ] at h1
      exact h1
    rw [figs_succ i hi, val_snoc, val_figs hi L (n / i) (Int.ediv_nonneg h0 (by omega)) hq]
    have := Int.mul_ediv_add_emod n i
    rw [Int.mul_comm] at this
    exact this
theorem fit0 {d k p : Nat} (h : p < d ^ k) : (p : Int) / (d : Int) ^ ((k : Nat) : Int).toNat = 0 := by
  rw [Int.toNat_natCast, ← Int.natCast_pow]
  exact Int.ediv_eq_zero_of_lt (by omega) (by omega)
def spWordOf : Sp := fun vs H Q _ => ∃ d k p : Nat, vs = [vN d, vN k, vN p] ∧ 1 ≤ d ∧ d ≤ 256 ∧ 1 ≤ k ∧ k ≤ 8 ∧ d ^ k ≤ 256 ∧ p < d ^ k ∧ ∀ H' t, Same H H' → H t = none → H' t = some (.tup ((figsN d k p).map vN)) → Q (.ref t) H'
def spPlaceOf (K : PySem.W.Frag) : Sp := fun vs H Q _ => ∃ (d k : Nat) (a : Addr) (fs : List Nat), vs = [vN d, vN k, .ref a] ∧ 1 ≤ d ∧ d ≤ 256 ∧ 1 ≤ k ∧ k ≤ 8 ∧ SqT K H a (fs.map vN) ∧ fs.length = k ∧ (∀ f ∈ fs, f < d) ∧
  ∀ H', Same H H' → Q (.int (val d (fs.map fun k : Nat => (k : Int)))) H'
def spLWord : Sp := fun vs H Q _ => ∃ d k p : Nat, vs = [vN d, vN k, vN p] ∧ 1 ≤ d ∧ d ≤ 256 ∧ k ≤ 8 ∧ ∀ H' t, Same H H' → H t = none → H' t = some (.tup ((figsN d k p).map vN)) → Q (.ref t) H'
section
variable {P : Program} {w : World} {K : PySem.W.Frag} {mg : Str → Option Value} {base : Heap}
theorem ok_wordof {f fC fF : Addr} {fd fdC fdF : FuncData} (F : Fun K "word_of" "word_of" sWordOf f fd) (bC : Binds K fdC ["degree", "depth"] []) (bF : Binds K fdF ["base", "length", "number"] [])
    (GC : FnOk P w K mg base CX0 4 fC fdC ["degree", "depth"] spCkWords) (GF : FnOk P w K mg base CX0 3 fF fdF ["base", "length", "number"] spFig)
    (gC : mg "_check_words" = some (.ref fC)) (gF : mg "figures_of" = some (.ref fF)) (kC : PySem.W.keepIn K (.ref fC) = true) (kF : PySem.W.keepIn K (.ref fF) = true) :
    FnOk P w K mg base CX0 5 f fd ["degree", "depth", "place"] spWordOf := by
  refine F.ok scWordOf (fun vs H Q E h => ?_) (fun cdv A outer s H vs Q E hr h => ?_)
  · obtain ⟨d, k, p, rfl, _⟩ := h
    rfl
  · obtain ⟨d, k, p, rfl, d1, d2, k1, k8, few, pl, q⟩ := h
    have hr3 := hr.mono (show 3 ≤ 4 by decide)
    refine ⟨_, pss_cons (ps_expr (pe_call GC hr (by rfl) gC kC bC .nil pass0 (pa_cons (pv 0) (pa_cons (pv 1) pa_nil))))
      (pss_one (ps_ret (pe_call GF hr3 (by rfl) gF kF bF .nil pass0 (pa_cons (pv 0) (pa_cons (pv 1) (pa_cons (pv 2) pa_nil)))))), ?_⟩
    refine ⟨_, rfl, _, rfl, (d : Int), (k : Int), rfl, intOk_small (by omega) (by omega), by omega, by omega, by omega, ?_⟩
    refine ⟨_, rfl, _, rfl, _, rfl, (d : Int), (k : Int), (p : Int), rfl, intOk_small (by omega) (by omega), by omega, by omega, by omega, intOk_small (by omega) (by omega), by omega, fit0 pl, fun H' t s1 nt ht => q H' t s1 nt ?_⟩
    rw [ht, Int.toNat_natCast, figs_cast, ← mapN]
theorem ok_placeof {f fC fN : Addr} {fd fdC fdN : FuncData} (F : Fun K "place_of" "place_of" sPlaceOf f fd) (bC : Binds K fdC ["degree", "depth"] []) (bN : Binds K fdN ["base", "figures"] [])
    (GC : FnOk P w K mg base CX0 4 fC fdC ["degree", "depth"] spCkWords) (GN : FnOk P w K mg base CX0 4 fN fdN ["base", "figures"] (spNum K))
    (gC : mg "_check_words" = some (.ref fC)) (gN : mg "number_of" = some (.ref fN)) (kC : PySem.W.keepIn K (.ref fC) = true) (kN : PySem.W.keepIn K (.ref fN) = true)
    (ms : mg "isinstance" = none) (mt : mg "tuple" = none) (ml : mg "len" = none) :
    FnOk P w K mg base CX0 5 f fd ["degree", "depth", "word"] (spPlaceOf K) := by
  refine F.ok scPlaceOf (fun vs H Q E h => ?_) (fun cdv A outer s H vs Q E hr h => ?_)
  · obtain ⟨d, k, a, fs, rfl, _⟩ := h
    rfl
  · obtain ⟨d, k, a, fs, rfl, d1, d2, k1, k8, ha, hl, hf, q⟩ := h
    refine ⟨_, pss_cons (ps_expr (pe_call GC hr (by rfl) gC kC bC .nil pass0 (pa_cons (pv 0) (pa_cons (pv 1) pa_nil))))
      (pss_cons (ps_if (PW.pt (pw_or (pt_not (pt_val (pe_callB call_isi (by rfl) ms (by decide +kernel) (pa_cons (pv 2) (pa_cons (pe_bltn (v := .ty "tuple") (by rfl) mt (by decide +kernel) rfl) pa_nil)))))
        (pw_or1 (pt_cmpR op_ne (pe_callB call_len_seq (by rfl) ml PySem.boot_len (pa_cons (pv 2) pa_nil)) (pv 1) (nomark _))))) (pss_one ps_never) pss_nil)
      (pss_one (ps_ret (pe_call GN hr (by rfl) gN kN bN .nil pass0 (pa_cons (pv 0) (pa_cons (pv 2) pa_nil)))))), ?_⟩
    refine ⟨_, rfl, _, rfl, (d : Int), (k : Int), rfl, intOk_small (by omega) (by omega), by omega, by omega, by omega, ?_⟩
    refine ⟨_, rfl, _, _, _, _, true, rfl, .ty _, sqT_ty ha, kit_ty (by decide +kernel), true, rfl, iteF ?_⟩
    refine ⟨_, rfl, a, _, rfl, .inr ha, _, rfl, rfl, _, rfl, iteFo (neI ?_) ?_⟩
    · rw [List.length_map, hl]
    rw [mapN] at ha
    refine ⟨_, rfl, _, rfl, (d : Int), a, _, rfl, intOk_small (by omega) (by omega), by omega, by omega, ha, by rw [List.length_map]; omega, fun g hg => ?_, fun H' s1 => q H' s1⟩
    obtain ⟨x, hx, rfl⟩ := List.mem_map.mp hg
    have := hf x hx
    omega
theorem ok_lword {f : Addr} {fd : FuncData} {j : Nat} (F : Fun K "_law_word" "_law_word" sLWord f fd) (mr : mg "range" = none) (mt : mg "tuple" = none) :
    FnOk P w K mg base CX0 (j + 1) f fd ["degree", "depth", "place"] spLWord := by
  refine F.ok scLWord (fun vs H Q E h => ?_) (fun cdv A outer s H vs Q E hr h => ?_)
  · obtain ⟨d, k, p, rfl, _⟩ := h
    rfl
  · obtain ⟨d, k, p, rfl, d1, d2, k8, q⟩ := h
    have N := scLWord.nd
    refine ⟨_, pss_cons (ps_set (i := 3) N rfl (.inl rfl) (pe_lst pa_nil))
      (pss_cons (ps_for PassesOwn.never rfl (pi_range1 rfl mr (pa_cons (pv 1) pa_nil)) (pg_name (i := 4) N rfl (.inl rfl))
        (pss_cons (ps_expr (pe_bm PySem.F.plainAttrs_list PySem.F.slot_list_append PySem.F.type_list_append mt_append (pv 3) (pa_cons (pe_op op_mod (pv 2) (pv 0)) pa_nil)))
        (pss_one (ps_set (i := 2) N rfl (.inl rfl) (pe_op op_fdiv (pv 2) (pv 0))))))
      (pss_one (ps_ret (pe_callTy call_tuple_of (by rfl) mt (by decide +kernel) (pa_cons (pe_revL (pv 3)) pa_nil))))), ?_⟩
    refine ⟨by decide, fun l nl => ⟨_, rfl, (k : Int), rfl, by omega, by omega, ?_⟩⟩
    refine for_range (lo := 0) (n := ((k : Nat) : Int).toNat) (fun i σ H1 => ∃ y4, σ = [some (vN d), some (vN k), some (vN (p / d ^ i)), some (.ref l), y4] ∧ Same H H1 ∧ H1 l = some (.lst ((List.range i).map fun j => vN (p / d ^ j % d))))
      ⟨none, by rw [Nat.pow_zero, Nat.div_one]; rfl, sameUpd nl, upd_same⟩ (fun i σ H1 hi hP => ?_) (fun σ H1 hP => ?_)
    · obtain ⟨y4, rfl, sm, hp⟩ := hP
      rw [Int.toNat_natCast] at hi
      refine ⟨.ref l, rfl, .inl ⟨rfl, _, .inl (.inl hp)⟩, _, rfl, _, rfl, _, _, rfl, rfl, (by omega), l, _, _, rfl, rfl, hp, ?_, ?_⟩
      · rw [List.length_map, List.length_range]
        exact small1000 (by omega)
      · refine ⟨_, rfl, _, rfl, _, _, rfl, rfl, ⟨by omega, by omega⟩, some (.int (0 + i)), ?_, ?_, ?_⟩
        · rw [Nat.pow_succ, ← Nat.div_div_eq_div_mul]
          rfl
        · exact fun b o e => by
            rw [upd_ne (ne_of_none e nl)]
            exact sm b o e
        · rw [upd_same, List.range_succ, List.map_append]
          rfl
    · obtain ⟨y4, rfl, sm, hp⟩ := hP
      rw [Int.toNat_natCast] at hp
      refine ⟨.ref l, rfl, l, _, rfl, .of hp, fun r nr => ?_⟩
      refine ⟨r, _, rfl, .inl ⟨.of upd_same, fun t nt => ?_⟩⟩
      refine q _ t (sm.trans ((sameUpd nr).trans (sameUpd nt))) ?_ ?_
      · exact (sm.trans (sameUpd nr)).free nt
      · rw [upd_same]
        unfold figsN
        rw [List.map_reverse, List.map_map]
        rfl
end
end K09

set_option maxHeartbeats 16000000
namespace K09
open PySem PySem.Spec PyProof.Rows L2 GG
/-! ### k09: _law_right -/
abbrev sRight : Stmt := topS 44
theorem scRight : FnScope ["degree", "depth", "web", "place", "word", "end", "figure"] ["degree", "depth"] (defScope sRight) := ⟨rfl, rfl, rfl, by decide +kernel, rfl, by decide +kernel, by decide +kernel⟩
theorem figsN_succ (d L n : Nat) : figsN d (L + 1) n = figsN d L (n / d) ++ [n % d] := by
  unfold figsN
  rw [List.range_succ_eq_map, List.map_cons, List.reverse_cons, List.map_map, Nat.pow_zero, Nat.div_one]
  congr 2
  refine List.map_congr_left fun j _ => ?_
  show n / d ^ (j + 1) % d = n / d / d ^ j % d
  rw [Nat.pow_succ', Nat.div_div_eq_div_mul]
theorem figsN_cons (d L n : Nat) : figsN d (L + 1) n = (n / d ^ L % d) :: figsN d L n := by
  unfold figsN
  rw [List.range_succ, List.map_append, List.reverse_append]
  rfl
theorem figsN_mod {d : Nat} (hd : 1 ≤ d) (L n : Nat) : figsN d L (n % d ^ L) = figsN d L n := by
  unfold figsN
  congr 1
  refine List.map_congr_left fun j hj => ?_
  have hj := List.mem_range.mp hj
  obtain ⟨m, rfl⟩ : ∃ m, L = j + (m + 1) := ⟨L - j - 1, by omega⟩
  rw [Nat.pow_add, Nat.mod_mul_right_div_self, Nat.pow_succ]
  exact Nat.mod_mod_of_dvd _ (Nat.dvd_mul_left d (d ^ m))
/-- the word of a place next to another one -/
theorem figs_next {d k p c : Nat} (hk : 1 ≤ k) (hc : c < d) : figsN d k (p * d % d ^ k + c) = (figsN d k p).drop 1 ++ [c] := by
  obtain ⟨m, rfl⟩ : ∃ m, k = m + 1 := ⟨k - 1, by omega⟩
  have d1 : 1 ≤ d := by omega
  rw [figsN_cons d m p, List.drop_one, List.tail_cons, figsN_succ, Nat.pow_succ, Nat.mul_mod_mul_right]
  have e1 : (p % d ^ m * d + c) / d = p % d ^ m := by
    rw [Nat.mul_comm, Nat.mul_add_div (by omega), Nat.div_eq_of_lt hc, Nat.add_zero]
  have e2 : (p % d ^ m * d + c) % d = c := by
    rw [Nat.mul_comm, Nat.mul_add_mod, Nat.mod_eq_of_lt hc]
  rw [e1, e2, figsN_mod d1]
def spRight : Sp := fun vs H Q _ => ∃ d k : Nat, vs = [vN d, vN k] ∧ 1 ≤ d ∧ 1 ≤ k ∧ k ≤ 8 ∧ d ^ k ≤ 256 ∧ ∀ H', Same H H' → Q (.bl true) H'
section
variable {P : Program} {w : World} {K : PySem.W.Frag} {mg : Str → Option Value} {base : Heap}
theorem ok_right {f fW fL fO fQ fU fR fN fG C pR : Addr} {fd fdW fdL fdO fdQ fdU fdR fdN fdG : FuncData} (F : Fun K "_law_right" "_law_right" sRight f fd) (W : WebC K C)
    (bW : Binds K fdW ["degree", "depth"] []) (bL : Binds K fdL ["degree", "depth"] []) (bO : Binds K fdO ["degree", "depth", "place"] []) (bQ : Binds K fdQ ["degree", "depth", "word"] []) (bU : Binds K fdU ["degree", "depth", "place"] [])
    (bR : Binds K fdR ["self"] []) (bN : Binds K fdN ["self"] []) (bG : Binds K fdG ["self", "place"] [])
    (GWW : FnOk P w K mg base CX0 7 fW fdW ["degree", "depth"] (spWordWeb K C)) (GLR : FnOk P w K mg base CX0 2 fL fdL ["degree", "depth"] (spWRowsL K)) (GWO : FnOk P w K mg base CX0 5 fO fdO ["degree", "depth", "place"] spWordOf)
    (GPO : FnOk P w K mg base CX0 5 fQ fdQ ["degree", "depth", "word"] (spPlaceOf K)) (GLW : FnOk P w K mg base CX0 1 fU fdU ["degree", "depth", "place"] spLWord)
    (GR : FnOk P w K mg base CX0 1 fR fdR ["self"] (spWRows K C)) (GN : FnOk P w K mg base CX0 1 fN fdN ["self"] (spWLen K C)) (GG' : FnOk P w K mg base CX0 5 fG fdG ["self", "place"] (spWGet K C))
    (pR' : PropOf K C "rows" pR fR) (mN : Meth K C "__len__" fN) (mG : Meth K C "__getitem__" fG) (fnG : PySem.W.fnIn K fG = true)
    (gW : mg "word_web" = some (.ref fW)) (gL : mg "_law_word_rows" = some (.ref fL)) (gO : mg "word_of" = some (.ref fO)) (gQ : mg "place_of" = some (.ref fQ)) (gU : mg "_law_word" = some (.ref fU))
    (kW : PySem.W.keepIn K (.ref fW) = true) (kL : PySem.W.keepIn K (.ref fL) = true) (kO : PySem.W.keepIn K (.ref fO) = true) (kQ : PySem.W.keepIn K (.ref fQ) = true) (kU : PySem.W.keepIn K (.ref fU) = true)
    (mr : mg "range" = none) (mli : mg "list" = none) (ml : mg "len" = none) :
    FnOk P w K mg base CX0 8 f fd ["degree", "depth"] spRight := by
  refine F.ok scRight (fun vs H Q E h => ?_) (fun cdv A outer s H vs Q E hr h => ?_)
  · obtain ⟨d, k, rfl, _⟩ := h
    rfl
  · obtain ⟨d, k, rfl, d1, k1, k8, few, q⟩ := h
    have hr5 := hr.mono (show 5 ≤ 7 by decide)
    have hr6 := hr.mono (show 6 ≤ 7 by decide)
    have hr2 := hr.mono (show 2 ≤ 7 by decide)
    have hr1 := hr.mono (show 1 ≤ 7 by decide)
    have un := hr.units
    have N := scRight.nd
    refine ⟨_, pss_cons (ps_set (i := 2) N rfl (.inl rfl) (pe_call GWW hr (by rfl) gW kW bW .nil pass0 (pa_cons (pv 0) (pa_cons (pv 1) pa_nil))))
      (pss_cons (ps_if (pt_cmpR (op_neD un) (pe_callTy call_list_of (by rfl) mli (by decide +kernel) (pa_cons (pe_prop (pv 2) W.c pR' GR hr2 bR .nil pass0 rfl) pa_nil))
          (pe_call GLR hr2 (by rfl) gL kL bL .nil pass0 (pa_cons (pv 0) (pa_cons (pv 1) pa_nil))) (nomark _)) (pss_one (ps_ret pe_bl)) pss_nil)
      (pss_cons (ps_for PassesOwn.never rfl (pi_range1 (by rfl) mr (pa_cons (pe_callB (call_lenO mN GN hr2 bN pass0) (by rfl) ml (by decide +kernel) (pa_cons (pv 2) pa_nil)) pa_nil)) (pg_name (i := 3) N rfl (.inl rfl))
        (pss_cons (ps_set (i := 4) N rfl (.inr rfl) (pe_call GLW hr1 (by rfl) gU kU bU .nil pass0 (pa_cons (pv 0) (pa_cons (pv 1) (pa_cons (pv 3) pa_nil)))))
        (pss_cons (ps_if (PW.pt (pw_or (pt_cmpR (op_neD un) (pe_call GWO hr5 (by rfl) gO kO bO .nil pass0 (pa_cons (pv 0) (pa_cons (pv 1) (pa_cons (pv 3) pa_nil)))) (pv 4) (nomark _))
            (pw_or1 (pt_cmpR op_ne (pe_call GPO hr5 (by rfl) gQ kQ bQ .nil pass0 (pa_cons (pv 0) (pa_cons (pv 1) (pa_cons (pv 4) pa_nil)))) (pv 3) (nomark _))))) (pss_one (ps_ret pe_bl)) pss_nil)
        (pss_one (ps_if (pt_cmpR (op_neD un)
            (pe_lc (own := [("end", 5)]) (g := gName 5) (tt := tYes) rfl N (pi_tup (pe_ixO mG fnG GG' hr6 bG pass0 (pv 2) (pv 3)))
              (blkOk_by (own := [("end", 5)]) (N := ["degree", "depth", "web", "place", "word", "end", "figure"]) (sc := defScope sRight) (by decide +kernel))
              (fun _ _ _ _ _ => pg_name (i := 5) N rfl (Or.inl rfl)) (fun _ _ _ _ _ => pts_nil)
              (fun _ _ _ _ _ => pe_call GWO hr5 (by rfl) gO kO bO .nil pass0 (pa_cons (pv 0) (pa_cons (pv 1) (pa_cons (pv 5) pa_nil)))))
            (pe_lc (own := [("figure", 6)]) (g := gName 6) (tt := tYes) rfl N (pi_range1 (by rfl) mr (pa_cons (pv 0) pa_nil))
              (blkOk_by (own := [("figure", 6)]) (N := ["degree", "depth", "web", "place", "word", "end", "figure"]) (sc := defScope sRight) (by decide +kernel))
              (fun _ _ _ _ _ => pg_name (i := 6) N rfl (Or.inl rfl)) (fun _ _ _ _ _ => pts_nil)
              (fun _ _ _ _ _ => pe_op (catK (K := K) rfl) (pe_slice (slK (K := K) rfl) (pv 4) (po_some pe_int) po_none) (pe_tup (pa_cons (pv 6) pa_nil)))) (nomark _))
          (pss_one (ps_ret pe_bl)) pss_nil)))))
      (pss_one (ps_ret pe_bl)))), ?_⟩
    have dk : 1 ≤ d ^ k := Nat.pow_pos d1
    have dd : d ≤ d ^ k := by
      calc d = d ^ 1 := (Nat.pow_one d).symm
        _ ≤ d ^ k := Nat.pow_le_pow_right d1 k1
    have d2 : d ≤ 256 := by omega
    have wl := wordRows_len d k
    refine ⟨_, rfl, _, rfl, d, k, rfl, d1, k1, k8, few, fun H1 w1 s1 nw wa => ?_⟩
    obtain ⟨dx, r, as, ld, hw, hrw⟩ := id wa
    refine ⟨_, rfl, w1, dx, _, rfl, hw, w1, dx, r, ld, rfl, hw, r, _, rfl, .inr hrw.seq, fun l nl => ?_⟩
    refine ⟨_, rfl, _, rfl, d, k, rfl, d1, k1, k8, few, fun H2 l2 as2 s2 nl2 hl2 tp2 => ?_⟩
    have s12 : Same H1 H2 := fun b o e => s2 _ _ (sameUpd nl _ _ e)
    refine ⟨_, _, RowsL.dp ((hrw.tups.same s12).rowsL (.of (s2 _ _ upd_same))), RowsL.dp (tp2.rowsL (.of hl2)), (tupsD_shaped _).2, (tupsD_shaped _).2, _, rfl, iteFo ?_ ?_⟩
    · rw [PyData.eqv, tupsD_eqv, decide_eq_true rfl]
      rfl
    have wa2 := wa.same s12
    have hw2 := s12 _ _ hw
    have lb : (0 : Int) ≤ ((wordRows d k).length : Int) ∧ ((wordRows d k).length : Int) < 2 ^ 62 := by omega
    refine ⟨_, rfl, w1, dx, _, rfl, hw2, w1, wordRows d k, rfl, wa2, _, rfl, ⟨lb.1, by omega⟩, _, rfl, by omega, lb.2, ?_⟩
    refine for_range (lo := 0) (n := ((wordRows d k).length : Int).toNat) (fun i σ H3 => ∃ y3 y4, σ = [some (vN d), some (vN k), some (.ref w1), y3, y4, none, none] ∧ Same H2 H3) ⟨_, _, rfl, .refl H2⟩ (fun i σ H3 hi hP => ?_) (fun σ H3 hP => ?_)
    · obtain ⟨y3, y4, rfl, s3⟩ := hP
      rw [Int.toNat_natCast, wl] at hi
      rw [Int.zero_add]
      have il : i < as.length := by
        have := hrw.len
        omega
      refine ⟨_, rfl, _, rfl, _, rfl, d, k, i, rfl, d1, d2, k8, fun H4 t s4 nt ht => ?_⟩
      refine ⟨_, rfl, _, rfl, _, rfl, d, k, i, rfl, d1, d2, k1, k8, few, hi, fun H5 t2 s5 nt2 ht2 => ?_⟩
      have ht5 := s5 _ _ ht
      refine ⟨_, rfl, _, _, natsD_dp (.of ht2), natsD_dp (.of ht5), natsD_shaped _, natsD_shaped _, _, rfl, iteFo ?_ ?_⟩
      · rw [natsD_eqv, decide_eq_true rfl]
        rfl
      refine ⟨_, rfl, _, rfl, _, rfl, d, k, t, figsN d k i, rfl, d1, d2, k1, k8, .of ht5, figsN_len _ _ _, fun f hf => figsN_lt d1 hf, fun H6 s6 => ?_⟩
      have ev : val (d : Int) ((figsN d k i).map fun k : Nat => (k : Int)) = (i : Int) := by
        rw [← figs_cast]
        refine val_figs (by omega) k i (by omega) ?_
        rw [← Int.natCast_pow]
        omega
      refine ⟨_, rfl, rfl, _, rfl, iteFo (neI ev) ?_⟩
      have s26 : Same H2 H6 := ((s3.trans s4).trans s5).trans s6
      have hw6 := s26 _ _ hw2
      have hrw6 := hrw.same (s12.trans s26)
      have ht6 := s6 _ _ ht5
      have ha : as[i]? = some as[i] := List.getElem?_eq_getElem il
      have wr : (wordRows d k)[i]? = some ((List.range d).map fun c => i * d % d ^ k + c) := by
        unfold wordRows
        rw [List.getElem?_map, List.getElem?_range hi]
        rfl
      have sqr := hrw6.row i _ _ ha wr
      refine ⟨_, rfl, _, rfl, w1, dx, _, rfl, hw6, w1, dx, r, as, ld, wordRows d k, i, as[i], rfl, hw6, hrw6, by omega, ha, as[i], rfl, ⟨_, sqr⟩, fun D nD => ?_⟩
      refine lc_tup (a := as[i]) (xs := ((List.range d).map fun c => i * d % d ^ k + c).map vN) (fun c H7 => Same H6 H7 ∧ ∃ bs, H7 D = some (.lst (bs.map V.ref)) ∧ Tups K H7 bs ((((List.range d).map fun c => i * d % d ^ k + c).map (figsN d k)).take c)) ⟨sameUpd nD, [], upd_same, .nil⟩
        (fun c H7 _ hP => sqT_same hP.1 sqr) (fun c v H7 hv hP => ?_) (fun H7 hP => ?_)
      · obtain ⟨s7, bs, hD, tp⟩ := hP
        rw [List.getElem?_map] at hv
        obtain ⟨x, hx, rfl⟩ := Option.map_eq_some_iff.mp hv
        obtain ⟨cl, _⟩ := List.getElem?_eq_some_iff.mp hx
        rw [List.length_map, List.length_range] at cl
        have xl : x < d ^ k := by
          obtain ⟨c', hc', rfl⟩ := List.mem_map.mp (List.mem_of_getElem? hx)
          exact word_fit k1 hi (List.mem_range.mp hc')
        refine ⟨rfl, _, rfl, _, rfl, _, rfl, d, k, x, rfl, d1, d2, k1, k8, few, xl, fun H8 t8 s8 nt8 ht8 => ?_⟩
        have hD8 := s8 _ _ hD
        refine ⟨_, hD8, ?_, fun b o e => ?_, bs ++ [t8], ?_, ?_⟩
        · rw [List.length_map, tp.1, List.length_take, List.length_map, List.length_map, List.length_range]
          exact small1000 (by omega)
        · rw [upd_ne (ne_of_none e nD)]
          exact s8 _ _ (s7 b o e)
        · rw [upd_same, List.map_append]
          rfl
        · rw [List.take_add_one, List.getElem?_map, hx]
          exact ((tp.same s8).snoc (.of ht8)).lst hD8
      · obtain ⟨s7, bs, hD, tp⟩ := hP
        rw [List.length_map, List.take_of_length_le (by rw [List.length_map]; exact Nat.le_refl _)] at tp
        refine ⟨_, rfl, _, rfl, by omega, by omega, fun D2 nD2 => ?_⟩
        refine lc_range (lo := 0) (n := ((d : Nat) : Int).toNat) (fun c H9 => Same H7 H9 ∧ ∃ cs, H9 D2 = some (.lst (cs.map V.ref)) ∧ Tups K H9 cs ((List.range c).map fun c => (figsN d k i).drop 1 ++ [c])) ⟨sameUpd nD2, [], upd_same, .nil⟩ (fun c H9 hc hP => ?_) (fun H9 hP => ?_)
        · obtain ⟨s9, cs, hD2, tp2⟩ := hP
          rw [Int.toNat_natCast] at hc
          rw [Int.zero_add]
          refine ⟨rfl, .ref t, rfl, 1, rfl, t, _, rfl, .of (s9 _ _ (s7 _ _ ht6)), fun r2 H10 s10 sq10 => ?_⟩
          refine ⟨_, rfl, (by show 1 ≤ sizeLine; decide), fun u nu => ?_⟩
          rw [cutV_from1] at sq10
          refine ⟨r2, u, _, _, rfl, rfl, sqT_same (sameUpd nu) sq10, .of upd_same, ?_, fun r3 H11 s11 sq11 => ?_⟩
          · rw [List.length_drop, List.length_map, figsN_len, sizeLine_eq]
            show k - 1 + 1 ≤ _
            omega
          have s911 : Same H9 H11 := fun b o e => s11 _ _ (sameUpd nu _ _ (s10 b o e))
          have hD211 := s911 _ _ hD2
          refine ⟨_, hD211, ?_, fun b o e => ?_, cs ++ [r3], ?_, ?_⟩
          · rw [List.length_map, tp2.1, List.length_map, List.length_range]
            exact small1000 (by omega)
          · rw [upd_ne (ne_of_none e nD2)]
            exact s911 _ _ (s9 b o e)
          · rw [upd_same, List.map_append]
            rfl
          · rw [List.range_succ, List.map_append]
            refine ((tp2.same s911).snoc ?_).lst hD211
            rw [List.map_append, List.map_drop]
            exact sq11
        · obtain ⟨s9, cs, hD2, tp2⟩ := hP
          rw [Int.toNat_natCast] at tp2
          have er : ((List.range d).map fun c => i * d % d ^ k + c).map (figsN d k) = (List.range d).map fun c => (figsN d k i).drop 1 ++ [c] := by
            rw [List.map_map]
            refine List.map_congr_left fun c hc => ?_
            exact figs_next k1 (List.mem_range.mp hc)
          rw [er] at tp
          refine ⟨_, _, RowsL.dp ((tp.same s9).rowsL (.of (s9 _ _ hD))), RowsL.dp (tp2.rowsL (.of hD2)), (tupsD_shaped _).2, (tupsD_shaped _).2, _, rfl, iteFo ?_ ?_⟩
          · rw [PyData.eqv, tupsD_eqv, decide_eq_true rfl]
            rfl
          exact ⟨_, _, rfl, (s26.trans s7).trans s9⟩
    · obtain ⟨y3, y4, rfl, s3⟩ := hP
      exact q _ ((s1.trans s12).trans s3)
end
end K09

set_option maxHeartbeats 16000000
namespace K09
open PySem PySem.Spec PyProof.Rows L2 GG
/-! ### k09: law -/
abbrev sLaw : Stmt := topS 45
theorem scLaw : FnScope ["script", "kinds", "spot", "dice", "degree", "most", "depth", "number", "told"] ["script"] (defScope sLaw) := ⟨rfl, rfl, rfl, by decide +kernel, rfl, by decide +kernel, by decide +kernel⟩
def spLaw (K : PySem.W.Frag) : Sp := fun vs H Q _ => ∃ (a : Addr) (ns : List Int), vs = [.ref a] ∧ SqL K H a (ns.map V.int) ∧ ns.length ≤ 63 ∧ ∀ H', Q (.bl true) H'
def kindsN : List (Nat × Nat) := [(2, 8), (3, 5), (4, 4), (6, 3), (16, 2), (256, 1), (1, 8), (2, 1), (5, 2), (3, 4)]
theorem kinds_ok : ∀ p ∈ kindsN, 1 ≤ p.1 ∧ p.1 ≤ 256 ∧ 1 ≤ p.2 ∧ p.2 ≤ 8 := by decide
def KindsAt (H : Hp) (l : Addr) : Prop := ∃ as : List Addr, H l = some (.lst (as.map V.ref)) ∧ as.length = 10 ∧ ∀ a ∈ as, ∃ p ∈ kindsN, H a = some (.tup [vN p.1, vN p.2])
theorem KindsAt.but {H H' : Hp} {l p : Addr} (h : KindsAt H l) (n : l ≠ p) (d : Dice H p) (b : But p H H') : KindsAt H' l := by
  obtain ⟨as, hl, la, ha⟩ := h
  obtain ⟨x, y, z, hp, _⟩ := d
  refine ⟨as, b _ _ n hl, la, fun a m => ?_⟩
  obtain ⟨q, hq, h⟩ := ha a m
  exact ⟨q, hq, b _ _ (fun e => by rw [e, hp] at h; cases h) h⟩
theorem KindsAt.same {H H' : Hp} {l : Addr} (h : KindsAt H l) (s : Same H H') : KindsAt H' l := by
  obtain ⟨as, hl, la, ha⟩ := h
  refine ⟨as, s _ _ hl, la, fun a m => ?_⟩
  obtain ⟨q, hq, h⟩ := ha a m
  exact ⟨q, hq, s _ _ h⟩
theorem seqL_but {H0 H H' : Hp} {K : PySem.W.Frag} {a p : Addr} {xs : List V} (e : But p H H') (n : H0 p = none) (s : Same H0 H) (h : SqL K H0 a xs) : SqL K H' a xs := by
  rcases h with (h | ⟨o, h⟩) | h
  · exact .inl (.inl (e _ _ (ne_of_none h n) (s _ _ h)))
  · exact .inl (.inr ⟨o, e _ _ (ne_of_none h n) (s _ _ h)⟩)
  · exact .inr h
theorem two_ways {c : Bool} {H4 : Hp} {G : Hp → Prop} {B : Prop} (hB : (∀ H5, Same H4 H5 → G H5) → c = true → B) (rest : ∀ H5, Same H4 H5 → G H5) : if c = true then B else G H4 := by
  cases c
  · exact rest H4 (.refl H4)
  · exact hB rest rfl
theorem rng_6 (L : Int) : -(2 ^ 62) ≤ (if (if L < 6 then L else 6) > 1 then (if L < 6 then L else 6) else 1) ∧ (if (if L < 6 then L else 6) > 1 then (if L < 6 then L else 6) else 1) < 2 ^ 62 ∧
    (if (if L < 6 then L else 6) > 1 then (if L < 6 then L else 6) else 1).toNat ≤ 6 := by
  refine ⟨?_, ?_, ?_⟩ <;> (repeat' split) <;> omega
abbrev lastD : PyData := .list [.int 256, .int 256, .tuple [.int 1, .int 1, .int 0], .int 5, .int 256, .int 1]
theorem lastE : SeqAt.shaped lastD = true ∧ PyData.eqv lastD lastD = true := by decide +kernel
section
variable {P : Program} {w : World} {K : PySem.W.Frag} {mg : Str → Option Value} {base : Heap}
theorem ok_law {f fD fR fK fP fG fA fW fO fQ fT fN fE C pR : Addr} {fd fdD fdR fdK fdP fdG fdA fdW fdO fdQ fdT fdN fdE : FuncData} {tM : Tok} (F : Fun K "law" "law" sLaw f fd) (W : WebC K C)
    (bD : Binds K fdD ["script", "spot"] []) (bR : Binds K fdR ["dice", "total"] []) (bK : Binds K fdK ["dice", "items"] []) (bP : Binds K fdP ["base", "number"] []) (bG : Binds K fdG ["degree", "depth"] []) (bA : Binds K fdA ["number"] [])
    (bW : Binds K fdW ["degree", "depth"] []) (bO : Binds K fdO ["degree", "depth", "place"] []) (bQ : Binds K fdQ ["degree", "depth", "word"] []) (bT : Binds K fdT ["self"] []) (bN : Binds K fdN ["self"] []) (bE : Binds K fdE ["self", "value"] [])
    (GD : FnOk P w K mg base CX0 1 fD fdD ["script", "spot"] (spDice K)) (GR : FnOk P w K mg base CX0 1 fR fdR ["dice", "total"] spRoll) (GK : FnOk P w K mg base CX0 2 fK fdK ["dice", "items"] (spPick K))
    (GP : FnOk P w K mg base CX0 1 fP fdP ["base", "number"] spPow) (GG' : FnOk P w K mg base CX0 8 fG fdG ["degree", "depth"] spRight) (GA : FnOk P w K mg base CX0 7 fA fdA ["number"] (spAllTies K C))
    (GW : FnOk P w K mg base CX0 7 fW fdW ["degree", "depth"] (spWordWeb K C)) (GO : FnOk P w K mg base CX0 5 fO fdO ["degree", "depth", "place"] spWordOf) (GQ : FnOk P w K mg base CX0 5 fQ fdQ ["degree", "depth", "word"] (spPlaceOf K))
    (GT : FnOk P w K mg base CX0 1 fT fdT ["self"] (spWRows K C)) (GN : FnOk P w K mg base CX0 1 fN fdN ["self"] (spWLen K C)) (GE : FnOk P w K mg base CX0 1 fE fdE ["self", "value"] (spWEq K C))
    (pR' : PropOf K C "rows" pR fT) (mN : Meth K C "__len__" fN) (mE : Meth K C "__eq__" fE) (hne : PySem.W.findIn K (.ref C) "__ne__" = some (some (.builtin "object.__ne__"))) (ho : PySem.W.subIn K (.ref C) (.type "object") = some true)
    (ha : PySem.W.findIn K (.ref C) "__class__" = some (some (.builtin "object.__class__"))) (hn : PySem.W.specialIn K (.builtin "object.__class__") "__get__" = some (some (.builtin "getset_descriptor.__get__")))
    (htk : PySem.W.takesIn K (.builtin "object.__class__") = some true) (hm : PySem.W.mroIn K C (.type "object") = some true)
    (gD : mg "_law_dice" = some (.ref fD)) (gR : mg "_law_roll" = some (.ref fR)) (gK : mg "_law_pick" = some (.ref fK)) (gP : mg "_law_power" = some (.ref fP)) (gG : mg "_law_right" = some (.ref fG)) (gA : mg "all_ties" = some (.ref fA))
    (gW : mg "word_web" = some (.ref fW)) (gO : mg "word_of" = some (.ref fO)) (gQ : mg "place_of" = some (.ref fQ))
    (kD : PySem.W.keepIn K (.ref fD) = true) (kR : PySem.W.keepIn K (.ref fR) = true) (kK : PySem.W.keepIn K (.ref fK) = true) (kP : PySem.W.keepIn K (.ref fP) = true) (kG : PySem.W.keepIn K (.ref fG) = true) (kA : PySem.W.keepIn K (.ref fA) = true)
    (kW : PySem.W.keepIn K (.ref fW) = true) (kO : PySem.W.keepIn K (.ref fO) = true) (kQ : PySem.W.keepIn K (.ref fQ) = true)
    (mM : mg "MAX_PLACES_making" = some (.int 256 tM))
    (mr : mg "range" = none) (mx : mg "max" = none) (mn : mg "min" = none) (ml : mg "len" = none) (mli : mg "list" = none) (mt : mg "tuple" = none) :
    FnOk P w K mg base CX0 9 f fd ["script"] (spLaw K) := by
  refine F.ok scLaw (fun vs H Q E h => ?_) (fun cdv A outer s H vs Q E hr h => ?_)
  · obtain ⟨a, ns, rfl, _⟩ := h
    rfl
  · obtain ⟨a, ns, rfl, hS, hlen, q⟩ := h
    have hr7 := hr.mono (show 7 ≤ 8 by decide)
    have hr5 := hr.mono (show 5 ≤ 8 by decide)
    have hr2 := hr.mono (show 2 ≤ 8 by decide)
    have hr1 := hr.mono (show 1 ≤ 8 by decide)
    have un := hr.units
    have N := scLaw.nd
    refine ⟨_, pss_cons (ps_set (i := 1) N rfl (.inl rfl) (pe_lst (pa_cons (pe_tup (pa_cons pe_int (pa_cons pe_int pa_nil))) (pa_cons (pe_tup (pa_cons pe_int (pa_cons pe_int pa_nil))) (pa_cons (pe_tup (pa_cons pe_int (pa_cons pe_int pa_nil)))
          (pa_cons (pe_tup (pa_cons pe_int (pa_cons pe_int pa_nil))) (pa_cons (pe_tup (pa_cons pe_int (pa_cons pe_int pa_nil))) (pa_cons (pe_tup (pa_cons pe_int (pa_cons pe_int pa_nil))) (pa_cons (pe_tup (pa_cons pe_int (pa_cons pe_int pa_nil)))
          (pa_cons (pe_tup (pa_cons pe_int (pa_cons pe_int pa_nil))) (pa_cons (pe_tup (pa_cons pe_int (pa_cons pe_int pa_nil))) (pa_cons (pe_tup (pa_cons pe_int (pa_cons pe_int pa_nil))) pa_nil))))))))))))
      (pss_cons (ps_for PassesOwn.never rfl (pi_range1 (by rfl) mr (pa_cons (pe_callB (call_max2 rfl) (by rfl) mx (by decide +kernel) (pa_cons pe_int (pa_cons
          (pe_callB (call_min2 rfl) (by rfl) mn (by decide +kernel) (pa_cons pe_int (pa_cons (pe_callB call_len_seq (by rfl) ml PySem.boot_len (pa_cons (pv 0) pa_nil)) pa_nil))) pa_nil))) pa_nil))
          (pg_name (i := 2) N rfl (.inl rfl))
        (pss_cons (ps_set (i := 3) N rfl (.inl rfl) (pe_call GD hr1 (by rfl) gD kD bD .nil pass0 (pa_cons (pv 0) (pa_cons (pv 2) pa_nil))))
        (pss_cons (ps_asg (pe_call GK hr2 (by rfl) gK kK bK .nil pass0 (pa_cons (pv 3) (pa_cons (pv 1) pa_nil))) (pg_tup (by rfl) (pgs_cons (pg_name (i := 4) N rfl (.inl rfl)) (pgs_cons (pg_name (i := 5) N rfl (.inl rfl)) pgs_nil))))
        (pss_cons (ps_set (i := 6) N rfl (.inl rfl) (pe_op op_add pe_int (pe_call GR hr1 (by rfl) gR kR bR .nil pass0 (pa_cons (pv 3) (pa_cons (pv 5) pa_nil)))))
        (pss_cons (ps_if (PW.pt (pw_and (pt_cmpR op_le (pe_call GP hr1 (by rfl) gP kP bP .nil pass0 (pa_cons (pv 4) (pa_cons (pv 6) pa_nil))) pe_int (nomark _))
            (pw_and1 (pt_not (pt_val (pe_call GG' hr (by rfl) gG kG bG .nil pass0 (pa_cons (pv 4) (pa_cons (pv 6) pa_nil)))))))) (pss_one (ps_ret pe_bl)) pss_nil)
        (pss_cons (ps_set (i := 7) N rfl (.inl rfl) (pe_op op_add pe_int (pe_call GR hr1 (by rfl) gR kR bR .nil pass0 (pa_cons (pv 3) (pa_cons pe_int pa_nil)))))
        (pss_one (ps_if (PW.pt (pw_or (pt_cmpR (op_neD un) (pe_callTy call_list_of (by rfl) mli (by decide +kernel) (pa_cons (pe_prop (pe_call GA hr7 (by rfl) gA kA bA .nil pass0 (pa_cons (pv 7) pa_nil)) W.c pR' GT hr2 bT .nil pass0 rfl) pa_nil))
              (pe_op op_rep (pe_lst (pa_cons (pe_tupRg rfl (by rfl) mt (prg_1 (by rfl) mr (pv 7))) pa_nil)) (pv 7)) (nomark _))
            (pw_or1 (pt_cmpR (op_neO mE hne ho GE hr2 bE pass0) (pe_call GA hr7 (by rfl) gA kA bA .nil pass0 (pa_cons (pv 7) pa_nil)) (pe_call GW hr7 (by rfl) gW kW bW .nil pass0 (pa_cons (pv 7) (pa_cons pe_int pa_nil))) (nomark _)))))
          (pss_one (ps_ret pe_bl)) pss_nil))))))))
      (pss_cons (ps_set (i := 8) N rfl (.inl rfl) (pe_lst (pa_cons (pe_callB (call_lenO mN GN hr2 bN pass0) (by rfl) ml (by decide +kernel) (pa_cons (pe_call GW hr7 (by rfl) gW kW bW .nil pass0 (pa_cons pe_int (pa_cons pe_int pa_nil))) pa_nil))
          (pa_cons (pe_callB (call_lenO mN GN hr2 bN pass0) (by rfl) ml (by decide +kernel) (pa_cons (pe_call GW hr7 (by rfl) gW kW bW .nil pass0 (pa_cons pe_int (pa_cons pe_int pa_nil))) pa_nil))
          (pa_cons (pe_call GO hr5 (by rfl) gO kO bO .nil pass0 (pa_cons pe_int (pa_cons pe_int (pa_cons pe_int pa_nil))))
          (pa_cons (pe_call GQ hr5 (by rfl) gQ kQ bQ .nil pass0 (pa_cons pe_int (pa_cons pe_int (pa_cons (pe_tup (pa_cons pe_int (pa_cons pe_int pa_nil))) pa_nil))))
          (pa_cons (pe_glob (v := .int 256) (by rfl) mM ⟨_, rfl⟩)
          (pa_cons (pe_callB (call_lenO mN GN hr2 bN pass0) (by rfl) ml (by decide +kernel) (pa_cons (pe_call GW hr7 (by rfl) gW kW bW .nil pass0 (pa_cons pe_int (pa_cons pe_int pa_nil))) pa_nil)) pa_nil))))))))
      (pss_one (ps_ret (pe_cmpR (op_eqD un) (pv 8) (pe_lst (pa_cons pe_int (pa_cons pe_int (pa_cons (pe_tup (pa_cons pe_int (pa_cons pe_int (pa_cons pe_int pa_nil)))) (pa_cons pe_int (pa_cons pe_int (pa_cons pe_int pa_nil))))))) (nomark _)))))), ?_⟩
    refine ⟨(by show 2 ≤ sizeLine; decide), fun t1 n1 => ⟨(by show 2 ≤ sizeLine; decide), fun t2 n2 => ⟨(by show 2 ≤ sizeLine; decide), fun t3 n3 => ⟨(by show 2 ≤ sizeLine; decide), fun t4 n4 => ⟨(by show 2 ≤ sizeLine; decide), fun t5 n5 => ⟨(by show 2 ≤ sizeLine; decide), fun t6 n6 => ⟨(by show 2 ≤ sizeLine; decide), fun t7 n7 => ⟨(by show 2 ≤ sizeLine; decide), fun t8 n8 => ⟨(by show 2 ≤ sizeLine; decide), fun t9 n9 => ⟨(by show 2 ≤ sizeLine; decide), fun t10 n10 => ⟨(by show 10 ≤ sizeLine; decide), fun L nL => ?_⟩⟩⟩⟩⟩⟩⟩⟩⟩⟩⟩
    have sL : Same H (upd (upd (upd (upd (upd (upd (upd (upd (upd (upd (upd H t1 (.tup [V.int 2, V.int 8])) t2 (.tup [V.int 3, V.int 5])) t3 (.tup [V.int 4, V.int 4])) t4 (.tup [V.int 6, V.int 3])) t5 (.tup [V.int 16, V.int 2])) t6 (.tup [V.int 256, V.int 1])) t7 (.tup [V.int 1, V.int 8])) t8 (.tup [V.int 2, V.int 1])) t9 (.tup [V.int 5, V.int 2])) t10 (.tup [V.int 3, V.int 4])) L (.lst [V.ref t1, V.ref t2, V.ref t3, V.ref t4, V.ref t5, V.ref t6, V.ref t7, V.ref t8, V.ref t9, V.ref t10])) := fun b o e => sameUpd nL b o (sameUpd n10 _ _ (sameUpd n9 _ _ (sameUpd n8 _ _ (sameUpd n7 _ _ (sameUpd n6 _ _ (sameUpd n5 _ _ (sameUpd n4 _ _ (sameUpd n3 _ _ (sameUpd n2 _ _ (sameUpd n1 _ _ e))))))))))
    have kL : KindsAt (upd (upd (upd (upd (upd (upd (upd (upd (upd (upd (upd H t1 (.tup [V.int 2, V.int 8])) t2 (.tup [V.int 3, V.int 5])) t3 (.tup [V.int 4, V.int 4])) t4 (.tup [V.int 6, V.int 3])) t5 (.tup [V.int 16, V.int 2])) t6 (.tup [V.int 256, V.int 1])) t7 (.tup [V.int 1, V.int 8])) t8 (.tup [V.int 2, V.int 1])) t9 (.tup [V.int 5, V.int 2])) t10 (.tup [V.int 3, V.int 4])) L (.lst [V.ref t1, V.ref t2, V.ref t3, V.ref t4, V.ref t5, V.ref t6, V.ref t7, V.ref t8, V.ref t9, V.ref t10])) L := ⟨[t1, t2, t3, t4, t5, t6, t7, t8, t9, t10], upd_same, rfl, fun a m => by
      simp only [List.mem_cons, List.mem_nil_iff, or_false] at m
      rcases m with rfl | rfl | rfl | rfl | rfl | rfl | rfl | rfl | rfl | rfl
      · exact ⟨(2, 8), by decide, (sameUpd nL _ _ (sameUpd n10 _ _ (sameUpd n9 _ _ (sameUpd n8 _ _ (sameUpd n7 _ _ (sameUpd n6 _ _ (sameUpd n5 _ _ (sameUpd n4 _ _ (sameUpd n3 _ _ (sameUpd n2 _ _ upd_same))))))))))⟩
      · exact ⟨(3, 5), by decide, (sameUpd nL _ _ (sameUpd n10 _ _ (sameUpd n9 _ _ (sameUpd n8 _ _ (sameUpd n7 _ _ (sameUpd n6 _ _ (sameUpd n5 _ _ (sameUpd n4 _ _ (sameUpd n3 _ _ upd_same)))))))))⟩
      · exact ⟨(4, 4), by decide, (sameUpd nL _ _ (sameUpd n10 _ _ (sameUpd n9 _ _ (sameUpd n8 _ _ (sameUpd n7 _ _ (sameUpd n6 _ _ (sameUpd n5 _ _ (sameUpd n4 _ _ upd_same))))))))⟩
      · exact ⟨(6, 3), by decide, (sameUpd nL _ _ (sameUpd n10 _ _ (sameUpd n9 _ _ (sameUpd n8 _ _ (sameUpd n7 _ _ (sameUpd n6 _ _ (sameUpd n5 _ _ upd_same)))))))⟩
      · exact ⟨(16, 2), by decide, (sameUpd nL _ _ (sameUpd n10 _ _ (sameUpd n9 _ _ (sameUpd n8 _ _ (sameUpd n7 _ _ (sameUpd n6 _ _ upd_same))))))⟩
      · exact ⟨(256, 1), by decide, (sameUpd nL _ _ (sameUpd n10 _ _ (sameUpd n9 _ _ (sameUpd n8 _ _ (sameUpd n7 _ _ upd_same)))))⟩
      · exact ⟨(1, 8), by decide, (sameUpd nL _ _ (sameUpd n10 _ _ (sameUpd n9 _ _ (sameUpd n8 _ _ upd_same))))⟩
      · exact ⟨(2, 1), by decide, (sameUpd nL _ _ (sameUpd n10 _ _ (sameUpd n9 _ _ upd_same)))⟩
      · exact ⟨(5, 2), by decide, (sameUpd nL _ _ (sameUpd n10 _ _ upd_same))⟩
      · exact ⟨(3, 4), by decide, (sameUpd nL _ _ upd_same)⟩⟩
    have hM := rng_6 (ns.map V.int).length
    refine ⟨.ref a, rfl, a, _, rfl, .inl (seqL_same sL hS), _, _, rfl, _, _, rfl, _, rfl, hM.1, hM.2.1, ?_⟩
    refine for_range (lo := 0) (fun i σ H1 => ∃ y2 y3 y4 y5 y6 y7 y8, σ = [some (.ref a), some (.ref L), y2, y3, y4, y5, y6, y7, y8] ∧ SqL K H1 a (ns.map V.int) ∧ KindsAt H1 L)
      ⟨_, _, _, _, _, _, _, rfl, seqL_same sL hS, kL⟩ (fun i σ H1 hi hP => ?_) (fun σ H1 hP => ?_)
    · obtain ⟨y2, y3, y4, y5, y6, y7, y8, rfl, hS1, k1⟩ := hP
      refine ⟨.ref a, rfl, _, rfl, a, ns, i, by rw [Int.zero_add]; rfl, hS1, by omega, fun H2 p s2 np d2 => ?_⟩
      have k2 := k1.same s2
      have Lp : L ≠ p := by
        obtain ⟨_, hl, _⟩ := k1
        exact ne_of_none hl np
      obtain ⟨as, hl2, la, hk⟩ := id k2
      refine ⟨.ref p, rfl, .ref L, rfl, p, L, _, rfl, d2, Lp, .inl (.of hl2), by rw [List.length_map, la]; decide, by rw [List.length_map, la]; decide, fun H3 j v b3 d3 hv => ?_⟩
      obtain ⟨aj, haj, rfl⟩ : ∃ aj ∈ as, v = .ref aj := by
        obtain ⟨aj, m, e⟩ := List.mem_map.mp (List.mem_of_getElem? hv)
        exact ⟨aj, m, e.symm⟩
      obtain ⟨⟨d, m⟩, hdm, h2⟩ := hk aj haj
      obtain ⟨q1, q2, q3, q4⟩ := kinds_ok _ hdm
      have q1 : 1 ≤ d := q1
      have q2 : d ≤ 256 := q2
      have q3 : 1 ≤ m := q3
      have q4 : m ≤ 8 := q4
      have h3 : H3 aj = some (.tup [vN d, vN m]) := b3 _ _ (fun e => by obtain ⟨x, y, z, hp, _⟩ := d2; rw [e, hp] at h2; cases h2) h2
      refine ⟨aj, _, rfl, .of h3, rfl, _, _, rfl, _, _, rfl, rfl, ?_⟩
      refine ⟨.ref p, rfl, _, rfl, p, (m : Int), rfl, d3, by omega, by omega, fun H4 r b4 d4 r0 r1 => ⟨_, _, rfl, rfl, ?_⟩⟩
      obtain ⟨r', rfl⟩ : ∃ n : Nat, r = n := ⟨r.toNat, by omega⟩
      have e1 : (1 : Int) + (r' : Int) = ((1 + r' : Nat) : Int) := by omega
      show gName 6 (V.int (1 + (r' : Int))) _ _ _
      rw [e1]
      have k4 : KindsAt H4 L := (k2.but Lp d2 b3).but Lp d3 b4
      have S4 : SqL K H4 a (ns.map V.int) := seqL_but (b3.trans b4) np s2 hS1
      refine ⟨_, rfl, _, rfl, (d : Int), 1 + r', rfl, by omega, by omega, by omega, _, _, rfl, rfl, _, rfl, ?_⟩
      change if _ = true then _ else _
      refine two_ways (H4 := H4) (fun rest e => ?_) (fun H5 s5 => iteF ?_)
      · have few : d ^ (1 + r') ≤ 128 := by
          have := of_decide_eq_true e
          rw [← Int.natCast_pow] at this
          omega
        exact ⟨_, rfl, _, rfl, d, 1 + r', rfl, q1, by omega, by omega, by omega, fun H5 s5 => ⟨true, rfl, rest H5 s5⟩⟩
      have d5 := d4.same s5
      refine ⟨.ref p, rfl, p, 30, rfl, d5, by decide, by decide, fun H6 r2 b6 d6 r20 r21 => ⟨_, _, rfl, rfl, ?_⟩⟩
      obtain ⟨n', rfl⟩ : ∃ n : Nat, r2 = n := ⟨r2.toNat, by omega⟩
      have e2 : (1 : Int) + (n' : Int) = ((1 + n' : Nat) : Int) := by omega
      show gName 7 (V.int (1 + (n' : Int))) _ _ _
      rw [e2]
      have nn : 1 + n' ≤ 30 := by omega
      generalize hN : 1 + n' = n at nn
      have n1' : 1 ≤ n := by omega
      have k6 : KindsAt H6 L := (k4.same s5).but Lp d5 b6
      have S6 : SqL K H6 a (ns.map V.int) := seqL_but ((b3.trans b4).trans ((But.ofSame s5).trans b6)) np s2 hS1
      refine ⟨_, rfl, n, rfl, n1', by omega, fun H7 w7 s7 nw7 wa7 => ?_⟩
      obtain ⟨dx7, r7, as7, ld7, hw7, hr7⟩ := id wa7
      refine ⟨w7, dx7, _, rfl, hw7, w7, dx7, r7, ld7, rfl, hw7, r7, _, rfl, .inr hr7.seq, fun l8 n8 => ?_⟩
      refine ⟨_, rfl, _, rfl, .of_le (by decide) (by omega) (by decide) (by omega), fun t9 n9 => ⟨(by show 1 ≤ sizeLine; decide), fun l10 n10 => ?_⟩⟩
      refine ⟨_, rfl, l10, _, _, rfl, rfl, upd_same, by omega, by omega, ?_, fun l11 n11 => ?_⟩
      · show 1 * ((n : Nat) : Int).toNat ≤ sizeLine
        rw [sizeLine_eq, Int.toNat_natCast]
        omega
      have rg : rgV 0 (n : Int) = (List.range n).map vN := by
        have := rgV_nat 0 n
        rw [Nat.zero_add] at this
        rw [show ((0 : Nat) : Int) = 0 from rfl] at this
        rw [this]
        congr 1
        simp
      have fl : (List.replicate ((n : Nat) : Int).toNat [V.ref t9]).flatten = (List.replicate n t9).map V.ref := by
        rw [Int.toNat_natCast, List.flatten_replicate_singleton, List.map_replicate]
      have s711 := fun b o (e : H7 b = some o) => sameUpd (o := .lst (List.replicate ((n : Nat) : Int).toNat [V.ref t9]).flatten) n11 b o (sameUpd n10 _ _ (sameUpd n9 _ _ (sameUpd n8 _ _ e)))
      have ht9 := sameUpd (o := .lst (List.replicate ((n : Nat) : Int).toNat [V.ref t9]).flatten) n11 _ _ (sameUpd (o := .lst [.ref t9]) n10 _ _ (upd_same (H := upd H7 l8 (.lst (as7.map V.ref))) (a := t9) (o := .tup (rgV 0 (n : Int)))))
      refine ⟨_, _, RowsL.dp ((hr7.tups.same s711).rowsL (.of (sameUpd n11 _ _ (sameUpd n10 _ _ (sameUpd n9 _ _ upd_same))))), RowsL.dp (r := l11) (as := List.replicate n t9) (rows := allRows n) ⟨.of (by rw [upd_same, fl]), by rw [allRows, List.length_replicate, List.length_replicate], fun j b row h1 h2 => ?_⟩,
        (tupsD_shaped _).2, (tupsD_shaped _).2, _, rfl, iteFo ?_ ?_⟩
      · obtain ⟨_, e1⟩ := List.mem_replicate.mp (List.mem_of_getElem? h1)
        obtain ⟨_, e2⟩ := List.mem_replicate.mp (List.mem_of_getElem? h2)
        rw [e1, e2, ← rg]
        exact .of ht9
      · rw [PyData.eqv, tupsD_eqv, decide_eq_true rfl]
        rfl
      refine ⟨_, rfl, n, rfl, n1', by omega, fun H12 w12 s12 nw12 wa12 => ?_⟩
      refine ⟨_, rfl, n, 1, rfl, n1', by decide, by decide, by rw [Nat.pow_one]; omega, fun H13 w13 s13 nw13 wa13 => ?_⟩
      obtain ⟨dx12, r12, as12, ld12, hw12, hr12⟩ := wa12.same s13
      obtain ⟨dx13, r13, as13, ld13, hw13, hr13⟩ := id wa13
      refine ⟨w12, dx12, _, .ref C, rfl, hw12, .base (.ins hw13 W.c ha hn htk hm), ?_, w12, w13, allRows n, rfl, ⟨dx12, r12, as12, ld12, hw12, hr12⟩, wordRows n 1, wa13, _, rfl, _, rfl, iteFo ?_ ?_⟩
      · unfold PySem.W.notFirst
        rw [beq_self_eq_true, Bool.true_or]
      · rw [allRows_word, decide_eq_true rfl]
        rfl
      have s613 : Same H6 H13 := fun b o e => s13 _ _ (s12 _ _ (s711 _ _ (s7 b o e)))
      exact ⟨_, _, _, _, _, _, _, rfl, seqL_same s613 S6, k6.same s613⟩
    · obtain ⟨y2, y3, y4, y5, y6, y7, y8, rfl, hS1, k1⟩ := hP
      refine ⟨2, 8, rfl, by decide, by decide, by decide, by decide, fun H2 w2 s2 nw2 wa2 => ?_⟩
      obtain ⟨dx2, r2, as2, ld2, hw2, hr2'⟩ := id wa2
      refine ⟨w2, dx2, _, rfl, hw2, w2, _, rfl, wa2, _, rfl, by rw [wordRows_len]; decide, ?_⟩
      rw [show ((wordRows 2 8).length : Int) = 256 by rw [wordRows_len]; rfl]
      refine ⟨16, 2, rfl, by decide, by decide, by decide, by decide, fun H3 w3 s3 nw3 wa3 => ?_⟩
      obtain ⟨dx3, r3, as3, ld3, hw3, hr3'⟩ := id wa3
      refine ⟨w3, dx3, _, rfl, hw3, w3, _, rfl, wa3, _, rfl, by rw [wordRows_len]; decide, ?_⟩
      rw [show ((wordRows 16 2).length : Int) = 256 by rw [wordRows_len]; rfl]
      refine ⟨2, 3, 6, rfl, by decide, by decide, by decide, by decide, by decide, by decide, fun H4 t4 s4 nt4 ht4 => ?_⟩
      rw [show (figsN 2 3 6) = [1, 1, 0] by decide] at ht4
      refine ⟨(by show 2 ≤ sizeLine; decide), fun u nu => ⟨3, 2, u, [1, 2], rfl, by decide, by decide, by decide, by decide, .of upd_same, rfl, by decide, fun H5 s5 => ?_⟩⟩
      rw [show val ((3 : Nat) : Int) ([1, 2].map fun k : Nat => (k : Int)) = 5 by decide]
      refine ⟨1, 5, rfl, by decide, by decide, by decide, by decide, fun H6 w6 s6 nw6 wa6 => ?_⟩
      obtain ⟨dx6, r6, as6, ld6, hw6, hr6'⟩ := id wa6
      refine ⟨w6, dx6, _, rfl, hw6, w6, _, rfl, wa6, _, rfl, by rw [wordRows_len]; decide, ?_⟩
      rw [show ((wordRows 1 5).length : Int) = 1 by rw [wordRows_len]; rfl]
      refine ⟨(by show 6 ≤ sizeLine; decide), fun T nT => ?_⟩
      have hT : (upd H6 T (.lst [V.int 256, V.int 256, V.ref t4, V.int 5, V.int 256, V.int 1])) T = some (.lst [V.int 256, V.int 256, V.ref t4, V.int 5, V.int 256, V.int 1]) := upd_same
      have ht6 := sameUpd (o := .lst [V.int 256, V.int 256, V.ref t4, V.int 5, V.int 256, V.int 1]) nT _ _ (s6 _ _ (s5 _ _ (sameUpd (o := .tup [.int 1, .int 2]) nu _ _ ht4)))
      refine ⟨_, rfl, (by show 3 ≤ sizeLine; decide), fun z nz => ⟨(by show 6 ≤ sizeLine; decide), fun y ny => ?_⟩⟩
      refine ⟨lastD, lastD, ?_, ?_, lastE.1, lastE.1, ?_⟩
      · exact .lst (.of (sameUpd ny _ _ (sameUpd nz _ _ hT))) (.cons (.int 256) (.cons (.int 256) (.cons (.tup (.of (sameUpd ny _ _ (sameUpd nz _ _ ht6))) (.cons (.int 1) (.cons (.int 1) (.cons (.int 0) .nil)))) (.cons (.int 5) (.cons (.int 256) (.cons (.int 1) .nil))))))
      · exact .lst (.of upd_same) (.cons (.int 256) (.cons (.int 256) (.cons (.tup (.of (sameUpd ny _ _ upd_same)) (.cons (.int 1) (.cons (.int 1) (.cons (.int 0) .nil)))) (.cons (.int 5) (.cons (.int 256) (.cons (.int 1) .nil))))))
      · rw [lastE.2]
        exact q _
end
end K09

set_option maxHeartbeats 4000000
namespace GG
open PySem PySem.Spec PyProof.Rows L2
/-! ### the end of a law's row, the table of modules known -/
section
variable {P : Program} {w : World} {K : PySem.W.Frag} {mg mb : Str → Option Value} {CX : CXT} {k : Nat} {fa a : Addr} {fd : FuncData}
  {x : Str} {sp : Sp} {s₁ : Shared} {vs : List Value} {ns : List Int}
/-- from a heap in which the script alone may be tracked -/
theorem law_coreS {H : Hp} (KX : K.In s₁.heap) (ng : s₁.heap.Ns mainGlobals mg) (nb : s₁.heap.Ns builtinsNs mb)
    (bb : ∀ x : Str, x ≠ "__name__" → mb x = bootBuiltins x) (lim : s₁.heap.NoLimit) (sm : ∃ mm, s₁.heap.Ns sysModules mm) (g0 : s₁.gens = #[])
    (ha : s₁.heap.get? a = some { cls := .type "list", data := .seq vs.toArray }) (room : Room k callerA)
    (F : ∀ base : Heap, K.In base → base.Ns mainGlobals mg → (∃ mm, base.Ns sysModules mm) → FnG P w K mg base CX k fa fd [x] sp)
    (bind : ∀ (s : Shared) (u : Value), BindsTo s fd ⟨[u], []⟩ [(x, u)])
    (want : sp [.ref a] H (fun v _ => v = .bl true) fun _ _ _ => False)
    (noX : ∀ H e s', CX [] H s₁ (fun _ _ _ => False) e s' → False)
    (only : Only H) (ok : HOk P w H s₁.heap) (at_a : ∀ b, H b ≠ none → b = a) (notK : H a ≠ none → K.lookup a = none) :
    codeAny (model P w) callerA (.call (.ref fa) ⟨[.ref a], []⟩)
      (fun r s' => r = .ok (.ret (.bool true)) ∧ OldK s₁.heap s'.heap ∧ s'.os = s₁.os ∧ AllBare s'.gens) s₁ := by
  have dictFree : ∀ {b : Addr} {o : Obj} {es : Array DictEntry} {ep : Nat},
      s₁.heap.get? b = some o → o.data = .dict es ep → H b = none := by
    intro b o es ep e d
    rcases hq : H b with _ | u
    · rfl
    · have ba := at_a b (fun z => by rw [z] at hq; cases hq)
      rw [ba, ha] at e
      cases e
      cases (show Data.seq vs.toArray _ = Data.dict es ep from d)
  have ns : ∀ {b : Addr} {m : Str → Option Value}, s₁.heap.Ns b m → (hidT s₁.heap H).Ns b m := by
    rintro b m ⟨o, es, ep, e, d, r⟩
    exact ⟨o, es, ep, hidT_get e (dictFree e d), d, r⟩
  have KB : K.In (hidT s₁.heap H) := by
    intro b o e
    refine hidT_get (KX b o e) ?_
    rcases hq : H b with _ | u
    · rfl
    · have ba := at_a b (fun z => by rw [z] at hq; cases hq)
      rw [ba] at hq e
      rw [notK (fun z => by rw [z] at hq; cases hq)] at e
      cases e
  have en : Env0 P w K mg (hidT s₁.heap H) callerA [] s₁ H := by
    refine ⟨rfl, ⟨KB, ns ng, ⟨mb, ns nb, bb⟩, ?_⟩, fun b o e => of_hidT e, Nat.le_of_eq (hidT_size _ _), trivial, ?_, ok, .of_eq g0⟩
    · obtain ⟨mc, h1, h2⟩ := lim
      exact ⟨mc, ns h1, h2⟩
    · intro b z
      cases (show b ∈ ([] : List Addr) from z)
  refine codeAny_mono ((F _ KB (ns ng) (by obtain ⟨mm, h1⟩ := sm; exact ⟨mm, ns h1⟩)).go callerA [] s₁ H ⟨[.ref a], []⟩ [.ref a] [.ref a] _ _ rfl room en
    (bind s₁ (.ref a)) (.cons rfl .nil) want) ?_
  intro r s' z
  cases r with
  | error e => exact (noX H e s' z).elim
  | ok fl =>
    cases fl with
    | next => exact z.elim
    | brk => exact z.elim
    | cont => exact z.elim
    | ret u =>
      obtain ⟨v, H', os, bare, un, ok', rv, q⟩ := z
      cases (show v = .bl true from q)
      cases (show u = Value.bool true from rv)
      refine ⟨rfl, OldK.of_keep ?_, os, bare⟩
      intro b o e
      rcases only b with hq | ⟨ob, xs, hq⟩
      · exact un.keep b o e hq (fun z => by cases (show b ∈ ([] : List Addr) from z)) (fun z => by cases z)
      · have f1 := (ok b _ hq).left
        have f2 := (ok' b _ (un.frzs b ob _ hq)).left
        rw [e] at f1
        cases f1
        exact f2
theorem law_callS (KX : K.In s₁.heap) (ng : s₁.heap.Ns mainGlobals mg) (nb : s₁.heap.Ns builtinsNs mb)
    (bb : ∀ x : Str, x ≠ "__name__" → mb x = bootBuiltins x) (lim : s₁.heap.NoLimit) (sm : ∃ mm, s₁.heap.Ns sysModules mm) (g0 : s₁.gens = #[])
    (ha : s₁.heap.get? a = some { cls := .type "list", data := .seq vs.toArray }) (hi : IntsAre vs ns) (hl : ns.length ≤ sizeLine)
    (room : Room k callerA) (F : ∀ base : Heap, K.In base → base.Ns mainGlobals mg → (∃ mm, base.Ns sysModules mm) → FnG P w K mg base CX k fa fd [x] sp)
    (bind : ∀ (s : Shared) (u : Value), BindsTo s fd ⟨[u], []⟩ [(x, u)])
    (want : ∀ H : Hp, Only H → SqL K H a (ns.map V.int) → sp [.ref a] H (fun v _ => v = .bl true) fun _ _ _ => False)
    (noX : ∀ H e s', CX [] H s₁ (fun _ _ _ => False) e s' → False) :
    codeAny (model P w) callerA (.call (.ref fa) ⟨[.ref a], []⟩)
      (fun r s' => r = .ok (.ret (.bool true)) ∧ OldK s₁.heap s'.heap ∧ s'.os = s₁.os ∧ AllBare s'.gens) s₁ := by
  have vi := vals_ints hi
  rcases hk : K.lookup a with _ | o
  · have hH : ∀ b, (fun b => if b = a then some (HO.frz { cls := .type "list", data := .seq vs.toArray } (.lst (ns.map V.int))) else none : Hp) b ≠ none → b = a := by
      intro b z
      by_cases e : b = a
      · exact e
      · exact absurd (if_neg e) z
    refine law_coreS (H := fun b => if b = a then some (HO.frz { cls := .type "list", data := .seq vs.toArray } (.lst (ns.map V.int))) else none)
      KX ng nb bb lim sm g0 ha room F bind (want _ ?_ (.inl (.inr ⟨_, if_pos rfl⟩))) noX ?_ ?_ hH (fun _ => hk)
    all_goals first
      | (intro b
         by_cases e : b = a
         · exact .inr ⟨_, _, if_pos e⟩
         · exact .inl (if_neg e))
      | (intro b u z
         by_cases e : b = a
         · have z' := (if_pos e).symm.trans z
           cases z'
           rw [e]
           exact ⟨ha, by rw [List.length_map]; exact hl, vs, _, vi, ha⟩
         · have z' := (if_neg e).symm.trans z
           cases z')
  · have e := KX a o hk
    rw [ha] at e
    cases e
    refine law_coreS (H := fun _ => none) KX ng nb bb lim sm g0 ha room F bind (want _ (fun _ => .inl rfl) ?_) noX (fun _ => .inl rfl) ?_ (fun b z => absurd rfl z) (fun z => absurd rfl z)
    · exact .inr ⟨_, vs.toArray, _, hk, rfl, rfl, rfl, by rw [List.size_toArray, hi.length]; exact hl, by simpa using vi⟩
    · intro b u z
      cases (show (none : Option HO) = some u from z)
end
/-- the goal that the head leaves -/
theorem walkS {l : PySem.W.OpenLaw} {n k : Nat} {q : Program} {loose : List Str} {XP : (Str → Option Value) → Heap → Prop} {YP : World → Heap → Prop}
    {d : DefRec} {K : Params → PySem.W.Frag} {CX : World → CXT} {sp : World → Sp} {x : Str}
    (imp : importsNone q = true) (hn : l.most = some n) (hn2 : n ≤ sizeLine) (hdf : d.params.defaults = []) (room : Room k callerA)
    (hY : ∀ (w : World) (h : Heap), YP w h → (K w.params).In h)
    (F : ∀ (w : World) (mg : Str → Option Value) (fa : Addr) (h : Heap), (K w.params).In h → h.Ns mainGlobals mg → mg d.name = some (.ref fa) →
      ∃ fd : FuncData, (∀ (s : Shared) (u : Value), BindsTo s fd ⟨[u], []⟩ [(x, u)]) ∧
        ∀ base : Heap, (K w.params).In base → base.Ns mainGlobals mg → (∃ mm, base.Ns sysModules mm) → FnG l.prog w (K w.params) mg base (CX w) k fa fd [x] (sp w))
    (want : ∀ (w : World) (H : Hp) (a : Addr) (ns : List Int), ns.length ≤ n → Only H → SqL (K w.params) H a (ns.map V.int) →
      sp w [.ref a] H (fun v _ => v = .bl true) fun _ _ _ => False)
    (noX : ∀ (w : World) (H : Hp) (s : Shared) (e : Value) (s' : Shared), CX w [] H s (fun _ _ _ => False) e s' → False) :
    PySem.W.WalkO q loose XP YP l.row.toRowW d [] (fun f vs => PySem.call f vs) := by
  apply Att.attach_call hn hdf
  intro w s₀ s₁ mg mb fa o pm cd doc a vs ns G Y ho hd hcd hmg hobj hints hlen hg
  obtain ⟨fd, hb, hF⟩ := F w mg fa _ (hY w _ Y) G.T.g hmg
  exact law_callS (hY w _ Y) G.T.g G.T.b G.T.builtins G.T.nolimit (by obtain ⟨mm, h1, _⟩ := (G.T.seer imp).mods; exact ⟨mm, h1⟩) hg hobj hints (Nat.le_trans hlen hn2) room hF hb
    (fun H h1 h2 => want w H a ns hlen h1 h2) (fun H e s' => noX w H s₁ e s')
end GG

set_option maxHeartbeats 4000000
namespace K09
open PySem PySem.Spec PyProof.Rows L2 GG
theorem all_mk {l : PySem.W.OpenLaw} {w : World} {K : PySem.W.Frag} {h : Heap} {mg : Str → Option Value} {f_is_integer f_is_count f_is_within f_is_ascending f_power f_raised f_figures_of f_number_of f__check_base f__are_figures f__are_rows f_check_number f_word_web f_all_ties f_word_of f_place_of f__check_words f__check_positive f__check_size f__law_dice f__law_roll f__law_pick f__law_power f__law_word_rows f__law_word f__law_right f_law fa     C f_C_init f_C_len f_C_getitem f_C_is_place f_C_check_place f_C_eq p_C_rows f_C_rows : Addr} 
    (X : K.In h) (G : h.Ns mainGlobals mg) (hfa : mg "law" = some (.ref fa))
    {od0 an0 : Option Addr} {sl0 : Array (Option Value)} {oc0 kV0 dc0 pm0 cd0 ct0 : Value}
    (a0 : PySem.W.nsIn K mainGlobals "is_integer" = some (some (.ref f_is_integer)))
    (l0 : K.lookup f_is_integer = some ⟨oc0, od0, .func (PySem.W.fnOf "is_integer" "is_integer" (defArgs sInteger) (defBody sInteger) (defScope sInteger) .none kV0 dc0 pm0 an0 cd0 ct0), sl0⟩)
    (c0 : PySem.W.codeIn K cd0 "is_integer" = true) (k0 : PySem.W.keepIn K (.ref f_is_integer) = true)
    {od1 an1 : Option Addr} {sl1 : Array (Option Value)} {oc1 kV1 dc1 pm1 cd1 ct1 : Value}
    (a1 : PySem.W.nsIn K mainGlobals "is_count" = some (some (.ref f_is_count)))
    (l1 : K.lookup f_is_count = some ⟨oc1, od1, .func (PySem.W.fnOf "is_count" "is_count" (defArgs sCount) (defBody sCount) (defScope sCount) .none kV1 dc1 pm1 an1 cd1 ct1), sl1⟩)
    (c1 : PySem.W.codeIn K cd1 "is_count" = true) (k1 : PySem.W.keepIn K (.ref f_is_count) = true)
    {od2 an2 : Option Addr} {sl2 : Array (Option Value)} {oc2 kV2 dc2 pm2 cd2 ct2 : Value}
    (a2 : PySem.W.nsIn K mainGlobals "is_within" = some (some (.ref f_is_within)))
    (l2 : K.lookup f_is_within = some ⟨oc2, od2, .func (PySem.W.fnOf "is_within" "is_within" (defArgs sWithin) (defBody sWithin) (defScope sWithin) .none kV2 dc2 pm2 an2 cd2 ct2), sl2⟩)
    (c2 : PySem.W.codeIn K cd2 "is_within" = true) (k2 : PySem.W.keepIn K (.ref f_is_within) = true)
    {od3 an3 : Option Addr} {sl3 : Array (Option Value)} {oc3 kV3 dc3 pm3 cd3 ct3 : Value}
    (a3 : PySem.W.nsIn K mainGlobals "is_ascending" = some (some (.ref f_is_ascending)))
    (l3 : K.lookup f_is_ascending = some ⟨oc3, od3, .func (PySem.W.fnOf "is_ascending" "is_ascending" (defArgs sAsc) (defBody sAsc) (defScope sAsc) .none kV3 dc3 pm3 an3 cd3 ct3), sl3⟩)
    (c3 : PySem.W.codeIn K cd3 "is_ascending" = true) (k3 : PySem.W.keepIn K (.ref f_is_ascending) = true)
    {od4 an4 : Option Addr} {sl4 : Array (Option Value)} {oc4 kV4 dc4 pm4 cd4 ct4 : Value}
    (a4 : PySem.W.nsIn K mainGlobals "power" = some (some (.ref f_power)))
    (l4 : K.lookup f_power = some ⟨oc4, od4, .func (PySem.W.fnOf "power" "power" (defArgs sPower) (defBody sPower) (defScope sPower) .none kV4 dc4 pm4 an4 cd4 ct4), sl4⟩)
    (c4 : PySem.W.codeIn K cd4 "power" = true) (k4 : PySem.W.keepIn K (.ref f_power) = true)
    {od5 an5 : Option Addr} {sl5 : Array (Option Value)} {oc5 kV5 dc5 pm5 cd5 ct5 : Value}
    (a5 : PySem.W.nsIn K mainGlobals "raised" = some (some (.ref f_raised)))
    (l5 : K.lookup f_raised = some ⟨oc5, od5, .func (PySem.W.fnOf "raised" "raised" (defArgs sRaised) (defBody sRaised) (defScope sRaised) .none kV5 dc5 pm5 an5 cd5 ct5), sl5⟩)
    (c5 : PySem.W.codeIn K cd5 "raised" = true) (k5 : PySem.W.keepIn K (.ref f_raised) = true)
    {od6 an6 : Option Addr} {sl6 : Array (Option Value)} {oc6 kV6 dc6 pm6 cd6 ct6 : Value}
    (a6 : PySem.W.nsIn K mainGlobals "figures_of" = some (some (.ref f_figures_of)))
    (l6 : K.lookup f_figures_of = some ⟨oc6, od6, .func (PySem.W.fnOf "figures_of" "figures_of" (defArgs sFig) (defBody sFig) (defScope sFig) .none kV6 dc6 pm6 an6 cd6 ct6), sl6⟩)
    (c6 : PySem.W.codeIn K cd6 "figures_of" = true) (k6 : PySem.W.keepIn K (.ref f_figures_of) = true)
    {od7 an7 : Option Addr} {sl7 : Array (Option Value)} {oc7 kV7 dc7 pm7 cd7 ct7 : Value}
    (a7 : PySem.W.nsIn K mainGlobals "number_of" = some (some (.ref f_number_of)))
    (l7 : K.lookup f_number_of = some ⟨oc7, od7, .func (PySem.W.fnOf "number_of" "number_of" (defArgs sNum) (defBody sNum) (defScope sNum) .none kV7 dc7 pm7 an7 cd7 ct7), sl7⟩)
    (c7 : PySem.W.codeIn K cd7 "number_of" = true) (k7 : PySem.W.keepIn K (.ref f_number_of) = true)
    {od8 an8 : Option Addr} {sl8 : Array (Option Value)} {oc8 kV8 dc8 pm8 cd8 ct8 : Value}
    (a8 : PySem.W.nsIn K mainGlobals "_check_base" = some (some (.ref f__check_base)))
    (l8 : K.lookup f__check_base = some ⟨oc8, od8, .func (PySem.W.fnOf "_check_base" "_check_base" (defArgs sBase) (defBody sBase) (defScope sBase) .none kV8 dc8 pm8 an8 cd8 ct8), sl8⟩)
    (c8 : PySem.W.codeIn K cd8 "_check_base" = true) (k8 : PySem.W.keepIn K (.ref f__check_base) = true)
    {od9 an9 : Option Addr} {sl9 : Array (Option Value)} {oc9 kV9 dc9 pm9 cd9 ct9 : Value}
    (a9 : PySem.W.nsIn K mainGlobals "_are_figures" = some (some (.ref f__are_figures)))
    (l9 : K.lookup f__are_figures = some ⟨oc9, od9, .func (PySem.W.fnOf "_are_figures" "_are_figures" (defArgs sAre) (defBody sAre) (defScope sAre) .none kV9 dc9 pm9 an9 cd9 ct9), sl9⟩)
    (c9 : PySem.W.codeIn K cd9 "_are_figures" = true) (k9 : PySem.W.keepIn K (.ref f__are_figures) = true)
    {od10 an10 : Option Addr} {sl10 : Array (Option Value)} {oc10 kV10 dc10 pm10 cd10 ct10 : Value}
    (a10 : PySem.W.nsIn K mainGlobals "_are_rows" = some (some (.ref f__are_rows)))
    (l10 : K.lookup f__are_rows = some ⟨oc10, od10, .func (PySem.W.fnOf "_are_rows" "_are_rows" (defArgs sRows) (defBody sRows) (defScope sRows) .none kV10 dc10 pm10 an10 cd10 ct10), sl10⟩)
    (c10 : PySem.W.codeIn K cd10 "_are_rows" = true) (k10 : PySem.W.keepIn K (.ref f__are_rows) = true)
    {od11 an11 : Option Addr} {sl11 : Array (Option Value)} {oc11 kV11 dc11 pm11 cd11 ct11 : Value}
    (a11 : PySem.W.nsIn K mainGlobals "check_number" = some (some (.ref f_check_number)))
    (l11 : K.lookup f_check_number = some ⟨oc11, od11, .func (PySem.W.fnOf "check_number" "check_number" (defArgs sCkNum) (defBody sCkNum) (defScope sCkNum) .none kV11 dc11 pm11 an11 cd11 ct11), sl11⟩)
    (c11 : PySem.W.codeIn K cd11 "check_number" = true) (k11 : PySem.W.keepIn K (.ref f_check_number) = true)
    {od12 an12 : Option Addr} {sl12 : Array (Option Value)} {oc12 kV12 dc12 pm12 cd12 ct12 : Value}
    (a12 : PySem.W.nsIn K mainGlobals "word_web" = some (some (.ref f_word_web)))
    (l12 : K.lookup f_word_web = some ⟨oc12, od12, .func (PySem.W.fnOf "word_web" "word_web" (defArgs sWordWeb) (defBody sWordWeb) (defScope sWordWeb) .none kV12 dc12 pm12 an12 cd12 ct12), sl12⟩)
    (c12 : PySem.W.codeIn K cd12 "word_web" = true) (k12 : PySem.W.keepIn K (.ref f_word_web) = true)
    {od13 an13 : Option Addr} {sl13 : Array (Option Value)} {oc13 kV13 dc13 pm13 cd13 ct13 : Value}
    (a13 : PySem.W.nsIn K mainGlobals "all_ties" = some (some (.ref f_all_ties)))
    (l13 : K.lookup f_all_ties = some ⟨oc13, od13, .func (PySem.W.fnOf "all_ties" "all_ties" (defArgs sAllTies) (defBody sAllTies) (defScope sAllTies) .none kV13 dc13 pm13 an13 cd13 ct13), sl13⟩)
    (c13 : PySem.W.codeIn K cd13 "all_ties" = true) (k13 : PySem.W.keepIn K (.ref f_all_ties) = true)
    {od14 an14 : Option Addr} {sl14 : Array (Option Value)} {oc14 kV14 dc14 pm14 cd14 ct14 : Value}
    (a14 : PySem.W.nsIn K mainGlobals "word_of" = some (some (.ref f_word_of)))
    (l14 : K.lookup f_word_of = some ⟨oc14, od14, .func (PySem.W.fnOf "word_of" "word_of" (defArgs sWordOf) (defBody sWordOf) (defScope sWordOf) .none kV14 dc14 pm14 an14 cd14 ct14), sl14⟩)
    (c14 : PySem.W.codeIn K cd14 "word_of" = true) (k14 : PySem.W.keepIn K (.ref f_word_of) = true)
    {od15 an15 : Option Addr} {sl15 : Array (Option Value)} {oc15 kV15 dc15 pm15 cd15 ct15 : Value}
    (a15 : PySem.W.nsIn K mainGlobals "place_of" = some (some (.ref f_place_of)))
    (l15 : K.lookup f_place_of = some ⟨oc15, od15, .func (PySem.W.fnOf "place_of" "place_of" (defArgs sPlaceOf) (defBody sPlaceOf) (defScope sPlaceOf) .none kV15 dc15 pm15 an15 cd15 ct15), sl15⟩)
    (c15 : PySem.W.codeIn K cd15 "place_of" = true) (k15 : PySem.W.keepIn K (.ref f_place_of) = true)
    {od16 an16 : Option Addr} {sl16 : Array (Option Value)} {oc16 kV16 dc16 pm16 cd16 ct16 : Value}
    (a16 : PySem.W.nsIn K mainGlobals "_check_words" = some (some (.ref f__check_words)))
    (l16 : K.lookup f__check_words = some ⟨oc16, od16, .func (PySem.W.fnOf "_check_words" "_check_words" (defArgs sCkWords) (defBody sCkWords) (defScope sCkWords) .none kV16 dc16 pm16 an16 cd16 ct16), sl16⟩)
    (c16 : PySem.W.codeIn K cd16 "_check_words" = true) (k16 : PySem.W.keepIn K (.ref f__check_words) = true)
    {od17 an17 : Option Addr} {sl17 : Array (Option Value)} {oc17 kV17 dc17 pm17 cd17 ct17 : Value}
    (a17 : PySem.W.nsIn K mainGlobals "_check_positive" = some (some (.ref f__check_positive)))
    (l17 : K.lookup f__check_positive = some ⟨oc17, od17, .func (PySem.W.fnOf "_check_positive" "_check_positive" (defArgs sCkPos) (defBody sCkPos) (defScope sCkPos) .none kV17 dc17 pm17 an17 cd17 ct17), sl17⟩)
    (c17 : PySem.W.codeIn K cd17 "_check_positive" = true) (k17 : PySem.W.keepIn K (.ref f__check_positive) = true)
    {od18 an18 : Option Addr} {sl18 : Array (Option Value)} {oc18 kV18 dc18 pm18 cd18 ct18 : Value}
    (a18 : PySem.W.nsIn K mainGlobals "_check_size" = some (some (.ref f__check_size)))
    (l18 : K.lookup f__check_size = some ⟨oc18, od18, .func (PySem.W.fnOf "_check_size" "_check_size" (defArgs sCkSize) (defBody sCkSize) (defScope sCkSize) .none kV18 dc18 pm18 an18 cd18 ct18), sl18⟩)
    (c18 : PySem.W.codeIn K cd18 "_check_size" = true) (k18 : PySem.W.keepIn K (.ref f__check_size) = true)
    {od19 an19 : Option Addr} {sl19 : Array (Option Value)} {oc19 kV19 dc19 pm19 cd19 ct19 : Value}
    (a19 : PySem.W.nsIn K mainGlobals "_law_dice" = some (some (.ref f__law_dice)))
    (l19 : K.lookup f__law_dice = some ⟨oc19, od19, .func (PySem.W.fnOf "_law_dice" "_law_dice" (defArgs sDice) (defBody sDice) (defScope sDice) .none kV19 dc19 pm19 an19 cd19 ct19), sl19⟩)
    (c19 : PySem.W.codeIn K cd19 "_law_dice" = true) (k19 : PySem.W.keepIn K (.ref f__law_dice) = true)
    {od20 an20 : Option Addr} {sl20 : Array (Option Value)} {oc20 kV20 dc20 pm20 cd20 ct20 : Value}
    (a20 : PySem.W.nsIn K mainGlobals "_law_roll" = some (some (.ref f__law_roll)))
    (l20 : K.lookup f__law_roll = some ⟨oc20, od20, .func (PySem.W.fnOf "_law_roll" "_law_roll" (defArgs sRoll) (defBody sRoll) (defScope sRoll) .none kV20 dc20 pm20 an20 cd20 ct20), sl20⟩)
    (c20 : PySem.W.codeIn K cd20 "_law_roll" = true) (k20 : PySem.W.keepIn K (.ref f__law_roll) = true)
    {od21 an21 : Option Addr} {sl21 : Array (Option Value)} {oc21 kV21 dc21 pm21 cd21 ct21 : Value}
    (a21 : PySem.W.nsIn K mainGlobals "_law_pick" = some (some (.ref f__law_pick)))
    (l21 : K.lookup f__law_pick = some ⟨oc21, od21, .func (PySem.W.fnOf "_law_pick" "_law_pick" (defArgs sPick) (defBody sPick) (defScope sPick) .none kV21 dc21 pm21 an21 cd21 ct21), sl21⟩)
    (c21 : PySem.W.codeIn K cd21 "_law_pick" = true) (k21 : PySem.W.keepIn K (.ref f__law_pick) = true)
    {od22 an22 : Option Addr} {sl22 : Array (Option Value)} {oc22 kV22 dc22 pm22 cd22 ct22 : Value}
    (a22 : PySem.W.nsIn K mainGlobals "_law_power" = some (some (.ref f__law_power)))
    (l22 : K.lookup f__law_power = some ⟨oc22, od22, .func (PySem.W.fnOf "_law_power" "_law_power" (defArgs sPow) (defBody sPow) (defScope sPow) .none kV22 dc22 pm22 an22 cd22 ct22), sl22⟩)
    (c22 : PySem.W.codeIn K cd22 "_law_power" = true) (k22 : PySem.W.keepIn K (.ref f__law_power) = true)
    {od23 an23 : Option Addr} {sl23 : Array (Option Value)} {oc23 kV23 dc23 pm23 cd23 ct23 : Value}
    (a23 : PySem.W.nsIn K mainGlobals "_law_word_rows" = some (some (.ref f__law_word_rows)))
    (l23 : K.lookup f__law_word_rows = some ⟨oc23, od23, .func (PySem.W.fnOf "_law_word_rows" "_law_word_rows" (defArgs sWRowsL) (defBody sWRowsL) (defScope sWRowsL) .none kV23 dc23 pm23 an23 cd23 ct23), sl23⟩)
    (c23 : PySem.W.codeIn K cd23 "_law_word_rows" = true) (k23 : PySem.W.keepIn K (.ref f__law_word_rows) = true)
    {od24 an24 : Option Addr} {sl24 : Array (Option Value)} {oc24 kV24 dc24 pm24 cd24 ct24 : Value}
    (a24 : PySem.W.nsIn K mainGlobals "_law_word" = some (some (.ref f__law_word)))
    (l24 : K.lookup f__law_word = some ⟨oc24, od24, .func (PySem.W.fnOf "_law_word" "_law_word" (defArgs sLWord) (defBody sLWord) (defScope sLWord) .none kV24 dc24 pm24 an24 cd24 ct24), sl24⟩)
    (c24 : PySem.W.codeIn K cd24 "_law_word" = true) (k24 : PySem.W.keepIn K (.ref f__law_word) = true)
    {od25 an25 : Option Addr} {sl25 : Array (Option Value)} {oc25 kV25 dc25 pm25 cd25 ct25 : Value}
    (a25 : PySem.W.nsIn K mainGlobals "_law_right" = some (some (.ref f__law_right)))
    (l25 : K.lookup f__law_right = some ⟨oc25, od25, .func (PySem.W.fnOf "_law_right" "_law_right" (defArgs sRight) (defBody sRight) (defScope sRight) .none kV25 dc25 pm25 an25 cd25 ct25), sl25⟩)
    (c25 : PySem.W.codeIn K cd25 "_law_right" = true) (k25 : PySem.W.keepIn K (.ref f__law_right) = true)
    {od26 an26 : Option Addr} {sl26 : Array (Option Value)} {oc26 kV26 dc26 pm26 cd26 ct26 : Value}
    (a26 : PySem.W.nsIn K mainGlobals "law" = some (some (.ref f_law)))
    (l26 : K.lookup f_law = some ⟨oc26, od26, .func (PySem.W.fnOf "law" "law" (defArgs sLaw) (defBody sLaw) (defScope sLaw) .none kV26 dc26 pm26 an26 cd26 ct26), sl26⟩)
    (c26 : PySem.W.codeIn K cd26 "law" = true) (k26 : PySem.W.keepIn K (.ref f_law) = true)
    (z_isinstance : PySem.W.nsIn K mainGlobals "isinstance" = some none)
    (z_int : PySem.W.nsIn K mainGlobals "int" = some none)
    (z_bool : PySem.W.nsIn K mainGlobals "bool" = some none)
    (z_len : PySem.W.nsIn K mainGlobals "len" = some none)
    (z_max : PySem.W.nsIn K mainGlobals "max" = some none)
    (z_min : PySem.W.nsIn K mainGlobals "min" = some none)
    (z_abs : PySem.W.nsIn K mainGlobals "abs" = some none)
    (z_range : PySem.W.nsIn K mainGlobals "range" = some none)
    (z_tuple : PySem.W.nsIn K mainGlobals "tuple" = some none)
    (z_list : PySem.W.nsIn K mainGlobals "list" = some none)
    (z_all : PySem.W.nsIn K mainGlobals "all" = some none)
    (z_zip : PySem.W.nsIn K mainGlobals "zip" = some none)
    (z_sorted : PySem.W.nsIn K mainGlobals "sorted" = some none)
    (z_reversed : PySem.W.nsIn K mainGlobals "reversed" = some none)
    {t_BOUND : Tok} (y_BOUND : PySem.W.nsIn K mainGlobals "_BOUND" = some (some (.int BND t_BOUND)))
    {t_LIMIT : Tok} (y_LIMIT : PySem.W.nsIn K mainGlobals "_LIMIT" = some (some (.int 1000 t_LIMIT)))
    {tMAX_PLACES_webs : Tok} (yMAX_PLACES_webs : PySem.W.nsIn K mainGlobals "MAX_PLACES_webs" = some (some (.int 256 tMAX_PLACES_webs)))
    {tMAX_PLACES_making : Tok} (yMAX_PLACES_making : PySem.W.nsIn K mainGlobals "MAX_PLACES_making" = some (some (.int 256 tMAX_PLACES_making)))
    {tMAX_DEPTH : Tok} (yMAX_DEPTH : PySem.W.nsIn K mainGlobals "MAX_DEPTH" = some (some (.int 8 tMAX_DEPTH)))
    (kN_C : PySem.W.nsIn K mainGlobals "Web" = some (some (.ref C)))
    (kpg_C : PySem.W.plainGet K C Str.empty = true)
    (khd_C : PySem.W.hasDictIn K C = true)
    (kpo_C : PySem.W.plainOver K C = true)
    (ksa_C : PySem.W.findIn K (.ref C) "__setattr__" = some (some (.builtin "object.__setattr__")))
    (kmk_C : PySem.W.makesIn K C = true)
    (kkc_C : PySem.W.keepIn K (.ref C) = true)
    (kne_C : PySem.W.findIn K (.ref C) "__ne__" = some (some (.builtin "object.__ne__")))
    (kso_C : PySem.W.subIn K (.ref C) (.type "object") = some true)
    (kcl_C : PySem.W.findIn K (.ref C) "__class__" = some (some (.builtin "object.__class__")))
    (kcg_C : PySem.W.specialIn K (.builtin "object.__class__") "__get__" = some (some (.builtin "getset_descriptor.__get__")))
    (kct_C : PySem.W.takesIn K (.builtin "object.__class__") = some true)
    (kmo_C : PySem.W.mroIn K C (.type "object") = some true)
    (kf_rows_C : PySem.W.findIn K (.ref C) "_rows" = some none)
    (kf_lone_depth_C : PySem.W.findIn K (.ref C) "_lone_depth" = some none)
    {od_C_init an_C_init : Option Addr} {sl_C_init : Array (Option Value)} {oc_C_init kV_C_init dc_C_init pm_C_init cd_C_init ct_C_init : Value}
    (ma_C_init : PySem.W.findIn K (.ref C) "__init__" = some (some (.ref f_C_init)))
    (mi_C_init : PySem.W.isFn K (.ref f_C_init) = true)
    (ml_C_init : K.lookup f_C_init = some ⟨oc_C_init, od_C_init, .func (PySem.W.fnOf "__init__" "Web.__init__" (defArgs sWInit) (defBody sWInit) (defScope sWInit) .none kV_C_init dc_C_init pm_C_init an_C_init cd_C_init ct_C_init), sl_C_init⟩)
    (mc_C_init : PySem.W.codeIn K cd_C_init "Web.__init__" = true)
    (mk_C_init : PySem.W.keepIn K (.ref f_C_init) = true)
    (mf_C_init : PySem.W.fnIn K f_C_init = true)
    {od_C_len an_C_len : Option Addr} {sl_C_len : Array (Option Value)} {oc_C_len kV_C_len dc_C_len pm_C_len cd_C_len ct_C_len : Value}
    (ma_C_len : PySem.W.findIn K (.ref C) "__len__" = some (some (.ref f_C_len)))
    (mi_C_len : PySem.W.isFn K (.ref f_C_len) = true)
    (ml_C_len : K.lookup f_C_len = some ⟨oc_C_len, od_C_len, .func (PySem.W.fnOf "__len__" "Web.__len__" (defArgs sWLen) (defBody sWLen) (defScope sWLen) .none kV_C_len dc_C_len pm_C_len an_C_len cd_C_len ct_C_len), sl_C_len⟩)
    (mc_C_len : PySem.W.codeIn K cd_C_len "Web.__len__" = true)
    (mk_C_len : PySem.W.keepIn K (.ref f_C_len) = true)
    (mf_C_len : PySem.W.fnIn K f_C_len = true)
    {od_C_getitem an_C_getitem : Option Addr} {sl_C_getitem : Array (Option Value)} {oc_C_getitem kV_C_getitem dc_C_getitem pm_C_getitem cd_C_getitem ct_C_getitem : Value}
    (ma_C_getitem : PySem.W.findIn K (.ref C) "__getitem__" = some (some (.ref f_C_getitem)))
    (mi_C_getitem : PySem.W.isFn K (.ref f_C_getitem) = true)
    (ml_C_getitem : K.lookup f_C_getitem = some ⟨oc_C_getitem, od_C_getitem, .func (PySem.W.fnOf "__getitem__" "Web.__getitem__" (defArgs sWGet) (defBody sWGet) (defScope sWGet) .none kV_C_getitem dc_C_getitem pm_C_getitem an_C_getitem cd_C_getitem ct_C_getitem), sl_C_getitem⟩)
    (mc_C_getitem : PySem.W.codeIn K cd_C_getitem "Web.__getitem__" = true)
    (mk_C_getitem : PySem.W.keepIn K (.ref f_C_getitem) = true)
    (mf_C_getitem : PySem.W.fnIn K f_C_getitem = true)
    {od_C_is_place an_C_is_place : Option Addr} {sl_C_is_place : Array (Option Value)} {oc_C_is_place kV_C_is_place dc_C_is_place pm_C_is_place cd_C_is_place ct_C_is_place : Value}
    (ma_C_is_place : PySem.W.findIn K (.ref C) "_is_place" = some (some (.ref f_C_is_place)))
    (mi_C_is_place : PySem.W.isFn K (.ref f_C_is_place) = true)
    (ml_C_is_place : K.lookup f_C_is_place = some ⟨oc_C_is_place, od_C_is_place, .func (PySem.W.fnOf "_is_place" "Web._is_place" (defArgs sWIs) (defBody sWIs) (defScope sWIs) .none kV_C_is_place dc_C_is_place pm_C_is_place an_C_is_place cd_C_is_place ct_C_is_place), sl_C_is_place⟩)
    (mc_C_is_place : PySem.W.codeIn K cd_C_is_place "Web._is_place" = true)
    (mk_C_is_place : PySem.W.keepIn K (.ref f_C_is_place) = true)
    (mf_C_is_place : PySem.W.fnIn K f_C_is_place = true)
    {od_C_check_place an_C_check_place : Option Addr} {sl_C_check_place : Array (Option Value)} {oc_C_check_place kV_C_check_place dc_C_check_place pm_C_check_place cd_C_check_place ct_C_check_place : Value}
    (ma_C_check_place : PySem.W.findIn K (.ref C) "_check_place" = some (some (.ref f_C_check_place)))
    (mi_C_check_place : PySem.W.isFn K (.ref f_C_check_place) = true)
    (ml_C_check_place : K.lookup f_C_check_place = some ⟨oc_C_check_place, od_C_check_place, .func (PySem.W.fnOf "_check_place" "Web._check_place" (defArgs sWCheck) (defBody sWCheck) (defScope sWCheck) .none kV_C_check_place dc_C_check_place pm_C_check_place an_C_check_place cd_C_check_place ct_C_check_place), sl_C_check_place⟩)
    (mc_C_check_place : PySem.W.codeIn K cd_C_check_place "Web._check_place" = true)
    (mk_C_check_place : PySem.W.keepIn K (.ref f_C_check_place) = true)
    (mf_C_check_place : PySem.W.fnIn K f_C_check_place = true)
    {od_C_eq an_C_eq : Option Addr} {sl_C_eq : Array (Option Value)} {oc_C_eq kV_C_eq dc_C_eq pm_C_eq cd_C_eq ct_C_eq : Value}
    (ma_C_eq : PySem.W.findIn K (.ref C) "__eq__" = some (some (.ref f_C_eq)))
    (mi_C_eq : PySem.W.isFn K (.ref f_C_eq) = true)
    (ml_C_eq : K.lookup f_C_eq = some ⟨oc_C_eq, od_C_eq, .func (PySem.W.fnOf "__eq__" "Web.__eq__" (defArgs sWEq) (defBody sWEq) (defScope sWEq) .none kV_C_eq dc_C_eq pm_C_eq an_C_eq cd_C_eq ct_C_eq), sl_C_eq⟩)
    (mc_C_eq : PySem.W.codeIn K cd_C_eq "Web.__eq__" = true)
    (mk_C_eq : PySem.W.keepIn K (.ref f_C_eq) = true)
    (mf_C_eq : PySem.W.fnIn K f_C_eq = true)
    {od_C_rows an_C_rows : Option Addr} {sl_C_rows : Array (Option Value)} {oc_C_rows kV_C_rows dc_C_rows pm_C_rows cd_C_rows ct_C_rows : Value} {rest_C_rows : List Value}
    (pa_C_rows : PySem.W.findIn K (.ref C) "rows" = some (some (.ref p_C_rows)))
    (pg_C_rows : PySem.W.specialIn K (.ref p_C_rows) "__get__" = some (some (.builtin "property.__get__")))
    (pt_C_rows : PySem.W.takesIn K (.ref p_C_rows) = some true)
    (pr_C_rows : PySem.W.recIn K p_C_rows "property" = some (.ref f_C_rows :: rest_C_rows))
    (ml_C_rows : K.lookup f_C_rows = some ⟨oc_C_rows, od_C_rows, .func (PySem.W.fnOf "rows" "Web.rows" (defArgs sWRows) (defBody sWRows) (defScope sWRows) .none kV_C_rows dc_C_rows pm_C_rows an_C_rows cd_C_rows ct_C_rows), sl_C_rows⟩)
    (mc_C_rows : PySem.W.codeIn K cd_C_rows "Web.rows" = true)
    (mk_C_rows : PySem.W.keepIn K (.ref f_C_rows) = true)
    : ∃ fd : FuncData, (∀ (s : Shared) (v : Value), BindsTo s fd ⟨[v], []⟩ [("script", v)]) ∧ ∀ base : Heap, K.In base → base.Ns mainGlobals mg → (∃ mm, base.Ns sysModules mm) → FnG l.prog w K mg base CX0 9 fa fd ["script"] (spLaw K) := by
  have e := hfa.symm.trans (PySem.W.mg_of X G a26)
  cases e
  have F_is_integer := fun_mk (st := sInteger) l0 c0 k0
  have b_is_integer := F_is_integer.binds (ps := ["value"]) fun _ _ _ _ _ _ us hl => match us, hl with | [_], _ => rfl
  have g_is_integer := PySem.W.mg_of X G a0
  have q_is_integer := F_is_integer.kp
  have F_is_count := fun_mk (st := sCount) l1 c1 k1
  have b_is_count := F_is_count.binds (ps := ["value"]) fun _ _ _ _ _ _ us hl => match us, hl with | [_], _ => rfl
  have g_is_count := PySem.W.mg_of X G a1
  have q_is_count := F_is_count.kp
  have F_is_within := fun_mk (st := sWithin) l2 c2 k2
  have b_is_within := F_is_within.binds (ps := ["value", "least", "most"]) fun _ _ _ _ _ _ us hl => match us, hl with | [_, _, _], _ => rfl
  have g_is_within := PySem.W.mg_of X G a2
  have q_is_within := F_is_within.kp
  have F_is_ascending := fun_mk (st := sAsc) l3 c3 k3
  have b_is_ascending := F_is_ascending.binds (ps := ["value", "many"]) fun _ _ _ _ _ _ us hl => match us, hl with | [_, _], _ => rfl
  have g_is_ascending := PySem.W.mg_of X G a3
  have q_is_ascending := F_is_ascending.kp
  have F_power := fun_mk (st := sPower) l4 c4 k4
  have b_power := F_power.binds (ps := ["base", "exponent"]) fun _ _ _ _ _ _ us hl => match us, hl with | [_, _], _ => rfl
  have g_power := PySem.W.mg_of X G a4
  have q_power := F_power.kp
  have F_raised := fun_mk (st := sRaised) l5 c5 k5
  have b_raised := F_raised.binds (ps := ["base", "exponent"]) fun _ _ _ _ _ _ us hl => match us, hl with | [_, _], _ => rfl
  have g_raised := PySem.W.mg_of X G a5
  have q_raised := F_raised.kp
  have F_figures_of := fun_mk (st := sFig) l6 c6 k6
  have b_figures_of := F_figures_of.binds (ps := ["base", "length", "number"]) fun _ _ _ _ _ _ us hl => match us, hl with | [_, _, _], _ => rfl
  have g_figures_of := PySem.W.mg_of X G a6
  have q_figures_of := F_figures_of.kp
  have F_number_of := fun_mk (st := sNum) l7 c7 k7
  have b_number_of := F_number_of.binds (ps := ["base", "figures"]) fun _ _ _ _ _ _ us hl => match us, hl with | [_, _], _ => rfl
  have g_number_of := PySem.W.mg_of X G a7
  have q_number_of := F_number_of.kp
  have F__check_base := fun_mk (st := sBase) l8 c8 k8
  have b__check_base := F__check_base.binds (ps := ["base"]) fun _ _ _ _ _ _ us hl => match us, hl with | [_], _ => rfl
  have g__check_base := PySem.W.mg_of X G a8
  have q__check_base := F__check_base.kp
  have F__are_figures := fun_mk (st := sAre) l9 c9 k9
  have b__are_figures := F__are_figures.binds (ps := ["base", "figures"]) fun _ _ _ _ _ _ us hl => match us, hl with | [_, _], _ => rfl
  have g__are_figures := PySem.W.mg_of X G a9
  have q__are_figures := F__are_figures.kp
  have F__are_rows := fun_mk (st := sRows) l10 c10 k10
  have b__are_rows := F__are_rows.binds (ps := ["rows"]) fun _ _ _ _ _ _ us hl => match us, hl with | [_], _ => rfl
  have g__are_rows := PySem.W.mg_of X G a10
  have q__are_rows := F__are_rows.kp
  have F_check_number := fun_mk (st := sCkNum) l11 c11 k11
  have b_check_number := F_check_number.binds (ps := ["number", "least", "most"]) fun _ _ _ _ _ _ us hl => match us, hl with | [_, _, _], _ => rfl
  have g_check_number := PySem.W.mg_of X G a11
  have q_check_number := F_check_number.kp
  have F_word_web := fun_mk (st := sWordWeb) l12 c12 k12
  have b_word_web := F_word_web.binds (ps := ["degree", "depth"]) fun _ _ _ _ _ _ us hl => match us, hl with | [_, _], _ => rfl
  have g_word_web := PySem.W.mg_of X G a12
  have q_word_web := F_word_web.kp
  have F_all_ties := fun_mk (st := sAllTies) l13 c13 k13
  have b_all_ties := F_all_ties.binds (ps := ["number"]) fun _ _ _ _ _ _ us hl => match us, hl with | [_], _ => rfl
  have g_all_ties := PySem.W.mg_of X G a13
  have q_all_ties := F_all_ties.kp
  have F_word_of := fun_mk (st := sWordOf) l14 c14 k14
  have b_word_of := F_word_of.binds (ps := ["degree", "depth", "place"]) fun _ _ _ _ _ _ us hl => match us, hl with | [_, _, _], _ => rfl
  have g_word_of := PySem.W.mg_of X G a14
  have q_word_of := F_word_of.kp
  have F_place_of := fun_mk (st := sPlaceOf) l15 c15 k15
  have b_place_of := F_place_of.binds (ps := ["degree", "depth", "word"]) fun _ _ _ _ _ _ us hl => match us, hl with | [_, _, _], _ => rfl
  have g_place_of := PySem.W.mg_of X G a15
  have q_place_of := F_place_of.kp
  have F__check_words := fun_mk (st := sCkWords) l16 c16 k16
  have b__check_words := F__check_words.binds (ps := ["degree", "depth"]) fun _ _ _ _ _ _ us hl => match us, hl with | [_, _], _ => rfl
  have g__check_words := PySem.W.mg_of X G a16
  have q__check_words := F__check_words.kp
  have F__check_positive := fun_mk (st := sCkPos) l17 c17 k17
  have b__check_positive := F__check_positive.binds (ps := ["number"]) fun _ _ _ _ _ _ us hl => match us, hl with | [_], _ => rfl
  have g__check_positive := PySem.W.mg_of X G a17
  have q__check_positive := F__check_positive.kp
  have F__check_size := fun_mk (st := sCkSize) l18 c18 k18
  have b__check_size := F__check_size.binds (ps := ["many"]) fun _ _ _ _ _ _ us hl => match us, hl with | [_], _ => rfl
  have g__check_size := PySem.W.mg_of X G a18
  have q__check_size := F__check_size.kp
  have F__law_dice := fun_mk (st := sDice) l19 c19 k19
  have b__law_dice := F__law_dice.binds (ps := ["script", "spot"]) fun _ _ _ _ _ _ us hl => match us, hl with | [_, _], _ => rfl
  have g__law_dice := PySem.W.mg_of X G a19
  have q__law_dice := F__law_dice.kp
  have F__law_roll := fun_mk (st := sRoll) l20 c20 k20
  have b__law_roll := F__law_roll.binds (ps := ["dice", "total"]) fun _ _ _ _ _ _ us hl => match us, hl with | [_, _], _ => rfl
  have g__law_roll := PySem.W.mg_of X G a20
  have q__law_roll := F__law_roll.kp
  have F__law_pick := fun_mk (st := sPick) l21 c21 k21
  have b__law_pick := F__law_pick.binds (ps := ["dice", "items"]) fun _ _ _ _ _ _ us hl => match us, hl with | [_, _], _ => rfl
  have g__law_pick := PySem.W.mg_of X G a21
  have q__law_pick := F__law_pick.kp
  have F__law_power := fun_mk (st := sPow) l22 c22 k22
  have b__law_power := F__law_power.binds (ps := ["base", "number"]) fun _ _ _ _ _ _ us hl => match us, hl with | [_, _], _ => rfl
  have g__law_power := PySem.W.mg_of X G a22
  have q__law_power := F__law_power.kp
  have F__law_word_rows := fun_mk (st := sWRowsL) l23 c23 k23
  have b__law_word_rows := F__law_word_rows.binds (ps := ["degree", "depth"]) fun _ _ _ _ _ _ us hl => match us, hl with | [_, _], _ => rfl
  have g__law_word_rows := PySem.W.mg_of X G a23
  have q__law_word_rows := F__law_word_rows.kp
  have F__law_word := fun_mk (st := sLWord) l24 c24 k24
  have b__law_word := F__law_word.binds (ps := ["degree", "depth", "place"]) fun _ _ _ _ _ _ us hl => match us, hl with | [_, _, _], _ => rfl
  have g__law_word := PySem.W.mg_of X G a24
  have q__law_word := F__law_word.kp
  have F__law_right := fun_mk (st := sRight) l25 c25 k25
  have b__law_right := F__law_right.binds (ps := ["degree", "depth"]) fun _ _ _ _ _ _ us hl => match us, hl with | [_, _], _ => rfl
  have g__law_right := PySem.W.mg_of X G a25
  have q__law_right := F__law_right.kp
  have F_law := fun_mk (st := sLaw) l26 c26 k26
  have m_isinstance := PySem.W.mg_none_of X G z_isinstance
  have m_int := PySem.W.mg_none_of X G z_int
  have m_bool := PySem.W.mg_none_of X G z_bool
  have m_len := PySem.W.mg_none_of X G z_len
  have m_max := PySem.W.mg_none_of X G z_max
  have m_min := PySem.W.mg_none_of X G z_min
  have m_abs := PySem.W.mg_none_of X G z_abs
  have m_range := PySem.W.mg_none_of X G z_range
  have m_tuple := PySem.W.mg_none_of X G z_tuple
  have m_list := PySem.W.mg_none_of X G z_list
  have m_all := PySem.W.mg_none_of X G z_all
  have m_zip := PySem.W.mg_none_of X G z_zip
  have m_sorted := PySem.W.mg_none_of X G z_sorted
  have m_reversed := PySem.W.mg_none_of X G z_reversed
  have m_BOUND := PySem.W.mg_of X G y_BOUND
  have m_LIMIT := PySem.W.mg_of X G y_LIMIT
  have mMAX_PLACES_webs := PySem.W.mg_of X G yMAX_PLACES_webs
  have mMAX_PLACES_making := PySem.W.mg_of X G yMAX_PLACES_making
  have mMAX_DEPTH := PySem.W.mg_of X G yMAX_DEPTH
  have g_C := PySem.W.mg_of X G kN_C
  have W_C : Cls K C := ⟨kpg_C, khd_C, kpo_C, ksa_C⟩
  have F_C_init := fun_mk (st := sWInit) ml_C_init mc_C_init mk_C_init
  have b_C_init := F_C_init.binds (ps := ["self", "rows"]) fun _ _ _ _ _ _ us hl => match us, hl with | [_, _], _ => rfl
  have F_C_len := fun_mk (st := sWLen) ml_C_len mc_C_len mk_C_len
  have b_C_len := F_C_len.binds (ps := ["self"]) fun _ _ _ _ _ _ us hl => match us, hl with | [_], _ => rfl
  have F_C_getitem := fun_mk (st := sWGet) ml_C_getitem mc_C_getitem mk_C_getitem
  have b_C_getitem := F_C_getitem.binds (ps := ["self", "place"]) fun _ _ _ _ _ _ us hl => match us, hl with | [_, _], _ => rfl
  have F_C_is_place := fun_mk (st := sWIs) ml_C_is_place mc_C_is_place mk_C_is_place
  have b_C_is_place := F_C_is_place.binds (ps := ["self", "value"]) fun _ _ _ _ _ _ us hl => match us, hl with | [_, _], _ => rfl
  have F_C_check_place := fun_mk (st := sWCheck) ml_C_check_place mc_C_check_place mk_C_check_place
  have b_C_check_place := F_C_check_place.binds (ps := ["self", "place"]) fun _ _ _ _ _ _ us hl => match us, hl with | [_, _], _ => rfl
  have F_C_eq := fun_mk (st := sWEq) ml_C_eq mc_C_eq mk_C_eq
  have b_C_eq := F_C_eq.binds (ps := ["self", "value"]) fun _ _ _ _ _ _ us hl => match us, hl with | [_, _], _ => rfl
  have F_C_rows := fun_mk (st := sWRows) ml_C_rows mc_C_rows mk_C_rows
  have b_C_rows := F_C_rows.binds (ps := ["self"]) fun _ _ _ _ _ _ us hl => match us, hl with | [_], _ => rfl
  have M_C_init : Meth K C "__init__" f_C_init := ⟨ma_C_init, mi_C_init, mk_C_init⟩
  have K_C : Mk K C f_C_init := ⟨kmk_C, ma_C_init, mi_C_init, kkc_C⟩
  have M_C_len : Meth K C "__len__" f_C_len := ⟨ma_C_len, mi_C_len, mk_C_len⟩
  have M_C_getitem : Meth K C "__getitem__" f_C_getitem := ⟨ma_C_getitem, mi_C_getitem, mk_C_getitem⟩
  have M_C_is_place : Meth K C "_is_place" f_C_is_place := ⟨ma_C_is_place, mi_C_is_place, mk_C_is_place⟩
  have M_C_check_place : Meth K C "_check_place" f_C_check_place := ⟨ma_C_check_place, mi_C_check_place, mk_C_check_place⟩
  have M_C_eq : Meth K C "__eq__" f_C_eq := ⟨ma_C_eq, mi_C_eq, mk_C_eq⟩
  have P_C_rows : PropOf K C "rows" p_C_rows f_C_rows := ⟨pa_C_rows, pg_C_rows, pt_C_rows, ⟨_, pr_C_rows⟩⟩
  refine ⟨PySem.W.fnOf "law" "law" (defArgs sLaw) (defBody sLaw) (defScope sLaw) .none kV26 dc26 pm26 an26 cd26 ct26, fun s v => .of_eq rfl, fun base _ _ sm => ?_⟩
  have W : WebC K C := ⟨W_C, kf_rows_C, kf_lone_depth_C⟩
  have GD : FnOk l.prog w K mg base CX0 1 _ _ ["script", "spot"] (spDice K) := ok_dice F__law_dice m_len m_int m_max m_abs
  have GR : FnOk l.prog w K mg base CX0 1 _ _ ["dice", "total"] spRoll := ok_roll F__law_roll m_int
  have GK : FnOk l.prog w K mg base CX0 2 _ _ ["dice", "items"] (spPick K) := ok_pick F__law_pick F__law_roll b__law_roll g__law_roll m_len m_int
  have GI : FnOk l.prog w K mg base CX0 1 _ _ ["value"] (spInteger K) := ok_integer F_is_integer m_int m_bool m_isinstance m_BOUND
  have GC : FnOk l.prog w K mg base CX0 2 _ _ ["value"] (spCount K) := ok_count F_is_count b_is_integer GI g_is_integer q_is_integer
  have GW : FnOk l.prog w K mg base CX0 2 _ _ ["value", "least", "most"] (spWithin K) := ok_within F_is_within b_is_integer GI g_is_integer q_is_integer
  have GA : FnOk l.prog w K mg base CX0 3 _ _ ["value", "many"] (spAsc K) := ok_asc F_is_ascending b_is_integer GI g_is_integer q_is_integer m_isinstance m_tuple m_all m_zip m_len
  have GB : FnOk l.prog w K mg base CX0 2 _ _ ["base"] spBase := ok_base F__check_base b_is_integer GI g_is_integer q_is_integer
  have GRa : FnOk l.prog w K mg base CX0 1 _ _ ["base", "exponent"] spRaised := ok_raised F_raised m_reversed m_range
  have GP := ok_power F_power b__check_base b_is_within b_raised GB GW GRa g__check_base g_is_within g_raised q__check_base q_is_within q_raised m_LIMIT
  have GF := ok_fig F_figures_of b__check_base b_is_within b_is_count GB GW GC g__check_base g_is_within g_is_count q__check_base q_is_within q_is_count m_LIMIT m_range m_tuple
  have GAr : FnOk l.prog w K mg base CX0 3 _ _ ["base", "figures"] (spAre K) := ok_are F__are_figures b_is_within GW g_is_within q_is_within m_LIMIT m_isinstance m_tuple m_len m_all
  have GN := ok_num F_number_of b__check_base b__are_figures GB GAr g__check_base g__are_figures q__check_base q__are_figures
  have GRo : FnOk l.prog w K mg base CX0 4 _ _ ["rows"] (spRows K) := ok_rows F__are_rows b_is_ascending GA g_is_ascending q_is_ascending mMAX_PLACES_webs m_isinstance m_tuple m_len m_all
  have GWI := ok_winit F_C_init b__are_rows W GRo g__are_rows q__are_rows
  have GWR : FnOk l.prog w K mg base CX0 1 _ _ ["self"] (spWRows K C) := ok_wrows F_C_rows W
  have GWL : FnOk l.prog w K mg base CX0 1 _ _ ["self"] (spWLen K C) := ok_wlen F_C_len W m_len
  have GWS := ok_wis F_C_is_place b_is_within W GW g_is_within q_is_within m_len
  have GWC := ok_wcheck F_C_check_place b_C_is_place W M_C_is_place GWS
  have GWG := ok_wget F_C_getitem b_C_check_place W M_C_check_place GWC
  have GWE : FnOk l.prog w K mg base CX0 1 _ _ ["self", "value"] (spWEq K C) := ok_weq F_C_eq W m_isinstance g_C kcl_C kcg_C kct_C kmo_C
  have GCN := ok_cknum F_check_number b_is_within GW g_is_within q_is_within
  have GCP := ok_ckpos F__check_positive b_is_integer GI g_is_integer q_is_integer
  have GCW := ok_ckwords F__check_words b__check_positive b_check_number GCP GCN g__check_positive g_check_number q__check_positive q_check_number mMAX_DEPTH
  have GCS : FnOk l.prog w K mg base CX0 1 _ _ ["many"] spCkSize := ok_cksize F__check_size mMAX_PLACES_making
  have GWW := ok_wordweb F_word_web b__check_words b_power b__check_size b_C_init GCW GP GCS K_C GWI g__check_words g_power g__check_size g_C q__check_words q_power q__check_size m_range m_tuple
  have GAT := ok_allties F_all_ties b__check_positive b__check_size b_C_init GCP GCS K_C GWI g__check_positive g__check_size g_C q__check_positive q__check_size m_range m_tuple
  have GWO := ok_wordof F_word_of b__check_words b_figures_of GCW GF g__check_words g_figures_of q__check_words q_figures_of
  have GPO := ok_placeof F_place_of b__check_words b_number_of GCW GN g__check_words g_number_of q__check_words q_number_of m_isinstance m_tuple m_len
  have GLP : FnOk l.prog w K mg base CX0 1 _ _ ["base", "number"] spPow := ok_lpow F__law_power m_range
  have GLR := ok_lwrows F__law_word_rows b__law_power GLP g__law_power q__law_power m_range m_tuple m_sorted
  have GLW : FnOk l.prog w K mg base CX0 1 _ _ ["degree", "depth", "place"] spLWord := ok_lword F__law_word m_range m_tuple
  have GRi := ok_right F__law_right W b_word_web b__law_word_rows b_word_of b_place_of b__law_word b_C_rows b_C_len b_C_getitem GWW GLR GWO GPO GLW GWR GWL GWG P_C_rows M_C_len M_C_getitem mf_C_getitem
    g_word_web g__law_word_rows g_word_of g_place_of g__law_word q_word_web q__law_word_rows q_word_of q_place_of q__law_word m_range m_list m_len
  exact .ofOk (ok_law F_law W b__law_dice b__law_roll b__law_pick b__law_power b__law_right b_all_ties b_word_web b_word_of b_place_of b_C_rows b_C_len b_C_eq GD GR GK GLP GRi GAT GWW GWO GPO GWR GWL GWE P_C_rows M_C_len M_C_eq kne_C kso_C kcl_C kcg_C kct_C kmo_C
    g__law_dice g__law_roll g__law_pick g__law_power g__law_right g_all_ties g_word_web g_word_of g_place_of q__law_dice q__law_roll q__law_pick q__law_power q__law_right q_all_ties q_word_web q_word_of q_place_of mMAX_PLACES_making m_range m_max m_min m_len m_list m_tuple)
end K09

set_option maxHeartbeats 4000000
open PySem PySem.W PyProof.Rows
set_option maxHeartbeats 0 in
theorem PySem.Challenge.cw_onebetween_k09_word_webs_told_holds : PySem.Challenge.rw_onebetween_k09_word_webs_told.Holds := by
  w_on; o_law; k_head; (case hw => w_witness2)
  k_fill
  refine GG.walkS (l := PySem.Challenge.rw_onebetween_k09_word_webs_told) (n := 63) (k := 9) (x := "script") (CX := fun _ => L2.CX0) (sp := fun w => K09.spLaw _) (by first | kernel_rfl | decide +kernel) rfl (by decide) rfl ⟨rfl, by decide, by decide⟩ (fun w h Y => PySem.W.kIn_of Y) ?F (fun _ _ a ns hl _ hS => ⟨a, ns, rfl, hS, hl, fun _ => rfl⟩) (fun _ _ _ _ _ h => h)
  case F =>
    intro w mg fa h KX G hmg
    refine' K09.all_mk KX G hmg ?a0 ?l0 ?c0 ?k0 ?a1 ?l1 ?c1 ?k1 ?a2 ?l2 ?c2 ?k2 ?a3 ?l3 ?c3 ?k3 ?a4 ?l4 ?c4 ?k4 ?a5 ?l5 ?c5 ?k5 ?a6 ?l6 ?c6 ?k6 ?a7 ?l7 ?c7 ?k7 ?a8 ?l8 ?c8 ?k8 ?a9 ?l9 ?c9 ?k9 ?a10 ?l10 ?c10 ?k10 ?a11 ?l11 ?c11 ?k11 ?a12 ?l12 ?c12 ?k12 ?a13 ?l13 ?c13 ?k13 ?a14 ?l14 ?c14 ?k14 ?a15 ?l15 ?c15 ?k15 ?a16 ?l16 ?c16 ?k16 ?a17 ?l17 ?c17 ?k17 ?a18 ?l18 ?c18 ?k18 ?a19 ?l19 ?c19 ?k19 ?a20 ?l20 ?c20 ?k20 ?a21 ?l21 ?c21 ?k21 ?a22 ?l22 ?c22 ?k22 ?a23 ?l23 ?c23 ?k23 ?a24 ?l24 ?c24 ?k24 ?a25 ?l25 ?c25 ?k25 ?a26 ?l26 ?c26 ?k26 ?z_isinstance ?z_int ?z_bool ?z_len ?z_max ?z_min ?z_abs ?z_range ?z_tuple ?z_list ?z_all ?z_zip ?z_sorted ?z_reversed ?y_BOUND ?y_LIMIT ?yMAX_PLACES_webs ?yMAX_PLACES_making ?yMAX_DEPTH ?kN_C ?kpg_C ?khd_C ?kpo_C ?ksa_C ?kmk_C ?kkc_C ?kne_C ?kso_C ?kcl_C ?kcg_C ?kct_C ?kmo_C ?kf_rows_C ?kf_lone_depth_C ?ma_C_init ?mi_C_init ?ml_C_init ?mc_C_init ?mk_C_init ?mf_C_init ?ma_C_len ?mi_C_len ?ml_C_len ?mc_C_len ?mk_C_len ?mf_C_len ?ma_C_getitem ?mi_C_getitem ?ml_C_getitem ?mc_C_getitem ?mk_C_getitem ?mf_C_getitem ?ma_C_is_place ?mi_C_is_place ?ml_C_is_place ?mc_C_is_place ?mk_C_is_place ?mf_C_is_place ?ma_C_check_place ?mi_C_check_place ?ml_C_check_place ?mc_C_check_place ?mk_C_check_place ?mf_C_check_place ?ma_C_eq ?mi_C_eq ?ml_C_eq ?mc_C_eq ?mk_C_eq ?mf_C_eq ?pa_C_rows ?pg_C_rows ?pt_C_rows ?pr_C_rows ?ml_C_rows ?mc_C_rows ?mk_C_rows
    (case a0 => k_is); (case l0 => k_is); (case c0 => k_is); (case k0 => k_is); (case a1 => k_is); (case l1 => k_is); (case c1 => k_is); (case k1 => k_is); (case a2 => k_is); (case l2 => k_is); (case c2 => k_is); (case k2 => k_is); (case a3 => k_is); (case l3 => k_is); (case c3 => k_is); (case k3 => k_is); (case a4 => k_is); (case l4 => k_is); (case c4 => k_is); (case k4 => k_is); (case a5 => k_is); (case l5 => k_is); (case c5 => k_is); (case k5 => k_is); (case a6 => k_is); (case l6 => k_is); (case c6 => k_is); (case k6 => k_is); (case a7 => k_is); (case l7 => k_is); (case c7 => k_is); (case k7 => k_is); (case a8 => k_is); (case l8 => k_is); (case c8 => k_is); (case k8 => k_is); (case a9 => k_is); (case l9 => k_is); (case c9 => k_is); (case k9 => k_is); (case a10 => k_is); (case l10 => k_is); (case c10 => k_is); (case k10 => k_is); (case a11 => k_is); (case l11 => k_is); (case c11 => k_is); (case k11 => k_is); (case a12 => k_is); (case l12 => k_is); (case c12 => k_is); (case k12 => k_is); (case a13 => k_is); (case l13 => k_is); (case c13 => k_is); (case k13 => k_is); (case a14 => k_is); (case l14 => k_is); (case c14 => k_is); (case k14 => k_is); (case a15 => k_is); (case l15 => k_is); (case c15 => k_is); (case k15 => k_is); (case a16 => k_is); (case l16 => k_is); (case c16 => k_is); (case k16 => k_is); (case a17 => k_is); (case l17 => k_is); (case c17 => k_is); (case k17 => k_is); (case a18 => k_is); (case l18 => k_is); (case c18 => k_is); (case k18 => k_is); (case a19 => k_is); (case l19 => k_is); (case c19 => k_is); (case k19 => k_is); (case a20 => k_is); (case l20 => k_is); (case c20 => k_is); (case k20 => k_is); (case a21 => k_is); (case l21 => k_is); (case c21 => k_is); (case k21 => k_is); (case a22 => k_is); (case l22 => k_is); (case c22 => k_is); (case k22 => k_is); (case a23 => k_is); (case l23 => k_is); (case c23 => k_is); (case k23 => k_is); (case a24 => k_is); (case l24 => k_is); (case c24 => k_is); (case k24 => k_is); (case a25 => k_is); (case l25 => k_is); (case c25 => k_is); (case k25 => k_is); (case a26 => k_is); (case l26 => k_is); (case c26 => k_is); (case k26 => k_is); (case z_isinstance => k_is); (case z_int => k_is); (case z_bool => k_is); (case z_len => k_is); (case z_max => k_is); (case z_min => k_is); (case z_abs => k_is); (case z_range => k_is); (case z_tuple => k_is); (case z_list => k_is); (case z_all => k_is); (case z_zip => k_is); (case z_sorted => k_is); (case z_reversed => k_is); (case y_BOUND => k_is); (case y_LIMIT => k_is); (case yMAX_PLACES_webs => k_is); (case yMAX_PLACES_making => k_is); (case yMAX_DEPTH => k_is); (case kN_C => k_is); (case kpg_C => k_is); (case khd_C => k_is); (case kpo_C => k_is); (case ksa_C => k_is); (case kmk_C => k_is); (case kkc_C => k_is); (case kne_C => k_is); (case kso_C => k_is); (case kcl_C => k_is); (case kcg_C => k_is); (case kct_C => k_is); (case kmo_C => k_is); (case kf_rows_C => k_is); (case kf_lone_depth_C => k_is); (case ma_C_init => k_is); (case mi_C_init => k_is); (case ml_C_init => k_is); (case mc_C_init => k_is); (case mk_C_init => k_is); (case mf_C_init => k_is); (case ma_C_len => k_is); (case mi_C_len => k_is); (case ml_C_len => k_is); (case mc_C_len => k_is); (case mk_C_len => k_is); (case mf_C_len => k_is); (case ma_C_getitem => k_is); (case mi_C_getitem => k_is); (case ml_C_getitem => k_is); (case mc_C_getitem => k_is); (case mk_C_getitem => k_is); (case mf_C_getitem => k_is); (case ma_C_is_place => k_is); (case mi_C_is_place => k_is); (case ml_C_is_place => k_is); (case mc_C_is_place => k_is); (case mk_C_is_place => k_is); (case mf_C_is_place => k_is); (case ma_C_check_place => k_is); (case mi_C_check_place => k_is); (case ml_C_check_place => k_is); (case mc_C_check_place => k_is); (case mk_C_check_place => k_is); (case mf_C_check_place => k_is); (case ma_C_eq => k_is); (case mi_C_eq => k_is); (case ml_C_eq => k_is); (case mc_C_eq => k_is); (case mk_C_eq => k_is); (case mf_C_eq => k_is); (case pa_C_rows => k_is); (case pg_C_rows => k_is); (case pt_C_rows => k_is); (case pr_C_rows => k_is); (case ml_C_rows => k_is); (case mc_C_rows => k_is); (case mk_C_rows => k_is)
