import PyProof.Rows.All
import Wide.All
import OpenK.AllK
import Wide.FinOn
import HandS.ForMost
import HandS.ForExc
import HandS.IsInst
import HandS.StrMore
import HandS.Style
import HandS.Property
import HandS.Flow
import HandS.TryMany
import HandS.ExcInit
import HandS.ExcIs
import HandS.ExcField
import HandS.Defaults
import HandS.Wide
import HandS.Walk
import HandS.FStr
import HandS.Conv
import HandS.SortInts
import HandS.More
import PyProof.CallFns
import PyProof.FString3
import PyProof.Rows.StrIntSpec
import HandS.HotCalls
import PyProof.InstEq
import HandS.Small
import PyProof.P3Eq
import PyProof.Rows.StrSplitMax
import PyProof.StrLawsIn
import PyProof.FitsReplace
import PyProof.ReprRoads
import HandS.NamedTupGet
import HandS.OwnEq
import HandS.MakeKw
import HandS.Zip
import HandS.Zip0
import HandS.WrittenGet
import PyProof.ZipIter
import HandS.Sort
import HandS.TupAny
import HandS.RaiseMore
import HandS.ExcValue
import HandS.DeepEq
import HandS.DictComp
import KE.KRevSl
import HandS.RaiseFrom
import HandS.ExcInitHot
import PyProof.InstNe
import KE.KTryMore
import HandS.TupLe
import HandS.SetFor
import HandS.Deep
import HandS.TupSets
import HandS.SetBool
import PyProof.StrLawsChain
import PyProof.Rows.StrCase
import HandS.SortRule
import HandS.TupMul
import PySem.Challenge.RW_neverunsaid_k32_letters_judged
set_option Elab.async false
set_option linter.all false
set_option maxRecDepth 100000
set_option maxHeartbeats 4000000
namespace Nv
open PySem PySem.Spec PyProof.Rows L2

/-- a def's promise where no repr is under way -/
structure FnG (P : Program) (w : World) (K : PySem.W.Frag) (mg : Str → Option Value) (base : Heap) (k : Nat)
    (f : Addr) (fd : FuncData) (ps : List Str) (sp : Sp) : Prop where
  len : ∀ vs H Q E, sp vs H Q E → vs.length = ps.length
  run : ∀ (A : Around) (outer : List Env) (s : Shared) (H : Hp) (args : Args) (us : List Value) (vs : List V) (Q : VK) (E : XK),
    A.guards = some [] → Room k A → Env0 P w K mg base A outer s H → BindsTo s fd args (ps.zip us) → Vals vs us →
    sp vs H Q E → codeAny (model P w) A (.call (.ref f) args) (CR (L2.CX P w) outer P w H s Q E) s

section
variable {P : Program} {w : World} {K : PySem.W.Frag} {mg : Str → Option Value} {base : Heap} {k : Nat}
    {f : Addr} {fd : FuncData} {ps : List Str} {sp : Sp}
theorem FnG.mono {j : Nat} (F : FnG P w K mg base j f fd ps sp) (h : j ≤ k) : FnG P w K mg base k f fd ps sp :=
  ⟨F.len, fun A o s H a us vs Q E hg hr => F.run A o s H a us vs Q E hg (hr.mono h)⟩
theorem FnG.imp {sp' : Sp} (F : FnG P w K mg base k f fd ps sp) (h : ∀ vs H Q E, sp' vs H Q E → sp vs H Q E) :
    FnG P w K mg base k f fd ps sp' :=
  ⟨fun vs H Q E z => F.len vs H Q E (h _ _ _ _ z),
    fun A o s H a us vs Q E hg hr he hb hv hs => F.run A o s H a us vs Q E hg hr he hb hv (h _ _ _ _ hs)⟩
/-- a def by its body -/
theorem okG {x qual : Str} {st : Stmt} {N : List Str} (F : Fun K x qual st f fd) (S : FnScope N ps (defScope st))
    (len : ∀ vs H Q E, sp vs H Q E → vs.length = ps.length)
    (body : ∀ (cdv : Value) (A : Around) (outer : List Env) (s : Shared) (H : Hp) (vs : List V) (Q : VK) (E : XK),
      A.guards = some [] → Room k (A.deeper (envOfC qual (defScope st) s.heap.objs.size f cdv)) → sp vs H Q E →
      ∃ t, PSs (cxOf (L2.CX P w) P w K mg base N qual (defScope st) f cdv A outer s H E) (defBody st) t ∧
        t { nx := fun _ H' => Q .non H', rt := Q } (start N vs) H) :
    FnG P w K mg base (k + 1) f fd ps sp := by
  obtain ⟨oc, od, kV, doc, pm, an, cdv, ct, osl, rfl, lk, hcd⟩ := F.ex
  refine ⟨len, ?_⟩
  intro A outer s H args us vs Q E hg hr e0 hb r hsp
  have hl := len _ _ _ _ hsp
  have stays : ∀ b o, base.get? b = some o → s.heap.get? b = some o := fun b o e => (e0.bs b o e).1
  have KX : K.In s.heap := e0.mod.kin.keeps stays
  have kinds : ∀ y ∈ ps.zip us, (defScope st).names.lookup y.1 = some .local ∨
      ((defScope st).names.lookup y.1 = some .cell ∧
        ((cellsFrom (s.heap.objs.size + 1) (defScope st).names []).lookup y.1).isSome = true) := by
    intro y hy
    rcases S.par y.1 (List.of_mem_zip (a := y.1) (b := y.2) hy).1 with q | q
    · exact Or.inl q
    · exact Or.inr ⟨q, PySem.W.cellsFrom_some _ _ _ (Or.inl q)⟩
  refine codeAny_call_function hr.depth (KX _ _ lk) rfl S.co S.gen rfl (PySem.W.codeRec_of KX hcd) (hb _ _ _ _ ?_)
  refine wpAny_newFunctionEnv_cells S.kind kinds ?_
  intro env he s1 x
  subst he
  refine ⟨(e0.mod.nolimit.keeps stays).keeps x.toInCall.keep, codeAny_func ?_⟩
  obtain ⟨t, ht, hq⟩ := body cdv A outer s H vs Q E hg (hr.deeper _) hsp
  have I := inv_start (CX := L2.CX P w) (E := E) S hr.hd e0 hl r x
  refine wpAny_mono (ht.run [] s1 (start N vs) H _ I hq) ?_ (fun _ _ z => z)
  intro fl s' hs
  have fin : ∀ {σ' : L2.St} {H' : Hp} {v : V} {u : Value},
      Inv (cxOf (L2.CX P w) P w K mg base N qual (defScope st) f cdv A outer s H E) [] σ' H' s' → RelV v u → Q v H' →
      CE outer P w H s Q u s' := fun {σ' H' v u} J rv q => ⟨v, H', J.os, J.bare, J.base, J.hok, rv, q⟩
  cases fl with
  | next => obtain ⟨_, _, J, q⟩ := hs; exact fin (v := V.non) (u := Value.none) J rfl q
  | ret u => obtain ⟨_, _, _, J, rv, q⟩ := hs; exact fin J rv q
  | brk => obtain ⟨_, _, _, q⟩ := hs; exact q.elim
  | cont => obtain ⟨_, _, _, q⟩ := hs; exact q.elim
end

/-! calls -/
section
variable {X : Cx} {W : WX} {k : Nat} {f C : Addr} {fd : FuncData} {ps ks : List Str} {sp : Sp} {x m : Str}
    {p pos apos : Pos} {e o : Expr} {es : List Expr} {kws : List Keyword} {ta : TE} {t tk' : TA}
theorem runG {pins : List (Addr × Obj)} {σ : L2.St} {H : Hp} {s : Shared} {Q : VK} {us us2 : List Value} {vs : List V} {kw : List (Str × Value)}
    (F : FnG X.prog X.w X.K X.mg X.base k f fd ps sp) (tk : Takes X W) (hG : X.A.guards = some []) (hr : Room k X.A)
    (hb : BindsTo s fd ⟨us, kw⟩ (ps.zip us2)) (I : Inv X pins σ H s) (r : Vals vs us2) (h : sp vs H Q (WE W σ)) :
    wpAny (model X.prog X.w) X.A (call (.ref f) us kw) (EP X pins σ Q) X.xe s := by
  refine wpAny_call (codeAny_mono (F.run X.A X.stack s H ⟨us, kw⟩ us2 vs Q (WE W σ) hG hr I.env0 hb r h) ?_)
  intro r s' hq
  cases r with
  | error er => exact passAt tk σ pins H s er s' I hq
  | ok fl =>
    cases fl with
    | ret u => exact I.after hq
    | next => exact hq.elim
    | brk => exact hq.elim
    | cont => exact hq.elim
theorem lenG {us : List Value} {vs : List V} {H : Hp} {Q : VK} {E : XK} (F : FnG X.prog X.w X.K X.mg X.base k f fd ps sp)
    (r : Vals vs us) (h : sp vs H Q E) : us.length = ps.length := by
  rw [← r.length]
  exact F.len _ _ _ _ h
/-- all parameters are given by position -/
def Pos1 (fd : FuncData) (ps : List Str) : Prop := ∀ us : List Value, us.length = ps.length → bindArgs fd ⟨us, []⟩ = pure (ps.zip us)
/-- n parameters are given by position, those behind them by their names -/
def Kw1 (fd : FuncData) (ps ks : List Str) (n : Nat) : Prop :=
  ∀ us ws : List Value, us.length = n → ws.length = ks.length → bindArgs fd ⟨us, ks.zip ws⟩ = pure (ps.zip (us ++ ws))
/-- f(e, ..), also where it may raise -/
def tCG (sp : Sp) (W : WX) (t : TA) : TE := fun σ H Q => t σ H fun vs H1 => sp vs H1 Q (WE W σ)
theorem pe_cG (F : FnG X.prog X.w X.K X.mg X.base k f fd ps sp) (b : Pos1 fd ps) (tk : Takes X W) (hG : X.A.guards = some []) (hr : Room k X.A)
    (hm : X.mg x = some (.ref f)) (hk : PySem.W.keepIn X.K (.ref f) = true) (ha : PA X (e :: es) t) (hg : Gl X x := by rfl)
    (hdb : (x == ("__debug__" : Str)) = false := by decide) (he : starEach (e :: es) X.env = (false, eval e X.env) :: starEach es X.env := by rfl)
    (hpl : (backTo pos (starEach es X.env)).any (·.1) = false := by rfl) : PE X (.Call (.Name x p) (e :: es) [] pos) (tCG sp W t) := by
  constructor
  intro pins s σ H Q I h
  refine wpAny_Call_Name_kw (ld_glob I hg hm ?_ hdb)
  refine PySem.W.callWith_K (h₀ := X.base) I.ok.mod.kin hk (thn (ha.run pos pins s σ H _ I h) ?_) he hpl
  intro us s1 ⟨vs, H1, I1, r, q⟩
  exact ⟨I1.kIn, runG F tk hG hr (.of_eq (b _ (lenG F r q))) I1 r q⟩
theorem pe_cG0 (F : FnG X.prog X.w X.K X.mg X.base k f fd ps sp) (b : Pos1 fd ps) (tk : Takes X W) (hG : X.A.guards = some []) (hr : Room k X.A)
    (hm : X.mg x = some (.ref f)) (hk : PySem.W.keepIn X.K (.ref f) = true) (hg : Gl X x := by rfl)
    (hdb : (x == ("__debug__" : Str)) = false := by decide) : PE X (.Call (.Name x p) [] [] pos) (tCG sp W tNil) := by
  constructor
  intro pins s σ H Q I h
  refine wpAny_Call_Name_kw (ld_glob I hg hm ?_ hdb)
  exact PySem.W.callWith_K0 I.kIn hk (runG F tk hG hr (.of_eq (b [] (lenG F .nil h))) I .nil h)
/-- f(k = e, ..), keywords in the parameters' order -/
theorem pe_cGk (F : FnG X.prog X.w X.K X.mg X.base k f fd ps sp) (b : Kw1 fd ps ks 0) (hlen : ps.length = ks.length) (tk : Takes X W) (hG : X.A.guards = some []) (hr : Room k X.A)
    (hm : X.mg x = some (.ref f)) (hk : PySem.W.keepIn X.K (.ref f) = true) (ha : PK X kws t) (hg : Gl X x := by rfl)
    (hall : (backToKw pos (keywordEach kws X.env)).all (·.1.isSome) = true := by rfl) (hks : (backToKw pos (keywordEach kws X.env)).filterMap (·.1) = ks := by rfl)
    (hdb : (x == ("__debug__" : Str)) = false := by decide)
    (hpl : ((backTo pos (starEach [] X.env)).any (·.1) || (backToKw pos (keywordEach kws X.env)).any (·.1.isNone)) = false := by rfl) :
    PE X (.Call (.Name x p) [] kws pos) (tCG sp W t) := by
  constructor
  intro pins s σ H Q I h
  refine wpAny_Call_Name_kw (ld_glob I hg hm ?_ hdb)
  refine PySem.W.callWith_KW0 (h₀ := X.base) I.ok.mod.kin hk hall ?_ hpl
  refine thn (ha.run pos pins s σ H _ I h) ?_
  intro ws s2 ⟨zs, H2, I2, rz, q2⟩
  refine ⟨I2.kIn, ?_⟩
  rw [hks]
  exact runG F tk hG hr (.of_eq (b [] ws rfl ((lenG F rz q2).trans hlen))) I2 rz q2
/-- o.m(e, ..) -/
def tMG (C : Addr) (m : Str) (sp : Sp) (W : WX) (ta : TE) (t : TA) : TE := fun σ H Q => ta σ H fun x H1 => ∃ a dx fs, x = .ref a ∧ H1 a = some (.ins C dx fs) ∧
  fs.lookup m = none ∧ t σ H1 fun vs H2 => sp (x :: vs) H2 Q (WE W σ)
theorem pe_mG {pl : Sem Bool} (he : PE X o ta) (c : Cls X.K C) (hm : Meth X.K C m f) (F : FnG X.prog X.w X.K X.mg X.base k f fd ps sp) (b : Pos1 fd ps) (tk : Takes X W)
    (hG : X.A.guards = some []) (hr : Room k X.A) (ha : PA X (e :: es) t)
    (hst : starEach (e :: es) X.env = (false, eval e X.env) :: starEach es X.env := by rfl) (hpl : (backTo pos (starEach es X.env)).any (·.1) = false := by rfl)
    (ht : eval (.Call (.Attribute o m apos) (e :: es) [] pos) X.env = (do
      let ov ← eval o X.env
      standAt apos.atName
      let (f, first) ← holding [ov] (getMethod ov m pl)
      callWith pos f first (backTo pos (starEach (e :: es) X.env)) (backToKw pos (keywordEach [] X.env))) := by rfl) :
    PE X (.Call (.Attribute o m apos) (e :: es) [] pos) (tMG C m sp W ta t) := by
  constructor
  intro pins s σ H Q I h
  refine PySem.W.methodCall_KW (pl := pl) (thn (he.run pins s σ H _ I h) ?_) ht
  intro u s1 ⟨x, H1, I1, rx, a, dx, fs, ex, ea, l, q⟩
  subst ex
  obtain rfl : u = Value.ref a := rx
  refine getmeth_ok I1 ea c hm l ?_
  refine PySem.W.callWith_K (first := [.ref a]) (h₀ := X.base) I.ok.mod.kin hm.kp (thn (ha.run pos pins s1 σ H1 _ I1 q) ?_) hst hpl
  intro us s2 ⟨vs, H2, I2, r, q2⟩
  have r2 : Vals (V.ref a :: vs) (Value.ref a :: us) := .cons rfl r
  exact ⟨I2.kIn, runG (us := .ref a :: us) F tk hG hr (.of_eq (b _ (lenG F r2 q2))) I2 r2 q2⟩
theorem pe_mG0 {pl : Sem Bool} (he : PE X o ta) (c : Cls X.K C) (hm : Meth X.K C m f) (F : FnG X.prog X.w X.K X.mg X.base k f fd ps sp) (b : Pos1 fd ps) (tk : Takes X W)
    (hG : X.A.guards = some []) (hr : Room k X.A)
    (ht : eval (.Call (.Attribute o m apos) [] [] pos) X.env = (do
      let ov ← eval o X.env
      standAt apos.atName
      let (f, first) ← holding [ov] (getMethod ov m pl)
      callWith pos f first (backTo pos (starEach [] X.env)) (backToKw pos (keywordEach [] X.env))) := by rfl) :
    PE X (.Call (.Attribute o m apos) [] [] pos) (tMG C m sp W ta tNil) := by
  constructor
  intro pins s σ H Q I h
  refine PySem.W.methodCall_KW (pl := pl) (thn (he.run pins s σ H _ I h) ?_) ht
  intro u s1 ⟨x, H1, I1, rx, a, dx, fs, ex, ea, l, q⟩
  subst ex
  obtain rfl : u = Value.ref a := rx
  refine getmeth_ok I1 ea c hm l ?_
  have r2 : Vals [V.ref a] [Value.ref a] := .cons rfl .nil
  exact PySem.W.callWith_K0 (first := [.ref a]) I1.kIn hm.kp (runG (us := [.ref a]) F tk hG hr (.of_eq (b _ (lenG F r2 q))) I1 r2 q)
/-- o.m(k = e, ..) -/
theorem pe_mGk {pl : Sem Bool} (he : PE X o ta) (c : Cls X.K C) (hm : Meth X.K C m f) (F : FnG X.prog X.w X.K X.mg X.base k f fd ps sp) (b : Kw1 fd ps ks 1) (hlen : ps.length = ks.length + 1) (tk : Takes X W)
    (hG : X.A.guards = some []) (hr : Room k X.A) (ha : PK X kws t)
    (hall : (backToKw pos (keywordEach kws X.env)).all (·.1.isSome) = true := by rfl) (hks : (backToKw pos (keywordEach kws X.env)).filterMap (·.1) = ks := by rfl)
    (hpl : ((backTo pos (starEach [] X.env)).any (·.1) || (backToKw pos (keywordEach kws X.env)).any (·.1.isNone)) = false := by rfl)
    (ht : eval (.Call (.Attribute o m apos) [] kws pos) X.env = (do
      let ov ← eval o X.env
      standAt apos.atName
      let (f, first) ← holding [ov] (getMethod ov m pl)
      callWith pos f first (backTo pos (starEach [] X.env)) (backToKw pos (keywordEach kws X.env))) := by rfl) :
    PE X (.Call (.Attribute o m apos) [] kws pos) (tMG C m sp W ta t) := by
  constructor
  intro pins s σ H Q I h
  refine PySem.W.methodCall_KW (pl := pl) (thn (he.run pins s σ H _ I h) ?_) ht
  intro u s1 ⟨x, H1, I1, rx, a, dx, fs, ex, ea, l, q⟩
  subst ex
  obtain rfl : u = Value.ref a := rx
  refine getmeth_ok I1 ea c hm l ?_
  refine PySem.W.callWith_KW0 (first := [.ref a]) (h₀ := X.base) I.ok.mod.kin hm.kp hall ?_ hpl
  refine thn (ha.run pos pins s1 σ H1 _ I1 q) ?_
  intro ws s2 ⟨zs, H2, I2, rz, q2⟩
  refine ⟨I2.kIn, ?_⟩
  rw [hks]
  have r2 : Vals (V.ref a :: zs) (Value.ref a :: ws) := .cons rfl rz
  have hw : ws.length = ks.length := by
    have z := lenG F r2 q2
    rw [List.length_cons, hlen] at z
    omega
  exact runG (us := [.ref a]) F tk hG hr (.of_eq (b [.ref a] ws rfl hw)) I2 r2 q2
end
end Nv

namespace Nv
open PySem PySem.Spec PyProof.Rows L2

/-- the law's call, from an abstract heap that tracks the script alone or nothing -/
theorem law_from {P : Program} {w : World} {K : PySem.W.Frag} {mg mb : Str → Option Value} {k : Nat} {fa a : Addr} {fd : FuncData} {x : Str} {sp : Sp}
    {s₁ : Shared} {vs : List Value} {H : Hp}
    (KX : K.In s₁.heap) (hns : s₁.heap.Ns mainGlobals mg) (hb : s₁.heap.Ns builtinsNs mb) (hbb : ∀ x : Str, x ≠ "__name__" → mb x = bootBuiltins x)
    (hlim : s₁.heap.NoLimit) (hg : s₁.gens = #[]) (ha : s₁.heap.get? a = some { cls := .type "list", data := .seq vs.toArray }) (hr : Room k callerA)
    (F : ∀ base : Heap, K.In base → base.Ns mainGlobals mg → FnG P w K mg base k fa fd [x] sp) (hbind : ∀ (s : Shared) (u : Value), BindsTo s fd ⟨[u], []⟩ [(x, u)])
    (hok : HOk P w H s₁.heap) (only : ∀ b, H b = none ∨ (b = a ∧ K.lookup a = none ∧ ∃ o xs, H b = some (.frz o (.lst xs))))
    (hsp : sp [.ref a] H (fun v _ => v = .bl true) fun _ _ _ => False) :
    codeAny (model P w) callerA (.call (.ref fa) ⟨[.ref a], []⟩)
      (fun r s' => r = .ok (.ret (.bool true)) ∧ OldK s₁.heap s'.heap ∧ s'.os = s₁.os ∧ AllBare s'.gens) s₁ := by
  have notA : ∀ {b : Addr} {o : Obj} {es : Array DictEntry} {ep : Nat}, s₁.heap.get? b = some o → o.data = .dict es ep → H b = none := by
    intro b o es ep e d
    rcases only b with z | ⟨z, _, _⟩
    · exact z
    · subst z
      rw [ha] at e
      cases e
      cases (show Data.seq vs.toArray _ = Data.dict es ep from d)
  have nsKeep : ∀ {b : Addr} {m : Str → Option Value}, s₁.heap.Ns b m → (hidT s₁.heap H).Ns b m := by
    intro b m ⟨o, es, ep, e, d, r⟩
    exact ⟨o, es, ep, hidT_get e (notA e d), d, r⟩
  have kin : K.In (hidT s₁.heap H) := by
    intro b o e
    refine hidT_get (KX b o e) ?_
    rcases only b with z | ⟨z, z2, _⟩
    · exact z
    · rw [z, z2] at e
      cases e
  have lim : (hidT s₁.heap H).NoLimit := by
    obtain ⟨mc, h1, h2⟩ := hlim
    exact ⟨mc, nsKeep h1, h2⟩
  have md : Mod K mg (hidT s₁.heap H) := ⟨kin, nsKeep hns, ⟨mb, nsKeep hb, hbb⟩, lim⟩
  have noF : ∀ b : Addr, b ∉ frs [] := fun b z => by
    cases (show b ∈ ([] : List Addr) from z)
  have e0 : Env0 P w K mg (hidT s₁.heap H) callerA [] s₁ H :=
    ⟨rfl, md, fun b o e => of_hidT e, Nat.le_of_eq (hidT_size _ _), trivial, fun b z => absurd z (noF b), hok, .of_eq hg⟩
  refine codeAny_mono ((F _ kin (nsKeep hns)).run callerA [] s₁ H ⟨[.ref a], []⟩ [.ref a] [.ref a] _ _ rfl hr e0 (hbind s₁ (.ref a)) (.cons rfl .nil) hsp) ?_
  intro r s' h
  cases r with
  | error e =>
    obtain ⟨_, _, _, _, _, _, _, _, _, _, _, _, z⟩ := h
    exact z.elim
  | ok fl =>
    cases fl with
    | next => exact h.elim
    | brk => exact h.elim
    | cont => exact h.elim
    | ret u =>
      obtain ⟨v, H', os, bare, un, hok', rv, q⟩ := h
      have q1 : v = .bl true := q
      subst q1
      obtain rfl : u = Value.bool true := rv
      refine ⟨rfl, OldK.of_keep ?_, os, bare⟩
      intro b o e
      rcases only b with z | ⟨_, _, ob, xs, z⟩
      · exact un.keep b o e z (noF b) (fun z => by cases z)
      · have z2 := un.frzs b ob _ z
        have e1 := (hok b _ z).1
        have e2 := (hok' b _ z2).1
        rw [e] at e1
        cases e1
        exact e2

/-- the end of a law's row: its promise as a FnG -/
theorem walkG {l : PySem.W.OpenLaw} {n k : Nat} {q : Program} {loose : List Str} {XP : (Str → Option Value) → Heap → Prop} {YP : World → Heap → Prop}
    {d : DefRec} {K : Params → PySem.W.Frag} {sp : PySem.W.Frag → Sp} {x : Str}
    (hn : l.most = some n) (hn2 : n ≤ sizeLine) (hdf : d.params.defaults = []) (hr : Room k callerA)
    (hY : ∀ (w : World) (h : Heap), YP w h → (K w.params).In h)
    (F : ∀ (w : World) (mg : Str → Option Value) (fa : Addr) (h : Heap), (K w.params).In h → h.Ns mainGlobals mg → mg d.name = some (.ref fa) →
      ∃ fd : FuncData, (∀ (s : Shared) (u : Value), BindsTo s fd ⟨[u], []⟩ [(x, u)]) ∧
        ∀ base : Heap, (K w.params).In base → base.Ns mainGlobals mg → FnG l.prog w (K w.params) mg base k fa fd [x] (sp (K w.params)))
    (hsp : ∀ (K : PySem.W.Frag) (H : Hp) (a : Addr) (ns : List Int), ns.length ≤ n → SqL K H a (ns.map V.int) → sp K [.ref a] H (fun v _ => v = .bl true) fun _ _ _ => False) :
    PySem.W.WalkO q loose XP YP l.row.toRowW d [] (fun f vs => PySem.call f vs) := by
  refine Att.attach_call hn hdf ?_
  intro w s₀ s₁ mg mb fa o pm cd doc a vs ns G Y ho hd hcd hmg hobj hints hlen hg
  have KX := hY w _ Y
  obtain ⟨fd, hb, hF⟩ := F w mg fa _ KX G.T.g hmg
  have rv := vals_ints hints
  have lv := hints.length
  have hlz : ns.length ≤ sizeLine := Nat.le_trans hlen hn2
  cases hk : (K w.params).lookup a with
  | some ob =>
    have e := KX a ob hk
    rw [hobj] at e
    cases e
    refine law_from (H := fun _ => none) KX G.T.g G.T.b G.T.builtins G.T.nolimit hg hobj hr hF hb (fun b u z => by cases z) (fun _ => .inl rfl) (hsp _ _ a ns hlen ?_)
    exact .inr ⟨_, vs.toArray, _, hk, rfl, rfl, rfl, by rw [List.size_toArray, lv]; exact hlz, by simpa using rv⟩
  | none =>
    have at1 : ∀ (o : HO) , (fun b => if b = a then some o else none : Hp) a = some o := fun o => if_pos rfl
    refine law_from (H := fun b => if b = a then some (.frz { cls := .type "list", data := .seq vs.toArray } (.lst (ns.map V.int))) else none)
      KX G.T.g G.T.b G.T.builtins G.T.nolimit hg hobj hr hF hb ?_ ?_ (hsp _ _ a ns hlen (.inl (.inr ⟨_, at1 _⟩)))
    · intro b u z
      by_cases h : b = a
      · subst h
        rw [at1] at z
        cases z
        exact ⟨hobj, by rw [List.length_map]; exact hlz, vs, _, rv, hobj⟩
      · have z2 := (if_neg h).symm.trans z
        cases z2
    · intro b
      by_cases h : b = a
      · exact .inr ⟨h, hk, _, _, if_pos h⟩
      · exact .inl (if_neg h)
end Nv

namespace Nv
open PySem PySem.Spec PyProof.Rows L2

/-! data that stands in the heap, dicts too -/
def keyD : Key → PyData
  | .inl i => .int i
  | .inr x => .str x
mutual
inductive DV (H : Hp) : V → PyData → Prop
  | non : DV H .non .none
  | bl (b : Bool) : DV H (.bl b) (.bool b)
  | int (i : Int) : DV H (.int i) (.int i)
  | str (x : Str) : DV H (.str x) (.str x)
  | lst {a : Addr} {xs : List V} {ds : List PyData} : H a = some (.lst xs) → a ≠ sysModules → DVs H xs ds → DV H (.ref a) (.list ds)
  | tup {a : Addr} {xs : List V} {ds : List PyData} : H a = some (.tup xs) → DVs H xs ds → DV H (.ref a) (.tuple ds)
  | dct {a : Addr} {kvs : List (Key × V)} {ds : List (PyData × PyData)} : H a = some (.dK kvs) → DVk H kvs ds → DV H (.ref a) (.dict ds)
inductive DVs (H : Hp) : List V → List PyData → Prop
  | nil : DVs H [] []
  | cons {v : V} {vs : List V} {d : PyData} {ds : List PyData} : DV H v d → DVs H vs ds → DVs H (v :: vs) (d :: ds)
inductive DVk (H : Hp) : List (Key × V) → List (PyData × PyData) → Prop
  | nil : DVk H [] []
  | cons {k : Key} {v : V} {vs : List (Key × V)} {d : PyData} {ds : List (PyData × PyData)} : DV H v d → DVk H vs ds → DVk H ((k, v) :: vs) ((keyD k, d) :: ds)
end
mutual
theorem DV.mono {H H' : Hp} (e : ∀ a o, H a = some o → H' a = some o) : ∀ {v : V} {d : PyData}, DV H v d → DV H' v d
  | _, _, .non => .non
  | _, _, .bl b => .bl b
  | _, _, .int i => .int i
  | _, _, .str x => .str x
  | _, _, .lst h n r => .lst (e _ _ h) n (DVs.mono e r)
  | _, _, .tup h r => .tup (e _ _ h) (DVs.mono e r)
  | _, _, .dct h r => .dct (e _ _ h) (DVk.mono e r)
theorem DVs.mono {H H' : Hp} (e : ∀ a o, H a = some o → H' a = some o) : ∀ {vs : List V} {ds : List PyData}, DVs H vs ds → DVs H' vs ds
  | _, _, .nil => .nil
  | _, _, .cons h r => .cons (DV.mono e h) (DVs.mono e r)
theorem DVk.mono {H H' : Hp} (e : ∀ a o, H a = some o → H' a = some o) : ∀ {vs : List (Key × V)} {ds : List (PyData × PyData)}, DVk H vs ds → DVk H' vs ds
  | _, _, .nil => .nil
  | _, _, .cons h r => .cons (DV.mono e h) (DVk.mono e r)
end

section
variable {X : Cx} {pins : List (Addr × Obj)} {σ : L2.St} {H : Hp} {s : Shared}
theorem readsKey {w : World} {h : Heap} {k : Key} {v : Value} (e : keyIs k v = true) : Reads h v (keyD k) [] := by
  rcases keyIs_shape e with ⟨i, t, rfl, rfl⟩ | ⟨x, t, rfl, rfl⟩
  · exact .int i t
  · exact .str x t
mutual
theorem DV.reads (I : Inv X pins σ H s) : ∀ {v : V} {d : PyData} {u : Value}, DV H v d → RelV v u → ∃ as, Reads s.heap u d as ∧ sysModules ∉ as
  | _, _, u, .non, r => by
    cases (show u = Value.none from r)
    exact ⟨[], .none, by simp⟩
  | _, _, u, .bl b, r => by
    cases (show u = Value.bool b from r)
    exact ⟨[], .bool b, by simp⟩
  | _, _, u, .int i, r => by
    obtain ⟨t, rfl⟩ := (show ∃ t, u = Value.int i t from r)
    exact ⟨[], .int i t, by simp⟩
  | _, _, u, .str x, r => by
    obtain ⟨t, rfl⟩ := (show ∃ t, u = Value.str x t from r)
    exact ⟨[], .str x t, by simp⟩
  | _, _, u, @DV.lst _ a xs ds h n q, r => by
    cases (show u = Value.ref a from r)
    obtain ⟨_, its, m, rv, e⟩ := (show ObjOk X.prog X.w H s.heap a (.lst xs) from I.hok a _ h)
    obtain ⟨as, ra, na⟩ := DVs.reads I q rv
    refine ⟨a :: as, .list e rfl rfl ra, fun z => ?_⟩
    rcases List.mem_cons.mp z with z | z
    · exact n z.symm
    · exact na z
  | _, _, u, @DV.tup _ a xs ds h q, r => by
    cases (show u = Value.ref a from r)
    obtain ⟨_, its, rv, o, e1, e2, m, e3⟩ := (show ObjOk X.prog X.w H s.heap a (.tup xs) from I.hok a _ h)
    obtain ⟨as, ra, na⟩ := DVs.reads I q rv
    exact ⟨as, .tuple e1 e2 e3 ra, na⟩
  | _, _, u, @DV.dct _ a kvs ds h q, r => by
    cases (show u = Value.ref a from r)
    obtain ⟨_, ns, vs, rel, o, es, ep, e1, e2, e3, _, pr, _⟩ := (show ObjOk X.prog X.w H s.heap a (.dK kvs) from I.hok a _ h)
    obtain ⟨as, bs, k1, k2, n1, n2⟩ := DVk.reads I q rel pr
    refine ⟨a :: as ++ bs, .dict e1 e2.1 e3 k1 k2, fun z => ?_⟩
    have na : a ≠ sysModules := fun z => by
      rw [z] at ns
      simp at ns
    rcases List.mem_cons.mp z with z | z
    · exact na z.symm
    · rcases List.mem_append.mp z with z | z
      · exact n1 z
      · exact n2 z
theorem DVs.reads (I : Inv X pins σ H s) : ∀ {vs : List V} {ds : List PyData} {us : List Value}, DVs H vs ds → Vals vs us → ∃ as, ReadsAll s.heap us ds as ∧ sysModules ∉ as
  | _, _, _, .nil, .nil => ⟨[], .nil, by simp⟩
  | _, _, _, .cons h q, .cons r t => by
    obtain ⟨as, r1, n1⟩ := DV.reads I h r
    obtain ⟨bs, r2, n2⟩ := DVs.reads I q t
    exact ⟨as ++ bs, .cons r1 r2, fun z => (List.mem_append.mp z).elim n1 n2⟩
theorem DVk.reads (I : Inv X pins σ H s) : ∀ {kvs : List (Key × V)} {ds : List (PyData × PyData)} {vs : List (Key × Value)} {es : List DictEntry}, DVk H kvs ds → KV kvs vs → Pairs (mixKind X.prog X.w) es vs →
    ∃ as bs, ReadsAll s.heap (es.map (fun x => x.key)) (ds.map (fun x => x.1)) as ∧ ReadsAll s.heap (es.map (fun x => x.val)) (ds.map (fun x => x.2)) bs ∧ sysModules ∉ as ∧ sysModules ∉ bs
  | _, _, _, _, .nil, .nil, p => by
    cases p
    exact ⟨[], [], .nil, .nil, by simp, by simp⟩
  | _, _, _, _, .cons (k := k) h q, .cons r t, p => by
    cases p with
    | cons p1 p2 p3 =>
      obtain ⟨rk, rv⟩ := r
      rw [← rk, mixKind_is] at p1
      rw [← p2] at rv
      obtain ⟨as, r1, n1⟩ := DV.reads I h rv
      obtain ⟨bs, cs, r2, r3, n2, n3⟩ := DVk.reads I q t p3
      have rd := readsKey (w := X.w) (h := s.heap) p1
      exact ⟨[] ++ bs, as ++ cs, .cons rd r2, .cons r1 r3, by simpa using n2, fun z => (List.mem_append.mp z).elim n1 n3⟩
end

/-- repr(x), x a list, a tuple or a dict of data -/
def rRepr : List V → Hp → VK → Prop := fun xs H Q => ∃ (a : Addr) (d : PyData), xs = [.ref a] ∧ DV H (.ref a) d ∧ d.showable = true ∧ d.depth ≤ 60 ∧ d.shown.length ≤ sizeLine ∧ Q (.str d.shown) H
theorem call_repr (hG : X.A.guards = some []) (hu : X.A.units + 64 < cLine) : CallR X (.builtin "repr") rRepr := by
  intro pins s σ H xs us Q I r h
  obtain ⟨a, d, rfl, hd, hs, hp, hz, q⟩ := h
  cases r with
  | cons r1 r2 =>
    cases r2
    cases r1
    obtain ⟨as, rd, na⟩ := DV.reads I hd rfl
    exact repr_of_reads' rd hs (fun _ => na) hG (by omega) (fun _ _ e => e) (fun h' u tk k => ⟨.str d.shown, H, I.kept k, ⟨u, rfl⟩, q⟩) hz
end
end Nv

namespace PySem.W
open PySem PySem.Spec PySem.Calls PyProof.Rows
section
variable {prog : Program} {w : World} {A : Around} {E : Value → Shared → Prop} {s : Shared} {K : Frag} {x D : Addr} {ox : Obj} {od : Option Obj}
/-- what isinstance asks of the class D of an own exception -/
structure NvCls (K : Frag) (D : Addr) : Prop where
  ga : findIn K (.ref D) "__getattribute__" = some (some (.builtin "BaseException.__getattribute__"))
  gt : findIn K (.ref D) "__getattr__" = some none
  sub : subIn K (.ref D) (.type "BaseException") = some true
  dct : hasDictIn K D = true
  cl : findIn K (.ref D) "__class__" = some (some (.builtin "object.__class__"))
  sp : specialIn K (.builtin "object.__class__") "__get__" = some (some (.builtin "getset_descriptor.__get__"))
  tk : takesIn K (.builtin "object.__class__") = some true
  mo : mroIn K D (.type "object") = some true
theorem nv_find (c : NvCls K D) : findObj K D od "__class__" = some (.bind (.builtin "getset_descriptor.__get__") (.builtin "object.__class__")) := by
  have hs : (clsIn K D).isSome = true := by
    obtain ⟨cd, h, _⟩ := any_some c.dct
    rw [h]
    rfl
  cases od with
  | none => exact findObj_dataN hs c.cl c.sp c.tk
  | some o => exact findObj_data hs c.cl c.sp c.tk
theorem nv_class {Q : Option Value → Shared → Prop} (c : NvCls K D) (X : K.In s.heap) (I : InstAt s.heap x ox D od)
    (h : Q (some (.ref D)) { s with toks := s.toks + 1 }) : wpAny (model prog w) A (getAttr? (.ref x) "__class__") Q E s := by
  have e1 : (false && onTheHeap (Value.builtin "BaseException.__getattribute__")) = false := rfl
  have e2 : (Value.builtin "BaseException.__getattribute__" == Value.builtin "object.__getattribute__") = false := by decide +kernel
  have e3 : (onTheHeap (Value.ref D) && Value.builtin "BaseException.__getattribute__" == Value.builtin "object.__getattribute__") = false := by
    rw [e2]
    rfl
  obtain ⟨hp, g, d, t, os⟩ := s
  have T0 := I.type (M := model prog w)
  have T1 := looks_findIn (M := model prog w) X c.ga
  have T2 := looks_findIn (M := model prog w) X c.gt
  have T3 := looks_find (M := model prog w) X I (nv_find (od := od) c)
  have T4 : Looks (model prog w) hp (isInstance (.ref x) (.type "BaseException")) true := T0.andThen (looks_subIn X c.sub)
  unfold getAttr? getAttrBy? getAttrBy
  refine wpAny_bind (wpAny_mkText (wpAny_bind (wpAny_attempt ?_)))
  refine wpAny_holding (wpAny_bind (T0.at (wpAny_bind (T1.at ?_))))
  show wpAny _ _ (if (onTheHeap (Value.ref D) && Value.builtin "BaseException.__getattribute__" == Value.builtin "object.__getattribute__") = true then _ else _) _ _ _
  rw [e3, if_neg Bool.false_ne_true]
  unfold getAttrByItsOwn hookBefore
  refine wpAny_bind ?_
  rw [if_pos (show onTheHeap (Value.ref D) = true from rfl)]
  refine T2.at (wpAny_bind (wpAny_attempt (wpAny_holding ?_)))
  unfold callGetattribute
  rw [e1, if_neg Bool.false_ne_true]
  unfold boundAndCalled
  rw [PySem.F.excAttr_ValueError.ga.bind (.ref x)]
  refine wpAny_bind (wpAny_pure ?_)
  show wpAny _ _ (call (.builtin "BaseException.__getattribute__") [.ref x, .str "__class__" t]) _ _ _
  refine wpAny_call (codeAny_call_builtin PySem.F.excAttr_ValueError.ga.plain PySem.F.entry_bexc_ga ?_)
  refine @check_slot (model prog w) _ _ ⟨hp, g, d, t + 1, os⟩ "BaseException.__getattribute__" "BaseException" "__getattribute__" (.ref x)
    [.str "__class__" t] [] _ (by decide +kernel) (by decide +kernel) T4 (PySem.F.args_bexc_ga (.ref x) (.str "__class__" t)) ?_
  unfold Builtin.«object.__getattribute__»
  refine wpAny_bind (wpAny_of_eq (a := ((Value.ref x : Value), [Value.str "__class__" t])) (by first | rfl | (simp only [slotArgs]; rfl)) ?_)
  refine wpAny_bind (wpAny_pure (wpAny_bind (T0.at (wpAny_bind (T3.at ?_)))))
  show wpAny _ _ (holding [Value.builtin "object.__class__"] (call (.builtin "getset_descriptor.__get__") [.builtin "object.__class__", .ref x, .ref D]) >>= ret) _ _ _
  refine wpAny_bind (wpAny_holding (wpAny_call (class_get (s := ⟨hp, g, d, t + 1, os⟩) (ox := ox) (od := od) X I c.mo ?_)))
  refine wpAny_pure ?_
  show wpAny _ _ (handedOut (.ref D)) _ _ _
  rw [handedOut_of (v := .ref D) rfl]
  first
    | exact wpAny_pure (wpAny_pure h)
    | exact wpAny_pure h
    | exact wpAny_pure (wpAny_bind (wpAny_pure (wpAny_pure h)))
theorem nv_kit (c : NvCls K D) : KitX K (.ref x) (.ref D) (fun h => ∃ od, InstAt h x ox D od) := by
  obtain ⟨cdD, hcD, _⟩ := any_some c.dct
  refine ⟨fun _ _ _ ⟨_, I⟩ => I.type, fun _ _ X _ => ?_, fun h tp dd its n sl X htp => ?_, fun X ⟨_, I⟩ k => nv_class c X I k⟩
  · unfold clsIn at hcD
    split at hcD
    · rename_i ho
      intro A' Q' E' s' k q
      unfold isType loadHead
      exact wpAny_bind (wpAny_loadPart (k _ _ (X _ _ ho)) (wpAny_pure q))
    · cases hcD
  · cases q : (Value.ref D == Value.ref tp) with
    | false => rfl
    | true =>
      have e : D = tp := Value.ref.inj (beq_iff_eq.mp q)
      subst e
      unfold clsIn at hcD
      split at hcD
      · rename_i ho
        have z := (X _ _ ho).symm.trans htp
        cases z
      · cases hcD
end
end PySem.W
namespace Nv
open PySem PySem.Spec PyProof.Rows L2

/-- isinstance(e, c), e the exception that the suite holds, with a dict of its own or without -/
def rIsX (K : PySem.W.Frag) (cls : Value) (a : Addr) : List V → Hp → VK → Prop := fun xs H Q => ∃ (D : Addr) (c : V) (cv : Value) (b : Bool), xs = [.ref a, c] ∧ cls = .ref D ∧
  PySem.W.NvCls K D ∧ (∀ u, RelV c u → u = cv) ∧ PySem.W.kitOne K (.ref D) cv = some b ∧ (∀ dd, H dd = H dd) ∧ Q (.bl b) H
/-- the dict of the held exception, if it has one, stands in the heap -/
def XDict (H : Hp) (d : Option Addr) : Prop := ∀ dd, d = some dd → ∃ fs, H dd = some (.xd fs)
def rIsXd (K : PySem.W.Frag) (cls : Value) (d : Option Addr) (a : Addr) : List V → Hp → VK → Prop := fun xs H Q => ∃ (D : Addr) (c : V) (cv : Value) (b : Bool), xs = [.ref a, c] ∧ cls = .ref D ∧
  PySem.W.NvCls K D ∧ (∀ u, RelV c u → u = cv) ∧ PySem.W.kitOne K (.ref D) cv = some b ∧ XDict H d ∧ Q (.bl b) H
theorem call_isX {X : Cx} {a : Addr} {oe : Obj} {cls : Value} {d : Option Addr} {pn : List (Addr × Obj)} (hz : Zc cls d oe) (hf : ∃ vs, oe.data = .fields vs) :
    CallR (X.suite a ((a, oe) :: pn)) (.builtin "isinstance") (rIsXd X.K cls d a) := by
  intro pins s σ H xs us Q I r h
  obtain ⟨D, c, cv, b, rfl, rfl, C, hcv, e, hx, q⟩ := h
  cases r with
  | cons rx rr =>
    cases rr with
    | cons rt rr =>
      cases rr
      cases rx
      have ec := hcv _ rt
      subst ec
      obtain ⟨hget, _⟩ := I.pin (a, oe) (List.mem_append.mpr (.inl List.mem_cons_self))
      obtain ⟨vs, hv⟩ := hf
      have J : ∃ od, PySem.W.InstAt s.heap a oe D od := by
        have no : PySem.W.notCls oe = true := by
          unfold PySem.W.notCls
          rw [hv] <;> rfl
        cases d with
        | none => exact ⟨none, hget, hz.1, no, by rw [hz.2]; trivial⟩
        | some dd =>
          obtain ⟨fs, hd⟩ := hx dd rfl
          obtain ⟨mA, ⟨od, es, ep, ho, _⟩, _⟩ := (show ObjOk X.prog X.w H s.heap dd (.xd fs) from I.hok dd _ hd)
          exact ⟨some od, hget, hz.1, no, by rw [hz.2]; exact ho⟩
      exact PySem.W.kia_one (PySem.W.nv_kit C) I.kIn J e (fun z => nomatch z) fun tk => ⟨.bl b, H, I.kept (t' := tk) fun _ _ z => z, rfl, q⟩
end Nv

namespace Nv
open PySem PySem.Spec PyProof.Rows L2

/-- an except clause's class, the slot of its name, the reading of its suite -/
abbrev Cls3 := Value × Nat × (Addr → Value → Option Addr → TS)
/-- the ends behind a suite: its name is gone -/
def gone (i : Nat) (D : Ends) : Ends :=
  { nx := fun σ' H' => D.nx (σ'.set i none) H', rt := D.rt, bk := fun σ' H' => D.bk (σ'.set i none) H', ct := fun σ' H' => D.ct (σ'.set i none) H' }
def wAsN (K : PySem.W.Frag) (Wout : WX) (D : Ends) : List Cls3 → WX
  | [] => Wout
  | (c, i, ts) :: r => fun cls d σ H => ∃ b, PySem.W.exmOne K cls c = some b ∧
      (b = true → ∀ a, H a = none → ts a cls d (gone i D) (σ.set i (some (.ref a))) H) ∧ (b = false → wAsN K Wout D r cls d σ H)
inductive HdsAs (X : Cx) : List ExceptHandler → List Cls3 → Prop
  | nil : HdsAs X [] []
  | cons {x n : Str} {c : Value} {i : Nat} {ts : Addr → Value → Option Addr → TS} {b₀ : Stmt} {suite : List Stmt} {np pos' : Pos} {hds : List ExceptHandler} {l : List Cls3}
      (hi : X.N[i]? = some n) (hln : X.env.kindOf n = some .local) (hc : Names X x c)
      (hsu : ∀ (a : Addr) (oe : Obj) (cls : Value) (d : Option Addr) (pn : List (Addr × Obj)), Zc cls d oe → (∃ vs, oe.data = .fields vs) → PSs (X.suite a ((a, oe) :: pn)) (b₀ :: suite) (ts a cls d))
      (r : HdsAs X hds l) : HdsAs X (.ExceptHandler (some (.Name x np)) (some n) (b₀ :: suite) pos' :: hds) ((c, i, ts) :: l)

section
variable {X : Cx} {pins : List (Addr × Obj)} {σ : L2.St} {H : Hp}
theorem field_not_frame {B h : Heap} {l : List Env} {a : Addr} {o : Obj} {vs : Array Value} (ff : h.FunFrames B l) (e : h.get? a = some o) (dd : o.data = .fields vs) : a ∉ frs l := fun hm => by
  obtain ⟨_, o', e', hnf⟩ := ff.mem hm
  rw [e] at e'
  cases e'
  exact hnf _ dd
/-- the clauses, one behind another, at an exception that is on the ground -/
theorem clauses (hs : X.stack = X.env :: X.outer) (hf : X.env.frame = some X.env.locals) (hN : X.N.Nodup) {Wout : WX} (tk : Takes X Wout) {D : Ends} {sI s' : Shared} {a : Addr} {B h3 : Heap} {cls : Value} {d : Option Addr}
    (ok : X.Ok) (J : Inv X pins σ H sI) (nb : ∀ b o, sI.heap.get? b = some o → b ∉ frs X.stack → B.get? b = some o) (na : H a = none) (os : s'.os = sI.os) (ag : AllBare s'.gens)
    (up : sI.heap.UpToSlots s'.heap) (up3 : s'.heap.UpToSlots h3) (fl3 : HandSPX.FlyingZ B (X.env :: X.outer) a (Zc cls d) h3) :
    ∀ {hds : List ExceptHandler} {l : List Cls3}, HdsAs X hds l → wAsN X.K Wout D l cls d σ H → wpAny (model X.prog X.w) X.A (handleBy (.ref a) X.env hds) (SP X pins D) X.xe { s' with heap := h3 } := by
  have J3 : Inv X pins σ H { s' with heap := h3 } := J.landed nb fl3.1 (up.trans up3) os ag
  obtain ⟨oe3, vs3, he3, hz3, hd3⟩ := fl3.there
  have nfr := field_not_frame fl3.2.2.1 he3 hd3
  have nL : a ≠ X.env.locals := fun z => nfr (List.mem_filterMap.mpr ⟨X.env, List.mem_cons_self, by rw [hf, z]⟩)
  have nF : a ∉ X.fs := fun hm => by
    obtain ⟨e, he, q⟩ := List.mem_filterMap.mp hm
    exact nfr (List.mem_filterMap.mpr ⟨e, List.mem_cons_of_mem _ he, q⟩)
  have S3 := J3.suite he3 hd3 na nL nF
  intro hds l hk
  induction hk with
  | nil =>
    intro w
    refine wpAny_handleBy_nil ?_
    obtain ⟨_, _, _, oe, vs, T, oT, _, he, hz, hd, h1, _⟩ := id fl3
    unfold PySem.passOn
    refine wpAny_bind (wpAny_field he hd h1 ?_)
    rw [if_neg (show ¬ ((Value.ref T == Value.none) = true) from by simp)]
    have fin : wpAny (model X.prog X.w) X.A (setFlight (.ref a) X.env.frame) (fun _ s4 => wpAny (model X.prog X.w) X.A (throw (.ref a) : Sem Flow) (SP X pins D) X.xe s4) X.xe { s' with heap := h3 } := by
      rw [hf]
      refine HandSPX.setFlight_upZ fl3 ?_
      intro h4 hh4 up4
      refine wpAny_throw (tk _ _ ?_)
      exact ⟨a, B, sI, pins, σ, H, cls, d, rfl, J, nb, (up.trans up3).trans up4, .inr (.inr (by rw [hs]; exact hh4)), na, os, ag, w⟩
    first
      | exact wpAny_bind (wpAny_pure (wpAny_bind fin))
      | exact wpAny_bind fin
  | @cons x n c i ts b₀ suite np pos' hds2 l2 hi hln hc hsu r ih =>
    intro w
    obtain ⟨b, hb1, hyes, hno⟩ := w
    refine wpAny_handleBy_cons (codeAny_handlers_test ?_) (by intro q; cases q)
    have LT : PySem.W.Looks (model X.prog X.w) h3 (typeOf (.ref a)) cls := fun A Q E s k q => wpAny_typeOf_ref (k _ _ he3) (by rw [hz3.1]; exact q)
    have LM := PySem.W.exm_one (M := model X.prog X.w) (J3.kIn) LT hb1
    have test : ∀ {Q : Value → Shared → Prop} {E : Value → Shared → Prop}, Q c { s' with heap := h3 } →
        wpAny (model X.prog X.w) (X.A.mark (some (.ref a))) (eval (.Name x np) X.env) Q E { s' with heap := h3 } := by
      intro Q E q
      obtain ⟨hg, hdbg, hm | ⟨hm, hv, hnn⟩⟩ := hc
      · exact ld_glob (X := X.suite a ((a, oe3) :: (X.pn ++ pins))) S3 hg hm q hdbg
      · exact ld_blt (X := X.suite a ((a, oe3) :: (X.pn ++ pins))) S3 hg hm hv q hnn hdbg
    refine test (LM.here ?_)
    cases b with
    | false =>
      show wpAny _ X.A (handleBy (.ref a) X.env hds2) _ _ _
      exact ih (hno rfl)
    | true =>
      refine codeAny_handlers_suite_as ?_
      refine HandSPX.lands_againZ fl3 ?_
      intro h4 fl4 up4
      have J4 : Inv X pins σ H { s' with heap := h4 } := J.landed nb fl4.1 ((up.trans up3).trans up4) os ag
      obtain ⟨oe4, vs4, he4, hz4, hd4⟩ := fl4.there
      have S4 := J4.suite he4 hd4 na nL nF
      refine store_ok (X := X.suite a ((a, oe4) :: (X.pn ++ pins))) (v := .ref a) S4 hN hi (.inl hln) rfl ?_ (.inr hln)
      intro s5 S5
      refine wpAny_mono ((hsu a oe4 cls d (X.pn ++ pins) hz4 ⟨_, hd4⟩).run [] s5 _ H _ S5 (hyes rfl a na)) ?_ (fun _ _ z => z.elim)
      intro f s6 hsp
      have end_ : ∀ {σ6 : L2.St} {H6 : Hp} {Q : Shared → Prop}, Inv (X.suite a ((a, oe4) :: (X.pn ++ pins))) [] σ6 H6 s6 → (∀ s7, Inv X pins (σ6.set i none) H6 s7 → Q s7) →
          wpAny (model X.prog X.w) X.A (do bindName X.env n .none; unbindBehindTheSuite X.env n pos') (fun _ s7 => Q s7) X.xe s6 :=
        fun {σ6 H6 Q} S6 hq => gone_ok (S6.unsuite ok) hN hi hln hq
      cases f with
      | ret u =>
        obtain ⟨v6, σ6, H6, S6, r6, q6⟩ := hsp
        exact end_ S6 fun s7 J7 => ⟨_, _, _, J7, r6, q6⟩
      | next =>
        obtain ⟨σ6, H6, S6, q6⟩ := hsp
        exact end_ S6 fun s7 J7 => ⟨_, _, J7, q6⟩
      | brk =>
        obtain ⟨σ6, H6, S6, q6⟩ := hsp
        exact end_ S6 fun s7 J7 => ⟨_, _, J7, q6⟩
      | cont =>
        obtain ⟨σ6, H6, S6, q6⟩ := hsp
        exact end_ S6 fun s7 J7 => ⟨_, _, J7, q6⟩

/-- try: body / except x1 as n1: .. / except x2 as n2: .. -/
theorem ps_try_asN {body : List Stmt} {h₀ : ExceptHandler} {hds : List ExceptHandler} {l : List Cls3} {pos : Pos} {tb : WX → TS} {Wout : WX}
    (hs : X.stack = X.env :: X.outer) (hf : X.env.frame = some X.env.locals) (hN : X.N.Nodup) (tk : Takes X Wout)
    (hb : ∀ (W : WX) (pn : List (Addr × Obj)) (xe : Value → Shared → Prop), Takes (X.tr pn xe) W → PassesOwn (model X.prog X.w) X.A X.env xe → PSs (X.tr pn xe) body (tb W))
    (hh : HdsAs X (h₀ :: hds) l) : PS X (.Try body (h₀ :: hds) [] [] pos) (fun D σ H => tb (wAsN X.K Wout D l) D σ H) := by
  constructor
  intro pins s σ H D I h
  have ok := I.ok
  have hfr : X.A.frames = some (X.env :: X.outer) := by rw [ok.frames, hs]
  refine wpAny_Try_except ?_
  have run := (hb (wAsN X.K Wout D l) (X.pn ++ pins) (fun e s₁ => wpAny (model X.prog X.w) X.A (noteFrame e X.env)
    (fun _ s₂ => wpAny (model X.prog X.w) X.A (setFlight e none) (fun _ s₃ => wpAny (model X.prog X.w) X.A (handleBy e X.env (h₀ :: hds)) (SP X pins D) X.xe s₃) X.xe s₂) X.xe s₁) ?_ PassesOwn.looking).run [] s σ H D (I.toTry _) h
  · refine wpAny_mono run ?_ (fun e s1 he => he)
    intro f s1 hsp
    cases f with
    | next =>
      obtain ⟨σ', H', J', q⟩ := hsp
      exact wpAny_execs_nil ⟨σ', H', J'.ofTry ok, q⟩
    | brk =>
      obtain ⟨σ', H', J', q⟩ := hsp
      exact ⟨σ', H', J'.ofTry ok, q⟩
    | cont =>
      obtain ⟨σ', H', J', q⟩ := hsp
      exact ⟨σ', H', J'.ofTry ok, q⟩
    | ret u =>
      obtain ⟨v, σ', H', J', r, q⟩ := hsp
      exact ⟨v, σ', H', J'.ofTry ok, r, q⟩
  · intro u s' xx
    obtain ⟨a, B, sI, pins', σ', H', cls, d, rfl, J', nb, up, sky, na, os, ag, w⟩ := xx
    have J : Inv X pins σ' H' sI := J'.ofTry ok
    have sky' : Sky B (X.env :: X.outer) a (Zc cls d) X.env.locals s'.heap := by
      rw [← hs]
      exact sky
    show wpAny (model X.prog X.w) X.A (noteFrame (.ref a) X.env) _ _ _
    refine Sky.land Zc.steady hfr hf sky' ?_
    intro h3 fl3 up3
    exact clauses hs hf hN tk ok J nb na os ag up up3 fl3 hh w
end
end Nv

namespace Nv
open PySem PySem.Spec PyProof.Rows L2

/-! own errors with one attribute -/
def spXI (K : PySem.W.Frag) (f : Str) : Sp := fun vs H Q _ => ∃ (a C : Addr) (v : V), vs = [.ref a, v] ∧ OexC K C ∧ PySem.W.findIn K (.ref C) f = some none ∧
  H a = some (exo a C none) ∧ ∀ dx, H dx = none → dx ≠ a → Q .non (upd (upd H dx (exd dx [(f, v)])) a (exo a C (some dx)))
section
variable {P : Program} {w : World} {K : PySem.W.Frag} {mg : Str → Option Value} {base : Heap}
theorem ok_xi {qual f : Str} {st : Stmt} {fI : Addr} {fd : FuncData} {p1 p2 p3 p4 : Pos} (F : Fun K "__init__" qual st fI fd) (S : FnScope ["self", f] ["self", f] (defScope st))
    (hb : defBody st = [.Assign [.Attribute (.Name "self" p1) f p2] (.Name f p3) p4]) (hd : (f == ("__debug__" : Str)) = false) (hcd : (f == ("__classdict__" : Str)) = false) :
    FnOk P w K mg base CX0 1 fI fd ["self", f] (spXI K f) := by
  refine F.ok S (fun vs H Q E h => ?_) (fun cdv A outer s H vs Q E hr h => ?_)
  · obtain ⟨a, C, v, rfl, _⟩ := h
    rfl
  · obtain ⟨a, C, v, rfl, T, hn, he, q⟩ := h
    have v0 : Vis (defScope st) "self" := by
      rcases S.par "self" (by simp) with z | z
      · exact .inl z
      · exact .inr (.inl z)
    have v1 : Vis (defScope st) f := by
      rcases S.par f (by simp) with z | z
      · exact .inl z
      · exact .inr (.inl z)
    rw [hb]
    refine ⟨_, pss_one (ps_ost (pe_var (i := 0) rfl v0) (pe_var (i := 1) rfl v1 hd hcd) rfl), ?_⟩
    exact ⟨_, rfl, _, rfl, a, C, rfl, T, hn, .inl ⟨he, fun dx h1 h2 => q dx h1 h2⟩⟩
end
/-- what stands of an own error class with one attribute f: at C, its __init__ at fI -/
structure ErrT (K : PySem.W.Frag) (mg : Str → Option Value) (x f : Str) (C fI : Addr) : Prop where
  gC : mg x = some (.ref C)
  T : OexC K C
  iC : PySem.W.findIn K (.ref C) "__init__" = some (some (.ref fI))
  tI : PySem.W.typeIn K (.ref fI) = some (.type "function")
  noF : PySem.W.findIn K (.ref C) f = some none
  nv : PySem.W.NvCls K C
theorem ErrT.xf {K : PySem.W.Frag} {mg : Str → Option Value} {x f : Str} {C fI : Addr} (T : ErrT K mg x f C fI) : XfC K C := ⟨T.nv.ga, T.nv.gt, T.nv.sub, T.nv.dct⟩
section
variable {X : Cx} {W : WX} {e : Expr} {te : TE} {p pos pos2 : Pos} {x f : Str} {C fI : Addr} {fd : FuncData}
theorem pmk_imp {t t' : L2.St → Hp → XK → Prop} (h : PMk X e t) (i : ∀ σ H Q, t' σ H Q → t σ H Q) : PMk X e t' := fun pins s σ H Q I q => h pins s σ H Q I (i _ _ _ q)
/-- C(e): a new error -/
def tErr (C : Addr) (f : Str) (te : TE) : L2.St → Hp → XK → Prop := fun σ H Q => te σ H fun v H1 => ∀ d, H1 d = none → Q (.ref C) (some d) (upd H1 d (.xd [(f, v)]))
theorem exo_end {H1 : Hp} {a dx C : Addr} {f : Str} {v : V} (na : H1 a = none) (nd : dx ≠ a) : upd (del (upd (upd (upd H1 a (exo a C none)) dx (exd dx [(f, v)])) a (exo a C (some dx))) a) dx (.xd [(f, v)]) = upd H1 dx (.xd [(f, v)]) := by
  funext b
  by_cases h : b = dx
  · subst h
    rw [upd_same, upd_same]
  · rw [upd_ne h, upd_ne h]
    by_cases g : b = a
    · subst g
      rw [del_same, na]
    · rw [del_ne g, upd_ne g, upd_ne h, upd_ne g]
/-- one argument, its reading made monotone -/
theorem pa_any (he : PE X e te) (hs : starEach (e :: []) X.env = (false, eval e X.env) :: starEach [] X.env := by rfl) :
    PA X [e] (fun σ H Q => ∃ R : V → Hp → Prop, te σ H R ∧ ∀ v H1, R v H1 → Q [v] H1) := by
  constructor
  intro pos pins s σ H Q I ⟨R, h, k⟩
  have z := (pa_cons he pa_nil hs).run pos pins s σ H (fun vs H1 => ∃ v, vs = [v] ∧ R v H1) I
  have z2 : te σ H (fun v H1 => R v H1) := h
  have he2 : PE X e (fun σ' H' Q' => te σ' H' R ∧ ∀ v H1, R v H1 → Q' v H1) := by
    constructor
    intro pins s σ H Q I ⟨h1, h2⟩
    exact thn (he.run pins s σ H R I h1) fun u s1 ⟨v, H1, I1, r, q⟩ => ⟨v, H1, I1, r, h2 v H1 q⟩
  exact (pa_cons he2 pa_nil hs).run pos pins s σ H Q I ⟨h, fun v H1 q => k v H1 q⟩
theorem pmk_err (T : ErrT X.K X.mg x f C fI) (F : FnOk X.prog X.w X.K X.mg X.base CX0 1 fI fd ["self", f] (spXI X.K f)) (hb : Binds X.K fd ["self", f] []) (hr : Room 2 X.A) (he : PE X e te) (hg : Gl X x := by rfl)
    (hdb : (x == ("__debug__" : Str)) = false := by decide) (hs : starEach (e :: []) X.env = (false, eval e X.env) :: starEach [] X.env := by rfl) (hpl : (backTo pos (starEach [] X.env)).any (·.1) = false := by rfl) :
    PMk X (.Call (.Name x p) [e] [] pos) (tErr C f te) := by
  refine pmk_imp (pmk_oex (CX := CX0) (dvs := []) (ds := []) T.T T.iC T.tI F hr hb .nil pass0 hg T.gC (pa_any he hs) hdb hs hpl) ?_
  intro σ H Q h
  refine ⟨_, h, fun v H1 k => ⟨by show 1 ≤ 1000; decide, fun a na => ?_⟩⟩
  refine ⟨a, C, v, rfl, T.T, T.noF, upd_same, fun dx h1 h2 => ⟨rfl, dx, [(f, v)], upd_same, ?_, ?_, ?_⟩⟩
  · rw [upd_ne h2, upd_same]
  · rw [upd_ne h2] at h1
    exact h1
  · rw [exo_end na h2]
    rw [upd_ne h2] at h1
    exact k dx h1
/-- raise C(e) -/
def tRaise1 (C : Addr) (f : Str) (W : WX) (te : TE) : TS := fun _ σ H => tErr C f te σ H fun cls d H' => W cls d σ H'
theorem ps_err (hc : X.calm = true) (tk : Takes X W) (T : ErrT X.K X.mg x f C fI) (F : FnOk X.prog X.w X.K X.mg X.base CX0 1 fI fd ["self", f] (spXI X.K f)) (hb : Binds X.K fd ["self", f] []) (hr : Room 2 X.A) (he : PE X e te) (hg : Gl X x := by rfl)
    (hdb : (x == ("__debug__" : Str)) = false := by decide) (hs : starEach (e :: []) X.env = (false, eval e X.env) :: starEach [] X.env := by rfl) (hpl : (backTo pos (starEach [] X.env)).any (·.1) = false := by rfl) :
    PS X (.Raise (some (.Call (.Name x p) [e] [] pos)) none pos2) (tRaise1 C f W te) := ps_raise hc tk (pmk_err T F hb hr he hg hdb hs hpl)
end

/-! displays whose place is not that of sys.modules -/
section
variable {X : Cx} {es : List Expr} {t : TA} {pos : Pos}
def tLst1 (t : TA) : TE := fun σ H Q => t σ H fun xs H1 => xs.length ≤ sizeLine ∧ ∀ p, H1 p = none → p ≠ sysModules → Q (.ref p) (upd H1 p (.lst xs))
theorem pe_lst1 (h : PA X es t) : PE X (.List es pos) (tLst1 t) := by
  constructor
  intro pins s σ H Q I hq
  refine wpAny_List_spliced (thn (h.run pos pins s σ H _ I hq) ?_)
  intro us s1 ⟨xs, H1, I1, r, z, q⟩
  have hf : H1 s1.heap.objs.size = none := I1.hok.fresh (Nat.le_refl _)
  refine ⟨by rw [← r.length]; exact z, ?_⟩
  refine ⟨.ref s1.heap.objs.size, upd H1 s1.heap.objs.size (.lst xs), I1.laid (t' := s1.toks) (fun b u e => Heap.get?_push_of_some _ e) (Nat.le_refl _) ?_, rfl, q _ hf (Nat.ne_of_gt I1.big)⟩
  exact ⟨z, us, 0, r, Heap.get?_push_size _ rfl⟩
end
end Nv

namespace Nv
open PySem PySem.Spec PyProof.Rows L2

/-! a def, a method, an __init__ of the text as they stand behind the top -/
structure DefT (K : PySem.W.Frag) (mg : Str → Option Value) (x : Str) (st : Stmt) (ps : List Str) : Type where
  f : Addr
  fd : FuncData
  F : Fun K x x st f fd
  m : mg x = some (.ref f)
  b : Pos1 fd ps
  kb : Kw1 fd ps ps 0
structure MethT (K : PySem.W.Frag) (C : Addr) (x qual : Str) (st : Stmt) (ps : List Str) : Type where
  f : Addr
  fd : FuncData
  F : Fun K x qual st f fd
  me : Meth K C x f
  b : Pos1 fd ps
  kb : Kw1 fd ps ps.tail 1
structure InitT (K : PySem.W.Frag) (C : Addr) (qual : Str) (st : Stmt) (ps : List Str) : Type where
  f : Addr
  fd : FuncData
  F : Fun K "__init__" qual st f fd
  bi : Binds K fd ps []
  kb : Kw1 fd ps ps.tail 1
structure PropT (K : PySem.W.Frag) (C : Addr) (x qual : Str) (st : Stmt) : Type where
  p : Addr
  g : Addr
  fd : FuncData
  F : Fun K x qual st g fd
  po : PropOf K C x p g
  bi : Binds K fd ["self"] []

/-- a body that lets nothing out -/
theorem okG0 {P : Program} {w : World} {K : PySem.W.Frag} {mg : Str → Option Value} {base : Heap} {k : Nat} {f : Addr} {fd : FuncData} {ps : List Str} {sp : Sp} {x qual : Str} {st : Stmt} {N : List Str}
    (F : Fun K x qual st f fd) (S : FnScope N ps (defScope st)) (len : ∀ vs H Q E, sp vs H Q E → vs.length = ps.length)
    (body : ∀ (cdv : Value) (A : Around) (outer : List Env) (s : Shared) (H : Hp) (vs : List V) (Q : VK) (E : XK),
      A.guards = some [] → Room k (A.deeper (envOfC qual (defScope st) s.heap.objs.size f cdv)) → sp vs H Q E →
      ∃ t, PSs (cxOf (L2.CX P w) P w K mg base N qual (defScope st) f cdv A outer s H E).nox (defBody st) t ∧
        t { nx := fun _ H' => Q .non H', rt := Q } (start N vs) H) : FnG P w K mg base (k + 1) f fd ps sp :=
  okG F S len fun cdv A outer s H vs Q E hg hr hsp => by
    obtain ⟨t, h, q⟩ := body cdv A outer s H vs Q E hg hr hsp
    exact ⟨t, h.nox, q⟩

/-! the kinds of data -/
def tyName : PyData → String
  | .none => "NoneType"
  | .bool _ => "bool"
  | .int _ => "int"
  | .str _ => "str"
  | .list _ => "list"
  | .tuple _ => "tuple"
  | .dict _ => "dict"
theorem DV.ty {K : PySem.W.Frag} {H : Hp} {v : V} {d : PyData} (h : DV H v d) : TyX K H v (.type (tyName d)) := by
  cases h with
  | non => exact .base .non
  | bl b => exact .base (.bl b)
  | int i => exact .base (.int i)
  | str x => exact .base (.str x)
  | lst e _ _ => exact .base (.lst e)
  | tup e _ => exact .base (.tup e)
  | dct e _ => exact .base (.dK e)
theorem r_isi {K : PySem.W.Frag} {H : Hp} {Q : VK} {v : V} {d : PyData} {T : String} {b : Bool} (h : DV H v d) (e : kitB (tyName d) T = some b) (q : Q (.bl b) H) : rIsi K [v, .ty T] H Q :=
  ⟨v, .ty T, _, _, b, rfl, .ty T, h.ty, kit_ty e, q⟩
def isI : PyData → Bool
  | .int _ => true
  | _ => false
def isB : PyData → Bool
  | .bool _ => true
  | _ => false
def isS : PyData → Bool
  | .str _ => true
  | _ => false
def isL : PyData → Bool
  | .list _ => true
  | _ => false
theorem kit_int (d : PyData) : kitB (tyName d) "int" = some (isI d || isB d) := by
  cases d with
  | none => exact (by decide +kernel : kitB "NoneType" "int" = some false)
  | bool b => exact (by decide +kernel : kitB "bool" "int" = some true)
  | int i => exact (by decide +kernel : kitB "int" "int" = some true)
  | str x => exact (by decide +kernel : kitB "str" "int" = some false)
  | list l => exact (by decide +kernel : kitB "list" "int" = some false)
  | tuple l => exact (by decide +kernel : kitB "tuple" "int" = some false)
  | dict l => exact (by decide +kernel : kitB "dict" "int" = some false)
theorem kit_bool (d : PyData) : kitB (tyName d) "bool" = some (isB d) := by
  cases d with
  | none => exact (by decide +kernel : kitB "NoneType" "bool" = some false)
  | bool b => exact (by decide +kernel : kitB "bool" "bool" = some true)
  | int i => exact (by decide +kernel : kitB "int" "bool" = some false)
  | str x => exact (by decide +kernel : kitB "str" "bool" = some false)
  | list l => exact (by decide +kernel : kitB "list" "bool" = some false)
  | tuple l => exact (by decide +kernel : kitB "tuple" "bool" = some false)
  | dict l => exact (by decide +kernel : kitB "dict" "bool" = some false)
theorem kit_str (d : PyData) : kitB (tyName d) "str" = some (isS d) := by
  cases d with
  | none => exact (by decide +kernel : kitB "NoneType" "str" = some false)
  | bool b => exact (by decide +kernel : kitB "bool" "str" = some false)
  | int i => exact (by decide +kernel : kitB "int" "str" = some false)
  | str x => exact (by decide +kernel : kitB "str" "str" = some true)
  | list l => exact (by decide +kernel : kitB "list" "str" = some false)
  | tuple l => exact (by decide +kernel : kitB "tuple" "str" = some false)
  | dict l => exact (by decide +kernel : kitB "dict" "str" = some false)
theorem kit_list (d : PyData) : kitB (tyName d) "list" = some (isL d) := by
  cases d with
  | none => exact (by decide +kernel : kitB "NoneType" "list" = some false)
  | bool b => exact (by decide +kernel : kitB "bool" "list" = some false)
  | int i => exact (by decide +kernel : kitB "int" "list" = some false)
  | str x => exact (by decide +kernel : kitB "str" "list" = some false)
  | list l => exact (by decide +kernel : kitB "list" "list" = some true)
  | tuple l => exact (by decide +kernel : kitB "tuple" "list" = some false)
  | dict l => exact (by decide +kernel : kitB "dict" "list" = some false)

/-! str * int -/
def rMulS : R2 := fun x y H Q => ∃ (z : Str) (k : Int), x = .str z ∧ y = .int k ∧ PySem.MulOk z k ∧ Q (.str (Txt.mul z k)) H
theorem op_mul_str {X : Cx} : OpR X (binaryOp .Mult) rMulS := by
  intro pins s σ H x y v u Q I rx ry h
  obtain ⟨z, k, rfl, rfl, hok, q⟩ := h
  obtain ⟨t, rfl⟩ := (show ∃ t, v = Value.str z t from rx)
  obtain ⟨t2, rfl⟩ := (show ∃ t, u = Value.int k t from ry)
  exact PySem.SB.mul hok fun t' tk => ⟨.str (Txt.mul z k), H, I.tok tk, ⟨t', rfl⟩, q⟩

/-! heaps -/
/-- all that was tracked stands as it was, but what stands at p -/
def Ext1 (p : Addr) (H H' : Hp) : Prop := ∀ a o, a ≠ p → H a = some o → H' a = some o
theorem Ext1.refl (p : Addr) (H : Hp) : Ext1 p H H := fun _ _ _ h => h
theorem Ext1.trans {p : Addr} {H H1 H2 : Hp} (a : Ext1 p H H1) (b : Ext1 p H1 H2) : Ext1 p H H2 := fun c o n h => b c o n (a c o n h)
theorem Same.ext1 {p : Addr} {H H' : Hp} (e : Same H H') : Ext1 p H H' := fun a o _ h => e a o h
theorem Same.new {H : Hp} {p : Addr} {o : HO} (n : H p = none) : Same H (upd H p o) := fun b u e => by
  rw [upd_ne (ne_of_none e n)]
  exact e
theorem Ext1.upd {p : Addr} {H : Hp} {o : HO} : Ext1 p H (upd H p o) := fun a u n h => by
  rw [upd_ne n]
  exact h
end Nv

namespace Nv
open PySem PySem.Spec PyProof.Rows L2

/-! what a step asks of the heap, kept whole -/
def rFld (K : PySem.W.Frag) (f : Str) : V → Hp → VK → Prop := fun x H Q => ∃ a C dx fs v, x = .ref a ∧ H a = some (.ins C dx fs) ∧ Cls K C ∧ NoAttr K C f ∧ fs.lookup f = some v ∧ Q v H
def rStF (K : PySem.W.Frag) (f : Str) : V → V → Hp → (Hp → Prop) → Prop := fun x y H R => ∃ a C dx fs, x = .ref a ∧ H a = some (.ins C dx fs) ∧ Cls K C ∧ NoAttr K C f ∧ fs.length < 1000 ∧ R (upd H a (.ins C dx (putF f y fs)))
def rMeth (C : Addr) (m : Str) : V → Hp → (Hp → Prop) → Prop := fun x H R => ∃ a dx fs, x = .ref a ∧ H a = some (.ins C dx fs) ∧ fs.lookup m = none ∧ R H
def rPrp (C : Addr) (sp : Sp) (dvs : List V) (E : XK) : V → Hp → VK → Prop := fun x H Q => ∃ a dx fs, x = .ref a ∧ H a = some (.ins C dx fs) ∧ sp (.ref a :: dvs) H Q E
/-- a new object's heap by a name of its own -/
theorem gen_new {H : Hp} {p : Addr} (o : HO) (h : H p = none) : ∃ H', upd H p o = H' ∧ Same H H' ∧ H' p = some o :=
  ⟨_, rfl, fun b u e => by rw [upd_ne (ne_of_none e h)]; exact e, upd_same⟩
def rXf (a : Addr) (cls : Value) (d : Option Addr) (C : Addr) (f : Str) : V → Hp → VK → Prop := fun x H Q => x = .ref a ∧ cls = .ref C ∧ ∃ (dd : Addr) (fs : List (Str × V)) (v : V), d = some dd ∧ H dd = some (.xd fs) ∧ fs.lookup f = some v ∧ Q v H
theorem e_xf {a : Addr} {cls : Value} {d : Option Addr} {C : Addr} {f : Str} {te : TE} {σ : L2.St} {H : Hp} {Q : VK} : tXf a cls d C f te σ H Q = te σ H (fun x H1 => rXf a cls d C f x H1 Q) := rfl
theorem r_xf {a dd C : Addr} {f : Str} {v : V} {H : Hp} {Q : VK} (h : H dd = some (.xd [(f, v)])) (q : Q v H) : rXf a (.ref C) (some dd) C f (.ref a) H Q :=
  ⟨rfl, rfl, dd, _, v, rfl, h, by simp [List.lookup], q⟩
theorem r_isX {K : PySem.W.Frag} {D U dd a : Addr} {f : Str} {v : V} {H : Hp} {Q : VK} {b : Bool} (n : PySem.W.NvCls K D) (k : PySem.W.kitOne K (.ref D) (.ref U) = some b) (h : H dd = some (.xd [(f, v)])) (q : Q (.bl b) H) :
    rIsXd K (.ref D) (some dd) a [.ref a, .ref U] H Q := ⟨D, .ref U, .ref U, b, rfl, rfl, n, fun u r => r, k, fun x e => by cases e; exact ⟨_, h⟩, q⟩
theorem e_wipe0 {σ : L2.St} : wipe σ [] = σ := rfl
theorem e_wipe1 {σ : L2.St} {v : Nat} {vs : List Nat} : wipe σ (v :: vs) = (wipe σ vs).set v none := rfl
theorem e_disp {trs : List (TE × TE)} {σ : L2.St} {H : Hp} {Q : VK} : tDisp trs σ H Q = ∀ p, H p = none → tPairs trs σ (upd H p (.dK [])) fun ps H2 => H2 p = some (.dK []) ∧ ∃ kvs : List (Key × V), ps = kvs.map (fun kv => (kV kv.1, kv.2)) ∧ kvs.length ≤ 15 ∧ Q (.ref p) (upd H2 p (.dK (mergeK [] kvs))) := rfl
theorem e_tyes {σ : L2.St} {H : Hp} {R : Bool → Hp → Prop} : tYes σ H R = R true H := rfl
def rP2 (k : V → V → Prop) (vs : List V) : Prop := ∃ v w, vs = [v, w] ∧ k v w
def rP3 (k : V → V → V → Prop) (vs : List V) : Prop := ∃ u v w, vs = [u, v, w] ∧ k u v w
theorem e_rP2 {k : V → V → Prop} {a b : V} : rP2 k [a, b] = k a b := propext ⟨fun ⟨_, _, e, h⟩ => by cases e; exact h, fun h => ⟨_, _, rfl, h⟩⟩
theorem e_rP3 {k : V → V → V → Prop} {a b c : V} : rP3 k [a, b, c] = k a b c := propext ⟨fun ⟨_, _, _, e, h⟩ => by cases e; exact h, fun h => ⟨_, _, _, rfl, h⟩⟩
def rUnp (K : PySem.W.Frag) (n : Nat) : V → Hp → (List V → Prop) → Prop := fun v H R => ∃ a xs, v = .ref a ∧ SqT K H a xs ∧ xs.length = n ∧ R xs
theorem r_fld {K : PySem.W.Frag} {f : Str} {a C dx : Addr} {fs : List (Str × V)} {v : V} {H : Hp} {Q : VK} (h : H a = some (.ins C dx fs)) (c : Cls K C) (n : NoAttr K C f) (l : fs.lookup f = some v) (q : Q v H) : rFld K f (.ref a) H Q :=
  ⟨a, C, dx, fs, v, rfl, h, c, n, l, q⟩
theorem r_stF {K : PySem.W.Frag} {f : Str} {a C dx : Addr} {fs : List (Str × V)} {y : V} {H : Hp} {R : Hp → Prop} (h : H a = some (.ins C dx fs)) (c : Cls K C) (n : NoAttr K C f) (l : fs.length < 1000) (q : R (upd H a (.ins C dx (putF f y fs)))) : rStF K f (.ref a) y H R :=
  ⟨a, C, dx, fs, rfl, h, c, n, l, q⟩
theorem r_meth {C a dx : Addr} {m : Str} {fs : List (Str × V)} {H : Hp} {R : Hp → Prop} (h : H a = some (.ins C dx fs)) (l : fs.lookup m = none) (q : R H) : rMeth C m (.ref a) H R := ⟨a, dx, fs, rfl, h, l, q⟩
theorem r_prp {C a dx : Addr} {sp : Sp} {dvs : List V} {E : XK} {fs : List (Str × V)} {H : Hp} {Q : VK} (h : H a = some (.ins C dx fs)) (q : sp (.ref a :: dvs) H Q E) : rPrp C sp dvs E (.ref a) H Q := ⟨a, dx, fs, rfl, h, q⟩
theorem r_unp {K : PySem.W.Frag} {n : Nat} {a : Addr} {xs : List V} {H : Hp} {R : List V → Prop} (h : SqT K H a xs) (l : xs.length = n) (q : R xs) : rUnp K n (.ref a) H R := ⟨a, xs, rfl, h, l, q⟩
theorem r_setL {p : Addr} {i : Int} {xs : List V} {j : Nat} {v : V} {H : Hp} {R : Hp → Prop} (h : H p = some (.lst xs)) (e : ixN xs.length i = some j) (q : R (upd H p (.lst (xs.set j v)))) : rSetL (.ref p) (.int i) v H R := ⟨p, xs, i, j, rfl, rfl, h, e, q⟩
/-! the readings, one step each, as equations -/
section
variable {σ : L2.St} {H : Hp} {Q : VK} {D : Ends} {t u : TS} {ta tb te tc : TE} {tt tu : TT} {tr : TA} {to th tl : TO} {i j l : Nat} {v x y : V} {r : R2} {K : PySem.W.Frag} {f : Str} {g : TG} {gs : TGs}
theorem e_seq : tSeq t u D σ H = t { D with nx := u D } σ H := rfl
theorem e_next : tNext D σ H = D.nx σ H := rfl
theorem e_asg : tAsg te g D σ H = te σ H (fun x H1 => g x σ H1 D.nx) := rfl
theorem e_gname {R : L2.St → Hp → Prop} : gName i v σ H R = R (σ.set i (some v)) H := rfl
theorem e_gtup {n : Nat} {R : L2.St → Hp → Prop} : gTup K n gs v σ H R = rUnp K n v H (fun xs => gs xs σ H R) := rfl
theorem e_gcons {a : V} {vs : List V} {R : L2.St → Hp → Prop} : gCons g gs (a :: vs) σ H R = g a σ H (fun σ' H' => gs vs σ' H' R) :=
  propext ⟨fun ⟨_, _, e, h⟩ => by cases e; exact h, fun h => ⟨_, _, rfl, h⟩⟩
theorem e_gnil {R : L2.St → Hp → Prop} : gNil [] σ H R = R σ H := propext ⟨fun h => h.2, fun h => ⟨rfl, h⟩⟩
theorem e_gsub {s : TSet} {R : L2.St → Hp → Prop} : gSub ta tb s v σ H R = ta σ H (fun o H1 => tb σ H1 fun i H2 => s o i v H2 fun H3 => R σ H3) := rfl
theorem e_ret : tRet te D σ H = te σ H D.rt := rfl
theorem e_retN : tRetN D σ H = D.rt .non H := rfl
theorem e_if : tIfS tt t u D σ H = tt σ H (fun b H1 => if b = true then t D σ H1 else u D σ H1) := rfl
theorem e_drop : tDrop te D σ H = te σ H (fun _ H1 => D.nx σ H1) := rfl
theorem e_par : tPar i j tr D σ H = tr σ H (fun vs H1 => rP2 (fun v w => D.nx ((σ.set i (some v)).set j (some w)) H1) vs) := rfl
theorem e_par3 : tPar3 i j l tr D σ H = tr σ H (fun vs H1 => rP3 (fun u v w => D.nx (((σ.set i (some u)).set j (some v)).set l (some w)) H1) vs) := rfl
theorem e_sfld : sFld K ta te f D σ H = te σ H (fun y H1 => ta σ H1 fun x H2 => rStF K f x y H2 fun H3 => D.nx σ H3) := rfl
theorem e_var : tVar i σ H Q = ∃ v, σ[i]? = some (some v) ∧ Q v H := rfl
theorem e_c : tC v σ H Q = Q v H := rfl
theorem e_op : tOp r ta tb σ H Q = ta σ H (fun x H1 => tb σ H1 fun y H2 => r x y H2 Q) := rfl
theorem e_un {ru : V → Hp → VK → Prop} : tUn ru ta σ H Q = ta σ H (fun x H1 => ru x H1 Q) := rfl
theorem e_ri {C : Int → Int → Prop} {g : Int → Int → V} {a b : Int} : rI C g (.int a) (.int b) H Q = (C a b ∧ Q (g a b) H) :=
  propext ⟨fun ⟨_, _, e1, e2, c, q⟩ => by cases e1; cases e2; exact ⟨c, q⟩, fun ⟨c, q⟩ => ⟨_, _, rfl, rfl, c, q⟩⟩
theorem e_ri0 {g : Int → Int → V} {a b : Int} : rI0 g (.int a) (.int b) H Q = Q (g a b) H :=
  propext ⟨fun ⟨_, _, e1, e2, q⟩ => by cases e1; cases e2; exact q, fun q => ⟨_, _, rfl, rfl, q⟩⟩
theorem e_ru {g : Int → V} {a : Int} : rU g (.int a) H Q = Q (g a) H :=
  propext ⟨fun ⟨_, e1, q⟩ => by cases e1; exact q, fun q => ⟨_, rfl, q⟩⟩
theorem e_eq : rEq x y H Q = (scal x y = true ∧ Q (.bl (decide (x = y))) H) := rfl
theorem e_ne : rNe x y H Q = (scal x y = true ∧ Q (.bl (!decide (x = y))) H) := rfl
theorem e_test {R : Bool → Hp → Prop} : tTest te σ H R = te σ H (fun x H' => ∃ k, x = .bl k ∧ R k H') := rfl
theorem e_B {R : Bool → Hp → Prop} : tB te σ H R = te σ H (fun x H1 => ∃ c, x = .bl c ∧ R c H1) := rfl
theorem e_and {R : Bool → Hp → Prop} : tAnd tt tu σ H R = tt σ H (fun c H1 => if c = true then tu σ H1 R else R false H1) := rfl
theorem e_or {R : Bool → Hp → Prop} : tOr tt tu σ H R = tt σ H (fun c H1 => if c = true then R true H1 else tu σ H1 R) := rfl
theorem e_not {R : Bool → Hp → Prop} : tNot tt σ H R = tt σ H (fun c H1 => R (!c) H1) := rfl
theorem e_andV : tAndV ta tb σ H Q = ta σ H (fun x H1 => ∃ c, x = .bl c ∧ if c = true then tb σ H1 Q else Q (.bl false) H1) := rfl
theorem e_orV : tOrV ta tb σ H Q = ta σ H (fun x H1 => ∃ c, x = .bl c ∧ if c = true then Q (.bl true) H1 else tb σ H1 Q) := rfl
theorem e_notV : tNotV ta σ H Q = ta σ H (fun x H1 => ∃ c, x = .bl c ∧ Q (.bl (!c)) H1) := rfl
theorem e_ifE : tIf tt ta tb σ H Q = tt σ H (fun c H1 => if c = true then ta σ H1 Q else tb σ H1 Q) := rfl
theorem e_cb {rc : List V → Hp → VK → Prop} : tCB rc tr σ H Q = tr σ H (fun vs H1 => rc vs H1 Q) := rfl
theorem e_nil {R : List V → Hp → Prop} : tNil σ H R = R [] H := rfl
theorem e_cons {R : List V → Hp → Prop} : tCons ta tr σ H R = ta σ H (fun x H1 => tr σ H1 fun xs H2 => R (x :: xs) H2) := rfl
theorem e_tup : tTup tr σ H Q = tr σ H (fun xs H1 => xs.length ≤ sizeLine ∧ ∀ p, H1 p = none → Q (.ref p) (upd H1 p (.tup xs))) := rfl
theorem e_lst1 : tLst1 tr σ H Q = tr σ H (fun xs H1 => xs.length ≤ sizeLine ∧ ∀ p, H1 p = none → p ≠ sysModules → Q (.ref p) (upd H1 p (.lst xs))) := rfl
theorem e_fld : tFld K ta f σ H Q = ta σ H (fun x H1 => rFld K f x H1 Q) := rfl
theorem e_slice {rs : V → Option Int → Option Int → Hp → VK → Prop} : L2.tSl rs te tl th σ H Q = te σ H (fun x H1 => tl σ H1 fun a H2 => th σ H2 fun b H3 => rs x a b H3 Q) := rfl
theorem e_nopart {R : Option Int → Hp → Prop} : tNoPart σ H R = R none H := rfl
theorem e_part {R : Option Int → Hp → Prop} : tPart te σ H R = te σ H (fun x H1 => ∃ i, x = .int i ∧ R (some i) H1) := rfl
theorem e_bm0 {T : String} {rm : V → List V → Hp → VK → Prop} : tBM0 K T rm te σ H Q = te σ H (fun x H1 => tyV K T x H1 ∧ rm x [] H1 Q) := rfl
theorem e_bm {T : String} {rm : V → List V → Hp → VK → Prop} : tBM K T rm te tr σ H Q = te σ H (fun x H1 => tyV K T x H1 ∧ tr σ H1 fun xs H2 => rm x xs H2 Q) := rfl
theorem e_m1 {rm : V → List V → Hp → VK → Prop} : tM1 rm ta te σ H Q = ta σ H (fun x H1 => (∃ a, x = .str a) ∧ te σ H1 fun y H2 => rm x [y] H2 Q) := rfl
theorem e_cg {sp : Sp} {W : WX} : tCG sp W tr σ H Q = tr σ H (fun vs H1 => sp vs H1 Q (WE W σ)) := rfl
theorem e_mg {C : Addr} {m : Str} {sp : Sp} {W : WX} : tMG C m sp W ta tr σ H Q = ta σ H (fun x H1 => rMeth C m x H1 fun H1' => tr σ H1' fun vs H2 => sp (x :: vs) H2 Q (WE W σ)) :=
  by
    unfold tMG rMeth
    rfl
theorem e_make {C : Addr} {sp : Sp} {dvs : List V} {E : XK} : tMake C sp dvs E tr σ H Q = tr σ H (fun vs H1 => ∀ x dx, H1 x = none → H1 dx = none → dx ≠ x →
  sp (.ref x :: (vs ++ dvs)) (upd (upd H1 dx (.own x)) x (.ins C dx [])) (fun v H2 => v = .non ∧ Q (.ref x) H2) E) := rfl
theorem e_prop {C : Addr} {sp : Sp} {dvs : List V} {E : XK} : tProp C sp dvs E ta σ H Q = ta σ H (fun x H1 => rPrp C sp dvs E x H1 Q) := rfl
theorem e_raise1 {C : Addr} {W : WX} : tRaise1 C f W te D σ H = te σ H (fun v H1 => ∀ d, H1 d = none → W (.ref C) (some d) σ (upd H1 d (.xd [(f, v)]))) := rfl
theorem e_chain {r' : R2} : tChain r r' ta tb tc σ H Q = ta σ H (fun x H1 => tb σ H1 fun y H2 => r x y H2 fun z H3 => ∃ k, z = .bl k ∧ (if k = true then tc σ H3 fun w' H4 => r' y w' H4 Q else Q (.bl false) H3)) := rfl
theorem e_mulS {z : Str} {k : Int} : rMulS (.str z) (.int k) H Q = (PySem.MulOk z k ∧ Q (.str (Txt.mul z k)) H) :=
  propext ⟨fun ⟨_, _, e1, e2, c, q⟩ => by cases e1; cases e2; exact ⟨c, q⟩, fun ⟨c, q⟩ => ⟨_, _, rfl, rfl, c, q⟩⟩
theorem e_slS {z : Str} {lo hi : Option Int} : rSlS (.str z) lo hi H Q = (z.length ≤ sizeLine ∧ Q (.str (cutS z lo hi)) H) :=
  propext ⟨fun ⟨_, e1, c, q⟩ => by cases e1; exact ⟨c, q⟩, fun ⟨c, q⟩ => ⟨_, rfl, c, q⟩⟩
theorem e_ixL {p : Addr} {i : Int} : rIxL K (.ref p) (.int i) H Q = ∃ xs v, SqL K H p xs ∧ atI xs i = some v ∧ Q v H :=
  propext ⟨fun ⟨_, xs, _, v, e1, e2, c, d, q⟩ => by cases e1; cases e2; exact ⟨xs, v, c, d, q⟩, fun ⟨xs, v, c, d, q⟩ => ⟨_, xs, _, v, rfl, rfl, c, d, q⟩⟩
theorem e_ixT {p : Addr} {i : Int} : rIxT K (.ref p) (.int i) H Q = ∃ xs v, SqT K H p xs ∧ atI xs i = some v ∧ Q v H :=
  propext ⟨fun ⟨_, xs, _, v, e1, e2, c, d, q⟩ => by cases e1; cases e2; exact ⟨xs, v, c, d, q⟩, fun ⟨xs, v, c, d, q⟩ => ⟨_, xs, _, v, rfl, rfl, c, d, q⟩⟩
theorem e_ixS {z : Str} {i : Int} : rIxS (.str z) (.int i) H Q = ∃ c, z.length ≤ sizeLine ∧ atI z.cps.toList i = some c ∧ Q (.str ⟨#[c]⟩) H :=
  propext ⟨fun ⟨_, _, c, e1, e2, d, a, q⟩ => by cases e1; cases e2; exact ⟨c, d, a, q⟩, fun ⟨c, d, a, q⟩ => ⟨_, _, c, rfl, rfl, d, a, q⟩⟩
theorem e_setL {p : Addr} {k : Int} {R : Hp → Prop} : rSetL (.ref p) (.int k) v H R = ∃ xs j, H p = some (.lst xs) ∧ ixN xs.length k = some j ∧ R (upd H p (.lst (xs.set j v))) :=
  propext ⟨fun ⟨_, xs, _, j, e1, e2, c, d, q⟩ => by cases e1; cases e2; exact ⟨xs, j, c, d, q⟩, fun ⟨xs, j, c, d, q⟩ => ⟨_, xs, _, j, rfl, rfl, c, d, q⟩⟩
theorem r_ixL {p : Addr} {i : Int} {xs : List V} {v : V} (h : SqL K H p xs) (e : atI xs i = some v) (q : Q v H) : rIxL K (.ref p) (.int i) H Q := ⟨_, xs, _, v, rfl, rfl, h, e, q⟩
theorem r_ixT {p : Addr} {i : Int} {xs : List V} {v : V} (h : SqT K H p xs) (e : atI xs i = some v) (q : Q v H) : rIxT K (.ref p) (.int i) H Q := ⟨_, xs, _, v, rfl, rfl, h, e, q⟩
end
theorem e_cxK {CX : CXT} {P : Program} {w : World} {mg : Str → Option Value} {base : Heap} {N : List Str} {qual : Str} {scope : Scope} {f : Addr} {cd : Value} {A : Around} {outer : List Env} {s : Shared} {H : Hp} {E : XK} {K : PySem.W.Frag} :
    (cxOf CX P w K mg base N qual scope f cd A outer s H E).K = K := rfl
theorem e_pt {R : Bool → Hp → Prop} {σ : L2.St} {H : Hp} {t : TT} {b : Bool} (h : t σ H R) : t σ H R := h
/-- int(n), n an int -/
theorem call_intI {X : Cx} : CallR X (.type "int") (fun xs H Q => ∃ i, xs = [.int i] ∧ Q (.int i) H) := by
  intro pins s σ H xs us Q I r h
  obtain ⟨i, e, q⟩ := h
  exact call_int1 pins s σ H xs us Q I r (.inl ⟨i, e, q⟩)
/-- σ at the entry -/
theorem start_def {N : List Str} {vs : List V} : L2.start N vs = vs.map some ++ List.replicate (N.length - vs.length) none := rfl
end Nv

namespace Nv
open PySem PySem.Spec PyProof.Rows L2

/-! {n:04d} -/
/-- the text of {i:04d} -/
def four (i : Int) : Str := ⟨(List.replicate (4 - (Nat.toDigits 10 i.natAbs).length) 48 ++ (Nat.toDigits 10 i.natAbs).map Char.toNat).toArray⟩
theorem four_len {i : Int} (h1 : i.natAbs < 10000) : (four i).length ≤ 4 := by
  have h := digits10_le (k := 4) (n := i.natAbs) (by decide) (by omega)
  show ((List.replicate (4 - (Nat.toDigits 10 i.natAbs).length) 48 ++ (Nat.toDigits 10 i.natAbs).map Char.toNat).toArray).size ≤ 4
  simp
  omega
theorem small_log {n : Nat} (h : n < 10000) : n.log2 < 1920 := by
  by_cases h0 : n = 0
  · subst h0
    decide
  · rw [Nat.log2_lt h0]
    exact Nat.lt_of_lt_of_le h (by
      have : (2 : Nat) ^ 14 ≤ 2 ^ 1920 := Nat.pow_le_pow_right (by decide) (by decide)
      omega)
def f4 : Builtin.Float.FormatSpec := { fill := 48, align := 61, width := some 4, type := some 100 }
theorem gives_four (i : Int) (t u : Tok) (h0 : 0 ≤ i) (h1 : i.natAbs < 10000) : Gives (Builtin.«int.__format__» ⟨[.int i t, .str "04d" u], []⟩) (.str (four i)) := by
  intro prog w A R s hq
  unfold Builtin.«int.__format__»
  simp only [selfAndOne, noKeywords, Builtin.Int.intOfSelf, asInt?, asStr?, List.isEmpty_nil, if_true, pure_bind, bind_pure, bind_assoc, show (Value.str "04d" u == Value.none) = false from rfl, Bool.false_eq_true, if_false,
    show ((Str.ofString "04d").length == 0) = false from by decide +kernel]
  refine wpAny_bind (wpAny_typeNameOf (T := "str") (typeIs_str _ _ _) (by decide) fun _ => ?_)
  rw [if_neg (by decide +kernel)]
  first | refine wpAny_bind (wpAny_typeNameOfCut_int ?_) | refine wpAny_bind (wpAny_typeNameOf_int ?_)
  obtain ⟨f, hp, hty, hpr, hz, hal, hw, hgr, hsg, hfi, hag⟩ : ∃ f, Builtin.Float.parseFormatSpec (Str.ofString "04d").cps.toList "int" 62 = .ok f ∧ f.type = some 100 ∧ f.precision = none ∧ f.noNeg0 = false ∧ f.alt = false ∧ f.width = some 4 ∧ f.grouping = none ∧ f.sign = none ∧ f.fill = 48 ∧ f.align = 61 :=
    ⟨f4, rfl, rfl, rfl, rfl, rfl, rfl, rfl, rfl, rfl, rfl⟩
  simp only [hp, hty, Option.getD_some]
  rw [if_pos (by decide)]
  show wpAny _ _ (if _ then _ else _) _ _ _
  rw [if_neg (by simp [hpr])]
  show wpAny _ _ (if _ then _ else _) _ _ _
  rw [if_neg (by simp [hz])]
  show wpAny _ _ (if _ then _ else _) _ _ _
  rw [if_neg (by decide)]
  show wpAny _ _ (do let r ← Builtin.overDigitLimit? i; _) _ _ _
  rw [PySem.overDigitLimit_small (small_log h1)]
  refine wpAny_bind (wpAny_pure ?_)
  show wpAny _ _ (if _ then _ else _) _ _ _
  rw [if_neg (by simp [hw])]
  show wpAny _ _ (retStr _) _ _ _
  have hd : ((Nat.toDigits 10 i.natAbs).map fun c => (if (100 : Nat) == 88 then c.toUpper else c).toNat).isEmpty = false := by
    have := tDigits_len_ge 10 i.natAbs
    cases h : Nat.toDigits 10 i.natAbs with
    | nil => rw [h] at this; simp at this
    | cons _ _ => rfl
  have hneg : decide (i < 0) = false := decide_eq_false (by omega)
  have key : ∀ X : Str, X = four i → wpAny (model prog w) A.in1 (retStr X) (fun fin s' => match fin with | .done f => R (.ok f) s' | .again c' => c'.quiet = true ∧ codeAny (model prog w) A c' R s') (fun e s' => R (.error e) s') s := by
    intro X e
    subst e
    exact (Gives.of_eq (t := retStr (four i)) (m := .str (four i)) rfl) prog w A R s hq
  refine key _ ?_
  simp only [hal, hneg, Bool.false_eq_true, if_false, show ((10 : Nat) == 10) = true by decide, if_true]
  clear hd hneg key hq
  generalize hD : ((Nat.toDigits 10 i.natAbs).map fun c => (if (100 : Nat) == 88 then c.toUpper else c).toNat) = D
  have hD2 : four i = ⟨(List.replicate (4 - D.length) 48 ++ D).toArray⟩ := by
    rw [← hD]
    unfold four
    simp
  rw [hD2]
  have hne : D.isEmpty = false := by
    rw [← hD]
    have := tDigits_len_ge 10 i.natAbs
    cases h : Nat.toDigits 10 i.natAbs with
    | nil => rw [h] at this; simp at this
    | cons _ _ => rfl
  clear hD hD2 hp
  obtain ⟨fill, align, sign, noNeg0, alt, width, grouping, precision, type⟩ := f
  simp only at hty hpr hz hal hw hgr hsg hfi hag
  subst hty hpr hz hal hw hgr hsg hfi hag
  cases D with
  | nil => cases hne
  | cons x r =>
  conv => lhs; whnf
  have c1 : ((48 : Nat) == 48 && (61 : Nat) == 61) = true := rfl
  simp only [List.replicate_zero, List.nil_append, List.append_nil, List.length_nil, c1, hne, Bool.false_eq_true, if_false, if_true, List.length_append, List.length_replicate]
  have e1 : (((4 : Nat) : Int) - (((0 : Nat) : Int) + ((0 : Nat) : Int) + ((0 : Nat) : Int))).toNat = 4 := by decide
  rw [e1]
  have e2 : (((4 : Nat) : Int) - (((0 : Nat) : Int) + ((0 : Nat) : Int) + ((0 : Nat) : Int)) - ((4 - (x :: r).length + (x :: r).length : Nat) : Int)).toNat = 0 := by omega
  rw [e2]
  rfl
theorem field_four {prog : Program} {w : World} {A : Around} {E : Value → Shared → Prop} {s : Shared} {i : Int} {t : Tok} {Q : Value → Shared → Prop} (h0 : 0 ≤ i) (h1 : i.natAbs < 10000)
    (h : Q (.str (four i) (s.toks + 1)) { s with toks := s.toks + 1 + 1 }) : wpAny (model prog w) A (formatField (.int i t) "04d") Q E s :=
  wpAny_formatField_spec (by decide +kernel) (fun s' => typeIs_int s' i t) F.slot_int_format F.entry_int_format F.args_int_format_2 (fun u => gives_four i t u h0 h1) h (by decide +kernel) (by have := four_len h1; have e : sizeLine = 16777216 := sizeLine_eq; omega)
def tF4 (te : TE) : TE := fun σ H Q => te σ H fun x H1 => ∃ i : Int, x = .int i ∧ 0 ≤ i ∧ i.natAbs < 10000 ∧ Q (.str (four i)) H1
theorem pe_fmt04 {X : Cx} {e : Expr} {te : TE} {k : Nat} {p1 p2 pos : Pos} (he : PE X e te) : PE X (.FormattedValue e (-1) (some (.JoinedStr [.Constant (.str "04d") k p1] p2)) pos) (tF4 te) := by
  refine ⟨fun pins s σ H Q I h => ?_⟩
  refine wpAny_FormattedValue_spec (thn (he.run pins s σ H _ I h) fun v s1 hv => ?_)
  obtain ⟨x, H1, I1, r1, i, rfl, h0, h1, q⟩ := hv
  obtain ⟨t, rfl⟩ := r1
  refine wpAny_JoinedStr_one ?_
  have z := (pe_str (X := X) (x := "04d") (j := k) (pos := p1)).run pins s1 σ H1 (fun v H2 => v = .str "04d" ∧ H2 = H1) I1 ⟨rfl, rfl⟩
  refine thn z fun v s2 ⟨v', H2, I2, r2, e1, e2⟩ => ?_
  subst e1 e2
  obtain ⟨t2, rfl⟩ := r2
  exact ⟨_, _, rfl, field_four h0 h1 ⟨.str (four i), H2, I2.tok _, ⟨_, rfl⟩, q⟩⟩

/-! repr of data without dicts -/
def rReprD (K : PySem.W.Frag) : List V → Hp → VK → Prop := fun xs H Q => ∃ (v : V) (d : PyData), xs = [v] ∧ Dp K H v d ∧ ((∃ z, v = .str z) ∨ ∃ a, v = .ref a) ∧ d.hasDict = false ∧ d.showable = true ∧ d.depth ≤ 60 ∧ d.shown.length ≤ sizeLine ∧ Q (.str d.shown) H
theorem call_reprD {X : Cx} (hG : X.A.guards = some []) (hu : X.A.units + 64 < cLine) : CallR X (.builtin "repr") (rReprD X.K) := by
  intro pins s σ H xs us Q I r h
  obtain ⟨v, d, rfl, hd, hv, hn, hs, hp, hz, q⟩ := h
  cases r with
  | cons r1 r2 =>
    cases r2
    rcases hv with ⟨z, rfl⟩ | ⟨a, rfl⟩
    · cases hd
      obtain ⟨t, rfl⟩ := r1
      exact PySem.P.repr_of_str ⟨.str (reprText z), H, I.tok _, ⟨_, rfl⟩, q⟩ hz
    · obtain ⟨as, rd⟩ := Dp.reads I d (.ref a) _ hd r1
      cases r1
      exact repr_of_reads' rd hs (fun e => by rw [hn] at e; cases e) hG (by omega) (fun _ _ e => e) (fun h' u tk k => ⟨.str d.shown, H, I.kept k, ⟨u, rfl⟩, q⟩) hz

/-! the readings, one step each -/
section
variable {σ : L2.St} {H : Hp} {Q : VK} {te ta tb : TE}
theorem e_f4 : tF4 te σ H Q = te σ H (fun x H1 => ∃ i : Int, x = .int i ∧ 0 ≤ i ∧ i.natAbs < 10000 ∧ Q (.str (four i)) H1) := rfl
theorem e_js0 {acc : Str} {R : Str → Hp → Prop} : tJs [] acc σ H R = R acc H := rfl
theorem e_js1 {ts : List TE} {acc : Str} {R : Str → Hp → Prop} : tJs (te :: ts) acc σ H R = te σ H (fun x H1 => ∃ y : Str, x = .str y ∧ (acc ++ y).length ≤ sizeLine ∧ tJs ts (acc ++ y) σ H1 R) := rfl
theorem e_fmt : tFmt te σ H Q = te σ H (fun x H1 => (∃ y : Str, x = .str y ∧ y.length ≤ sizeLine ∧ Q (.str y) H1) ∨ ∃ i : Int, x = .int i ∧ i.natAbs.log2 < 1920 ∧ Q (.str (toString i)) H1) := rfl
theorem e_lrg {t : L2.St → Hp → (Int → Int → Hp → Prop) → Prop} : tLstRg t σ H Q = t σ H (fun a b H1 => RgOk a b ∧ ∀ q, H1 q = none → Q (.ref q) (upd H1 q (.lst (rgV a b)))) := rfl
theorem e_rg1 {R : Int → Int → Hp → Prop} : tRg1 ta σ H R = ta σ H (fun x H1 => ∃ n, x = .int n ∧ R 0 n H1) := rfl
end
end Nv
namespace Nv
open PySem PySem.Spec PyProof.Rows L2
/-! the same rules where the written part's name is given (within a comprehension) -/
section
variable {X : Cx} {K : PySem.W.Frag}
theorem ix_listK (h : X.K = K) : IxR X (rIxL K) := by
  subst h
  exact ix_list
theorem ix_tupK (h : X.K = K) : IxR X (rIxT K) := by
  subst h
  exact ix_tup
theorem sl_listK (h : X.K = K) : SlR X (rSlL K) := by
  subst h
  exact sl_list
theorem sl_tupK (h : X.K = K) : SlR X (rSlT K) := by
  subst h
  exact sl_tup
theorem op_eqDK (h : X.K = K) (hu : X.A.units + 64 < cLine) : OpR X (compareOp .Eq) (rEqD K) := by
  subst h
  exact op_eqD hu
theorem op_neDK (h : X.K = K) (hu : X.A.units + 64 < cLine) : OpR X (compareOp .NotEq) (rNeD K) := by
  subst h
  exact op_neD hu
theorem call_len_seqK (h : X.K = K) : CallR X (.builtin "len") (fun xs H Q => ∃ p ys, xs = [.ref p] ∧ (SqL K H p ys ∨ SqT K H p ys) ∧ Q (.int ys.length) H) := by
  subst h
  exact call_len_seq
end
end Nv

namespace Nv
open PySem PySem.Spec PyProof.Rows L2

/-! own errors that are held as values -/
def ExV (H : Hp) (a C : Addr) : Prop := ∃ (d : Addr) (fs : List (Str × V)), H a = some (exo a C (some d)) ∧ H d = some (exd d fs)
theorem ExV.same {H H' : Hp} {a C : Addr} (h : ExV H a C) (s : Same H H') : ExV H' a C := by
  obtain ⟨d, fs, h1, h2⟩ := h
  exact ⟨d, fs, s _ _ h1, s _ _ h2⟩
def rIsiE (K : PySem.W.Frag) : List V → Hp → VK → Prop := fun xs H Q => ∃ (a C : Addr) (T : String) (b : Bool), xs = [.ref a, .ty T] ∧ ExV H a C ∧ PySem.W.NvCls K C ∧ PySem.W.kitOne K (.ref C) (.type T) = some b ∧ Q (.bl b) H
def rIsiA (K : PySem.W.Frag) : List V → Hp → VK → Prop := fun xs H Q => rIsi K xs H Q ∨ rIsiE K xs H Q
theorem call_isiA {X : Cx} : CallR X (.builtin "isinstance") (rIsiA X.K) := by
  intro pins s σ H xs us Q I r h
  rcases h with h | h
  · exact call_isi pins s σ H xs us Q I r h
  · obtain ⟨a, C, T, b, rfl, ⟨d, fs, h1, h2⟩, c, e, q⟩ := h
    obtain ⟨u1, u2, rfl, r1, r2⟩ := vals2 r
    cases (show u1 = Value.ref a from r1)
    cases (show u2 = Value.type T from r2)
    obtain ⟨t1, ho⟩ := exo_at I.hok h1
    obtain ⟨mA, ⟨od, es, ep, hod, _⟩, _⟩ := exd_at I.hok h2
    have J : ∃ od, PySem.W.InstAt s.heap a ({ cls := .ref C, dict := some d, data := .fields #[.ref t1, .none, .none, .none, .bool false, .none] } : Obj) C od :=
      ⟨some od, ho, rfl, rfl, hod⟩
    exact PySem.W.kia_one (PySem.W.nv_kit c) I.kIn J e (fun z => nomatch z) fun tk => ⟨.bl b, H, I.tok tk, rfl, q⟩

section
variable {X : Cx} {e : Expr} {te : TE} {p pos : Pos} {x f : Str} {C fI : Addr} {fd : FuncData}
/-- C(e) as a value -/
def tErrV (C : Addr) (f : Str) (te : TE) : TE := fun σ H Q => te σ H fun v H1 => ∀ a d, H1 a = none → H1 d = none → d ≠ a → Q (.ref a) (upd (upd H1 d (exd d [(f, v)])) a (exo a C (some d)))
theorem pe_errV (T : ErrT X.K X.mg x f C fI) (F1 : FnOk X.prog X.w X.K X.mg X.base CX0 1 fI fd ["self", f] (spXI X.K f)) (hb : Binds X.K fd ["self", f] []) (hr : Room 2 X.A) (ha : PE X e te) (hg : Gl X x := by rfl)
    (hdb : (x == ("__debug__" : Str)) = false := by decide) (he : starEach (e :: []) X.env = (false, eval e X.env) :: starEach [] X.env := by rfl) (hpl : (backTo pos (starEach [] X.env)).any (·.1) = false := by rfl) :
    PE X (.Call (.Name x p) (e :: []) [] pos) (tErrV C f te) := by
  constructor
  intro pins s σ H Q I h
  obtain ⟨nm, q, N, bs, bm, sn, sub, ab, col, dd, k0, k1, k2, k3, k5, hC, hbm⟩ := T.T.cls
  refine wpAny_Call_Name_kw (ld_glob I hg T.gC ?_ hdb)
  have hq : ∀ (vs : List V) (H1 : Hp), (∃ v, vs = [v] ∧ ∀ a d, H1 a = none → H1 d = none → d ≠ a → Q (.ref a) (upd (upd H1 d (exd d [(f, v)])) a (exo a C (some d)))) → (∃ v, vs = [v] ∧ ∀ a d, H1 a = none → H1 d = none → d ≠ a → Q (.ref a) (upd (upd H1 d (exd d [(f, v)])) a (exo a C (some d)))) := fun _ _ z => z
  refine PySem.W.callWith_K (h₀ := X.base) I.ok.mod.kin T.T.kC (thn ((pa_any ha he).run pos pins s σ H (fun vs H1 => ∃ v, vs = [v] ∧ ∀ a d, H1 a = none → H1 d = none → d ≠ a → Q (.ref a) (upd (upd H1 d (exd d [(f, v)])) a (exo a C (some d)))) I ⟨_, h, fun v H1 z => ⟨v, rfl, z⟩⟩) fun us s1 hh => ?_) he hpl
  obtain ⟨vs, H1, I1, r1, v, rfl, q1⟩ := hh
  refine ⟨I1.kIn, ?_⟩
  show wpAny _ _ (call (.ref C) us) _ _ _
  obtain ⟨hp, g, dr, tk, os⟩ := s1
  have hsz : hp.objs.size ≤ hp.objs.size + 1 := Nat.le_succ _
  have hn : H1 (hp.objs.size + 1) = none := I1.hok.fresh hsz
  have kk : ∀ b o, hp.get? b = some o → ((hp.push (PySem.W.kdv_tup us)).push (PySem.HandSPX.excO C hp.objs.size)).get? b = some o := fun b o e => Heap.get?_push_of_some _ (Heap.get?_push_of_some _ e)
  have hget : ((hp.push (PySem.W.kdv_tup us)).push (PySem.HandSPX.excO C hp.objs.size)).get? (hp.objs.size + 1) = some (PySem.HandSPX.excO C hp.objs.size) := by heap_get
  have I2 : Inv X pins σ (upd H1 (hp.objs.size + 1) (exo (hp.objs.size + 1) C none)) ⟨(hp.push (PySem.W.kdv_tup us)).push (PySem.HandSPX.excO C hp.objs.size), g, dr, tk, os⟩ :=
    I1.laid (t' := tk) (a := hp.objs.size + 1) (o := exo (hp.objs.size + 1) C none) (h' := (hp.push (PySem.W.kdv_tup us)).push (PySem.HandSPX.excO C hp.objs.size)) kk hsz (exo_ok hget)
  have hus : us.length ≤ sizeLine := by
    rw [← Paired.length r1, sizeLine_eq]
    show 1 ≤ 16777216
    decide
  obtain ⟨u0, rfl, r0⟩ : ∃ u0, us = [u0] ∧ RelV v u0 := by
    cases r1 with
    | cons a t =>
      cases t
      exact ⟨_, rfl, a⟩
  have hl : (Value.ref (hp.objs.size + 1) :: [u0] ++ []).length = ([("self" : Str), f] : List Str).length := rfl
  have r2 : Vals [V.ref (hp.objs.size + 1), v] [Value.ref (hp.objs.size + 1), u0] := .cons rfl (.cons r0 .nil)
  have hbb := hb _ (Value.ref (hp.objs.size + 1) :: [u0]) I2.kIn hl
  rw [List.append_nil] at hbb
  have hsp : spXI X.K f [V.ref (hp.objs.size + 1), v] (upd H1 (hp.objs.size + 1) (exo (hp.objs.size + 1) C none)) (fun w H2 => w = .non ∧ Q (.ref (hp.objs.size + 1)) H2) (fun _ _ _ => False) := by
    refine ⟨_, C, v, rfl, T.T, T.noF, upd_same, fun dx h1 h2 => ⟨rfl, ?_⟩⟩
    rw [upd_ne h2] at h1
    have e : upd (upd (upd H1 (hp.objs.size + 1) (exo (hp.objs.size + 1) C none)) dx (exd dx [(f, v)])) (hp.objs.size + 1) (exo (hp.objs.size + 1) C (some dx)) = upd (upd H1 dx (exd dx [(f, v)])) (hp.objs.size + 1) (exo (hp.objs.size + 1) C (some dx)) := by
      funext b
      by_cases g1 : b = hp.objs.size + 1
      · subst g1
        rw [upd_same, upd_same]
      · rw [upd_ne g1, upd_ne g1]
        by_cases g2 : b = dx
        · subst g2
          rw [upd_same, upd_same]
        · rw [upd_ne g2, upd_ne g2, upd_ne g1]
    rw [e]
    exact q1 _ dx hn h1 h2
  refine wpAny_call (PySem.HandSPX.call_own F.excBase_ValueError (fun Y => PySem.HandSPX.refsVE_contains Y bm hbm) (I1.kIn _ _ hC) (PySem.W.looks_findIn I1.kIn T.iC) (fun self => PySem.W.bind_fn I1.kIn self T.tI) hus
    (codeAny_mono (F1.run _ X.stack _ _ ⟨Value.ref (hp.objs.size + 1) :: [u0], []⟩ [Value.ref (hp.objs.size + 1), u0] _ _ (fun _ _ _ => False) (hr.make C [u0] []) (I2.env0.make C [u0] []) hbb r2 hsp) fun r s' hq' => ?_))
  cases r with
  | error er => exact pass0 pins σ _ _ er s' I2 hq'
  | ok fl =>
    cases fl with
    | ret u =>
      obtain ⟨w, H2, J, rv, ew, q2⟩ := I2.after hq'
      subst ew
      exact ⟨rv, .ref (hp.objs.size + 1), H2, J, rfl, q2⟩
    | next => exact False.elim hq'
    | brk => exact False.elim hq'
    | cont => exact False.elim hq'
end
section
variable {prog : Program} {w : World} {A : Around} {E : Value → Shared → Prop} {s : Shared} {K : PySem.W.Frag} {x C : Addr} {ox : Obj} {od : Option Obj}
theorem call_objEqS {Q : Value → Shared → Prop} (X : K.In s.heap) (I : PySem.W.InstAt s.heap x ox C od) (hm : PySem.W.mroIn K C (.type "object") = some true) (hq : Q (.bool true) s) :
    wpAny (model prog w) A (call (.builtin "object.__eq__") [.ref x, .ref x]) Q E s :=
  wpAny_call (codeAny_call_builtin F.cmp_object.eq.plain F.cmpEntry_eq (PySem.W.check_slot F.cmpKind_eq F.cmpSplit_eq (I.type.andThen (PySem.W.looks_mroIn X hm)) (F.cmpArgs_eq _ _) (objEq_entry_same hq)))
theorem rc_same {Q : Value → Shared → Prop} (hu : A.units < cLine) (X : K.In s.heap) (I : PySem.W.InstAt s.heap x ox C od) (hm : PySem.W.mroIn K C (.type "object") = some true) (hs : PySem.W.findIn K (.ref C) "__eq__" = some (some (.builtin "object.__eq__"))) (h : Q (.bool true) s) :
    wpAny (model prog w) A (compareOp .Eq (.ref x) (.ref x)) Q E s := by
  have one : ∀ {R : Option Value → Shared → Prop}, R (some (.bool true)) s → wpAny (model prog w) A (tryCompare (.ref x) "__eq__" (.ref x)) R E s := fun h => by
    unfold tryCompare
    exact wpAny_bind (HN.ifBound_objEq X I hs (call_objEqS X I hm (wpAny_pure h)))
  show wpAny _ _ (richCompare .Eq (.ref x) (.ref x)) _ _ _
  simp only [richCompare, cmpInfo_Eq, oneThing_ref]
  refine wpAny_holding (wpAny_bind (wpAny_cRoomFor hu ?_))
  refine wpAny_bind (I.type.here ?_)
  refine wpAny_bind (I.type.here ?_)
  repeat (first | with_reducible refine one ?_ | wp_step)
  exact h
end
def rEqX (K : PySem.W.Frag) : R2 := fun x y H Q => ∃ a C, x = .ref a ∧ y = .ref a ∧ ExV H a C ∧ PySem.W.mroIn K C (.type "object") = some true ∧ PySem.W.findIn K (.ref C) "__eq__" = some (some (.builtin "object.__eq__")) ∧ Q (.bl true) H
theorem op_eqX {X : Cx} (hu : X.A.units < cLine) : OpR X (compareOp .Eq) (rEqX X.K) := by
  intro pins s σ H x y v u Q I rx ry h
  obtain ⟨a, C, rfl, rfl, ⟨d, fs, h1, h2⟩, hm, hs, q⟩ := h
  cases (show v = Value.ref a from rx)
  cases (show u = Value.ref a from ry)
  obtain ⟨t1, ho⟩ := exo_at I.hok h1
  obtain ⟨mA, ⟨od, es, ep, hod, _⟩, _⟩ := exd_at I.hok h2
  have J : PySem.W.InstAt s.heap a ({ cls := .ref C, dict := some d, data := .fields #[.ref t1, .none, .none, .none, .bool false, .none] } : Obj) C (some od) :=
    ⟨ho, rfl, rfl, hod⟩
  exact rc_same hu I.kIn J hm hs ⟨.bl true, H, I, rfl, q⟩

/-! a def that is called within an except suite and lets nothing out -/
open L2H in
structure FnGH (P : Program) (w : World) (K : PySem.W.Frag) (mg : Str → Option Value) (base : Heap) (k : Nat)
    (f : Addr) (fd : FuncData) (ps : List Str) (sp : Sp) : Prop where
  len : ∀ vs H Q E, sp vs H Q E → vs.length = ps.length
  run : ∀ (A : Around) (outer : List Env) (s : Shared) (H : Hp) (args : Args) (us : List Value) (vs : List V) (Q : VK) (E : XK) (p : Addr × Obj),
    A.guards = some [] → RoomH k A → PinOk outer H s p → Env0 P w K mg base A outer s H → BindsTo s fd args (ps.zip us) → Vals vs us →
    sp vs H Q E → codeAny (model P w) A (.call (.ref f) args) (CR CX0 outer P w H s Q E) s
open L2H in
theorem okGH {P : Program} {w : World} {K : PySem.W.Frag} {mg : Str → Option Value} {base : Heap} {k : Nat} {f : Addr} {fd : FuncData} {ps : List Str} {sp : Sp} {x qual : Str} {st : Stmt} {N : List Str}
    (F : Fun K x qual st f fd) (S : FnScope N ps (defScope st)) (len : ∀ vs H Q E, sp vs H Q E → vs.length = ps.length)
    (body : ∀ (cdv : Value) (A : Around) (outer : List Env) (s : Shared) (H : Hp) (vs : List V) (Q : VK) (E : XK) (p : Addr × Obj),
      A.guards = some [] → RoomH k (A.deeper (envOfC qual (defScope st) s.heap.objs.size f cdv)) → sp vs H Q E →
      ∃ t, PSs (cxH CX0 P w K mg base N qual (defScope st) f cdv A outer s H E p) (defBody st) t ∧
        t { nx := fun _ H' => Q .non H', rt := Q } (start N vs) H) :
    FnGH P w K mg base (k + 1) f fd ps sp := by
  obtain ⟨oc, od, kV, doc, pm, an, cdv, ct, osl, rfl, lk, hcd⟩ := F.ex
  refine ⟨len, ?_⟩
  intro A outer s H args us vs Q E p hg hr pin e0 hb r hsp
  have hl := len _ _ _ _ hsp
  have stays : ∀ b o, base.get? b = some o → s.heap.get? b = some o := fun b o e => (e0.bs b o e).1
  have KX : K.In s.heap := e0.mod.kin.keeps stays
  have kinds : ∀ y ∈ ps.zip us, (defScope st).names.lookup y.1 = some .local ∨
      ((defScope st).names.lookup y.1 = some .cell ∧
        ((cellsFrom (s.heap.objs.size + 1) (defScope st).names []).lookup y.1).isSome = true) := by
    intro y hy
    rcases S.par y.1 (List.of_mem_zip (a := y.1) (b := y.2) hy).1 with q | q
    · exact Or.inl q
    · exact Or.inr ⟨q, PySem.W.cellsFrom_some _ _ _ (Or.inl q)⟩
  refine codeAny_call_function hr.depth (KX _ _ lk) rfl S.co S.gen rfl (PySem.W.codeRec_of KX hcd) (hb _ _ _ _ ?_)
  refine wpAny_newFunctionEnv_cells S.kind kinds ?_
  intro env he s1 x
  subst he
  refine ⟨(e0.mod.nolimit.keeps stays).keeps x.toInCall.keep, codeAny_func ?_⟩
  obtain ⟨t, ht, hq⟩ := body cdv A outer s H vs Q E p hg (hr.deeper _) hsp
  have I := inv_startH (CX := CX0) (E := E) S pin e0 hl r x
  refine wpAny_mono (ht.run [] s1 (start N vs) H _ I hq) ?_ (fun _ _ z => z)
  intro fl s' hs
  have fin : ∀ {σ' : L2.St} {H' : Hp} {v : V} {u : Value},
      Inv (cxH CX0 P w K mg base N qual (defScope st) f cdv A outer s H E p) [] σ' H' s' → RelV v u → Q v H' →
      CE outer P w H s Q u s' := fun {σ' H' v u} J rv q => ⟨v, H', J.os, J.bare, J.base, J.hok, rv, q⟩
  cases fl with
  | next => obtain ⟨_, _, J, q⟩ := hs; exact fin (v := V.non) (u := Value.none) J rfl q
  | ret u => obtain ⟨_, _, _, J, rv, q⟩ := hs; exact fin J rv q
  | brk => obtain ⟨_, _, _, q⟩ := hs; exact q.elim
  | cont => obtain ⟨_, _, _, q⟩ := hs; exact q.elim
open L2H in
theorem pe_cGH {X : Cx} {W : WX} {k : Nat} {f : Addr} {fd : FuncData} {ps : List Str} {sp : Sp} {x : Str} {q pos : Pos} {e : Expr} {es : List Expr} {t : TA} {p : Addr × Obj}
    (F : FnGH X.prog X.w X.K X.mg X.base k f fd ps sp) (b : Pos1 fd ps) (hG : X.A.guards = some []) (hr : RoomH k X.A) (hp : p ∈ X.pn)
    (hm : X.mg x = some (.ref f)) (hk : PySem.W.keepIn X.K (.ref f) = true) (ha : PA X (e :: es) t) (hg : Gl X x := by rfl)
    (hdb : (x == ("__debug__" : Str)) = false := by decide) (he : starEach (e :: es) X.env = (false, eval e X.env) :: starEach es X.env := by rfl)
    (hpl : (backTo pos (starEach es X.env)).any (·.1) = false := by rfl) : PE X (.Call (.Name x q) (e :: es) [] pos) (tCG sp W t) := by
  constructor
  intro pins s σ H Q I h
  refine wpAny_Call_Name_kw (ld_glob I hg hm ?_ hdb)
  refine PySem.W.callWith_K (h₀ := X.base) I.ok.mod.kin hk (thn (ha.run pos pins s σ H _ I h) ?_) he hpl
  intro us s1 ⟨vs, H1, I1, r, h2⟩
  refine ⟨I1.kIn, ?_⟩
  have P1 := I1.pin p (List.mem_append_left _ hp)
  have hpin : PinOk X.stack H1 s1 p := ⟨P1.1, P1.2.1, fun hm => (List.mem_cons.mp (I1.stkSub p.1 hm)).elim P1.2.2.1 P1.2.2.2.1, P1.2.2.2.2⟩
  have hl : us.length = ps.length := by
    rw [← r.length]
    exact F.len _ _ _ _ h2
  refine wpAny_call (codeAny_mono (F.run X.A X.stack s1 H1 ⟨us, []⟩ us vs Q (WE W σ) p hG hr hpin I1.env0 (.of_eq (b _ hl)) r h2) ?_)
  intro r s' hq
  cases r with
  | error er => exact (pass0 pins σ _ _ er s' I1 hq)
  | ok fl =>
    cases fl with
    | ret u => exact I1.after hq
    | next => exact hq.elim
    | brk => exact hq.elim
    | cont => exact hq.elim

theorem roomHU {k : Nat} {A : Around} (r : L2H.RoomH k A) : A.units + 64 < cLine := by
  have := r.un
  omega
theorem roomS {k : Nat} {A : Around} {h : Option Value} (r : Room k A) : L2H.RoomH k (A.mark h) := ⟨r.dp, r.un⟩
/-- repr of any data -/
def rReprA : List V → Hp → VK → Prop := fun xs H Q => ∃ (v : V) (d : PyData), xs = [v] ∧ DV H v d ∧ d.showable = true ∧ d.depth ≤ 60 ∧ d.shown.length ≤ sizeLine ∧ (∀ i, d = .int i → i.natAbs.log2 < 1920) ∧ Q (.str d.shown) H
theorem call_reprA {X : Cx} (hG : X.A.guards = some []) (hu : X.A.units + 64 < cLine) : CallR X (.builtin "repr") rReprA := by
  intro pins s σ H xs us Q I r h
  obtain ⟨v, d, rfl, hd, hs, hp, hz, hi, q⟩ := h
  obtain ⟨u, rfl, r1⟩ := vals1 r
  cases hd with
  | non =>
    cases (show u = Value.none from r1)
    exact PySem.P.repr_of_none ⟨.str _, H, I.tok _, ⟨_, rfl⟩, q⟩
  | bl b =>
    cases (show u = Value.bool b from r1)
    exact PySem.P.repr_of_bool ⟨.str (Str.ofString (if b then "True" else "False")), H, I.tok _, ⟨_, by cases b <;> rfl⟩, by cases b <;> exact q⟩
  | int i =>
    obtain ⟨t, rfl⟩ := (show ∃ t, u = Value.int i t from r1)
    exact PySem.P.repr_of_int (hi i rfl) ⟨.str _, H, I.tok _, ⟨_, rfl⟩, q⟩
  | str z =>
    obtain ⟨t, rfl⟩ := (show ∃ t, u = Value.str z t from r1)
    exact PySem.P.repr_of_str ⟨.str (reprText z), H, I.tok _, ⟨_, rfl⟩, q⟩ hz
  | @lst a xs ds h n q2 =>
    cases (show u = Value.ref a from r1)
    exact call_repr hG hu pins s σ H _ _ Q I r ⟨a, _, rfl, .lst h n q2, hs, hp, hz, q⟩
  | @tup a xs ds h q2 =>
    cases (show u = Value.ref a from r1)
    exact call_repr hG hu pins s σ H _ _ Q I r ⟨a, _, rfl, .tup h q2, hs, hp, hz, q⟩
  | @dct a xs ds h q2 =>
    cases (show u = Value.ref a from r1)
    exact call_repr hG hu pins s σ H _ _ Q I r ⟨a, _, rfl, .dct h q2, hs, hp, hz, q⟩
theorem e_errv {C : Addr} {f : Str} {te : TE} {σ : L2.St} {H : Hp} {Q : VK} : tErrV C f te σ H Q = te σ H (fun v H1 => ∀ a d, H1 a = none → H1 d = none → d ≠ a → Q (.ref a) (upd (upd H1 d (exd d [(f, v)])) a (exo a C (some d)))) := rfl

/-- data, or an own error (which counts as None where it is asked what it is) -/
inductive AV (K : PySem.W.Frag) (H : Hp) : V → PyData → Prop
  | dat {v : V} {d : PyData} (h : DV H v d) : AV K H v d
  | exc {a C : Addr} (h : ExV H a C) (n : PySem.W.NvCls K C) (k1 : PySem.W.kitOne K (.ref C) (.type "str") = some false) (k2 : PySem.W.kitOne K (.ref C) (.type "tuple") = some false) : AV K H (.ref a) .none
theorem AV.mono {K : PySem.W.Frag} {H H' : Hp} {v : V} {d : PyData} (h : AV K H v d) (e : Same H H') : AV K H' v d := by
  cases h with
  | dat h => exact .dat (h.mono e)
  | exc h n k1 k2 => exact .exc (h.same e) n k1 k2
def isT : PyData → Bool
  | .tuple _ => true
  | _ => false
def isD : PyData → Bool
  | .dict _ => true
  | _ => false
theorem kit_tuple (d : PyData) : kitB (tyName d) "tuple" = some (isT d) := by
  cases d with
  | none => exact (by decide +kernel : kitB "NoneType" "tuple" = some false)
  | bool b => exact (by decide +kernel : kitB "bool" "tuple" = some false)
  | int i => exact (by decide +kernel : kitB "int" "tuple" = some false)
  | str x => exact (by decide +kernel : kitB "str" "tuple" = some false)
  | list l => exact (by decide +kernel : kitB "list" "tuple" = some false)
  | tuple l => exact (by decide +kernel : kitB "tuple" "tuple" = some true)
  | dict l => exact (by decide +kernel : kitB "dict" "tuple" = some false)
theorem kit_dict (d : PyData) : kitB (tyName d) "dict" = some (isD d) := by
  cases d with
  | none => exact (by decide +kernel : kitB "NoneType" "dict" = some false)
  | bool b => exact (by decide +kernel : kitB "bool" "dict" = some false)
  | int i => exact (by decide +kernel : kitB "int" "dict" = some false)
  | str x => exact (by decide +kernel : kitB "str" "dict" = some false)
  | list l => exact (by decide +kernel : kitB "list" "dict" = some false)
  | tuple l => exact (by decide +kernel : kitB "tuple" "dict" = some false)
  | dict l => exact (by decide +kernel : kitB "dict" "dict" = some true)
section
variable {K : PySem.W.Frag} {H : Hp} {Q : VK} {v : V} {d : PyData}
theorem r_isiD {T : String} {b : Bool} (h : DV H v d) (e : kitB (tyName d) T = some b) (q : Q (.bl b) H) : rIsiA K [v, .ty T] H Q := .inl (r_isi h e q)
theorem AV.isStr (h : AV K H v d) (q : Q (.bl (isS d)) H) : rIsiA K [v, .ty "str"] H Q := by
  cases h with
  | dat h => exact r_isiD h (kit_str d) q
  | exc h n k1 k2 => exact .inr ⟨_, _, _, _, rfl, h, n, k1, q⟩
theorem AV.isTup (h : AV K H v d) (q : Q (.bl (isT d)) H) : rIsiA K [v, .ty "tuple"] H Q := by
  cases h with
  | dat h => exact r_isiD h (kit_tuple d) q
  | exc h n k1 k2 => exact .inr ⟨_, _, _, _, rfl, h, n, k2, q⟩
theorem AV.str {z : Str} (h : AV K H v (.str z)) : v = .str z := by
  cases h with
  | dat h => cases h; rfl
theorem AV.tup {ds : List PyData} (h : AV K H v (.tuple ds)) : ∃ a xs, v = .ref a ∧ H a = some (.tup xs) ∧ DVs H xs ds := by
  cases h with
  | dat h => cases h with | tup e r => exact ⟨_, _, rfl, e, r⟩
theorem DVs.len {xs : List V} {ds : List PyData} (h : DVs H xs ds) : xs.length = ds.length := by
  induction xs generalizing ds with
  | nil => cases h; rfl
  | cons x xs ih => cases h with | cons a b => simp [ih b]
end

/-- list(x), the new one not the table of modules -/
theorem call_list_new {X : Cx} : CallR X (.type "list") (fun xs H Q => ∃ (src : Addr) (items : List V), xs = [.ref src] ∧ (SqL X.K H src items ∨ SqT X.K H src items) ∧
    ∀ l, H l = none → l ≠ sysModules → Q (.ref l) (upd H l (.lst items))) := by
  intro pins st σ H xs us Q I rel hyp
  obtain ⟨src, items, rfl, which, post⟩ := hyp
  obtain ⟨val, rfl, rv⟩ := vals1 rel
  cases rv
  have big : st.heap.objs.size ≠ sysModules := Nat.ne_of_gt I.big
  have free := I.hok.fresh (Nat.le_refl st.heap.objs.size)
  have done_ : ∀ (vs : List Value) (hv : Vals items vs) (hn : items.length ≤ sizeLine) (hp : Heap) (ct : Nat)
      (keep : ∀ b o, st.heap.get? b = some o → hp.get? b = some o)
      (new : hp.get? st.heap.objs.size = some { cls := .type "list", dict := none, data := .seq vs.toArray ct, slots := #[] }),
      EP X pins σ Q (.ref st.heap.objs.size) { st with heap := hp } := by
    intro vs hv hn hp ct keep new
    refine ⟨.ref st.heap.objs.size, upd H st.heap.objs.size (.lst items), ?_, rfl, post _ free big⟩
    exact I.laid (t' := st.toks) keep (Nat.le_refl _) ⟨hn, vs, ct, hv, new⟩
  cases which with
  | inl q =>
    obtain ⟨vs, hv, pl, hn⟩ := I.list q
    have el := hv.length
    obtain ⟨o, e1, e2, ct, e3⟩ := pl.isList
    refine call_list_seq src (.inl rfl) e1 e2 e3 (done_ vs hv hn) ?_
    rw [List.size_toArray]
    omega
  | inr q =>
    obtain ⟨vs, hv, pl, hn⟩ := I.tuple q
    have el := hv.length
    obtain ⟨o, e1, e2, ct, e3⟩ := pl
    refine call_list_seq src (.inr rfl) e1 e2 e3 (done_ vs hv hn) ?_
    rw [List.size_toArray]
    omega
/-- little of the C stack is used -/
structure HU (A : Around) : Prop where
  units : A.units + 64 < cLine
/-- what is asked of an own error that is an argument -/
structure AvC (K : PySem.W.Frag) (C : Addr) : Prop where
  s : PySem.W.subIn K (.ref C) (.type "str") = some false
  t : PySem.W.subIn K (.ref C) (.type "tuple") = some false
  mo : PySem.W.mroIn K C (.type "object") = some true
  eq : PySem.W.findIn K (.ref C) "__eq__" = some (some (.builtin "object.__eq__"))
theorem kit_type {K : PySem.W.Frag} {C : Addr} {T : String} {b : Bool} (m : PySem.W.kitMeta T = true) (h : PySem.W.subIn K (.ref C) (.type T) = some b) : PySem.W.kitOne K (.ref C) (.type T) = some b := by
  have e : (Value.ref C == Value.type T) = false := by simp
  unfold PySem.W.kitOne
  rw [e]
  show PySem.W.kitCls K (.ref C) (.type T) = some b
  show (if PySem.W.kitMeta T = true then PySem.W.subIn K (.ref C) (.type T) else none) = some b
  rw [if_pos m]
  exact h
theorem AvC.av {K : PySem.W.Frag} {H : Hp} {a C : Addr} (c : AvC K C) (n : PySem.W.NvCls K C) (e : ExV H a C) : AV K H (.ref a) .none :=
  .exc e n (kit_type (by decide +kernel) c.s) (kit_type (by decide +kernel) c.t)
end Nv

namespace Fr

def dig (c : Nat) : Bool := decide (48 ≤ c) && decide (c ≤ 57)
def num (l : List Nat) : Nat := l.foldl (fun a c => a * 10 + (c - 48)) 0
/-- where the frame ends that begins at s -/
def fend (z : List Nat) (s : Nat) : Option Nat :=
  if ((z.drop s).take 4).length = 4 ∧ ((z.drop s).take 4).all dig = true then
    if (z.drop (s + 4 + num ((z.drop s).take 4))).take 1 = [46] then some (s + 4 + num ((z.drop s).take 4) + 1) else none
  else none
def piece (z : List Nat) (a b : Nat) : List Nat := (z.drop a).take (b - a)
def rd (z : List Nat) : Nat → Nat → List (List Nat) → List (List Nat) × Nat
  | 0, s, acc => (acc, s)
  | n + 1, s, acc => match fend z s with
    | none => (acc, s)
    | some e => rd z n e (acc ++ [piece z (s + 4) (e - 1)])
def parse (z : List Nat) : List (List Nat) × Nat := rd z (z.length + 1) 0 []

theorem fend_bounds {z : List Nat} {s e : Nat} (h : fend z s = some e) : s + 5 ≤ e ∧ e ≤ z.length := by
  unfold fend at h
  split at h
  · split at h
    · rename_i h1 h2
      cases h
      have hl : ((z.drop (s + 4 + num ((z.drop s).take 4))).take 1).length = 1 := by rw [h2]; rfl
      rw [List.length_take, List.length_drop] at hl
      omega
    · cases h
  · cases h
theorem rd_more {z : List Nat} : ∀ (n s : Nat) (acc : List (List Nat)), z.length + 1 ≤ n + s → rd z n s acc = rd z (n + 1) s acc
  | 0, s, acc, h => by
    have : fend z s = none := by
      cases e : fend z s with
      | none => rfl
      | some x =>
        have := fend_bounds e
        omega
    simp [rd, this]
  | n + 1, s, acc, h => by
    rw [rd, rd]
    cases e : fend z s with
    | none => rfl
    | some x =>
      have := fend_bounds e
      exact rd_more n x _ (by omega)
/-- where a reading stands -/
def At (z : List Nat) (s : Nat) (acc : List (List Nat)) : Prop := s ≤ z.length ∧ rd z (z.length + 1) s acc = parse z
theorem At.zero (z : List Nat) : At z 0 [] := ⟨Nat.zero_le _, rfl⟩
theorem At.stop {z : List Nat} {s : Nat} {acc : List (List Nat)} (h : At z s acc) (e : fend z s = none) : parse z = (acc, s) := by
  rw [← h.2, rd, e]
theorem At.step {z : List Nat} {s e : Nat} {acc : List (List Nat)} (h : At z s acc) (he : fend z s = some e) : At z e (acc ++ [piece z (s + 4) (e - 1)]) := by
  have hb := fend_bounds he
  refine ⟨hb.2, ?_⟩
  rw [← h.2]
  have e1 : rd z (z.length + 1) s acc = rd z z.length e (acc ++ [piece z (s + 4) (e - 1)]) := by
    simp only [rd, he]
  rw [e1]
  exact (rd_more z.length e _ (by omega)).symm

/-! rows of frames -/
def pad (n : Nat) : List Nat := [48 + n / 1000 % 10, 48 + n / 100 % 10, 48 + n / 10 % 10, 48 + n % 10]
def frm (t : List Nat) : List Nat := pad t.length ++ t ++ [46]
theorem frm_len (t : List Nat) : (frm t).length = t.length + 5 := by
  simp [frm, pad]
theorem pad_num {n : Nat} (h : n < 10000) : num (pad n) = n := by
  simp only [num, pad, List.foldl_cons, List.foldl_nil]
  omega
theorem pad_dig (n : Nat) : (pad n).all dig = true := by
  simp only [pad, List.all_cons, List.all_nil, dig, Bool.and_true, Bool.and_eq_true, decide_eq_true_eq]
  omega
def row (ts : List (List Nat)) : List Nat := (ts.map frm).flatten
def total (ts : List (List Nat)) : Nat := (ts.map fun t => t.length + 5).sum
theorem row_len (ts : List (List Nat)) : (row ts).length = total ts := by
  induction ts with
  | nil => rfl
  | cons t r ih =>
    simp only [row, total, List.map_cons, List.flatten_cons, List.length_append, List.sum_cons, frm_len] at *
    omega
/-- how many frames end within the first c signs -/
def cnt : List (List Nat) → Nat → Nat
  | [], _ => 0
  | t :: r, c => if t.length + 5 ≤ c then 1 + cnt r (c - (t.length + 5)) else 0
theorem cnt_le : ∀ (ts : List (List Nat)) (c : Nat), cnt ts c ≤ ts.length
  | [], c => Nat.le_refl _
  | t :: r, c => by
    have := cnt_le r (c - (t.length + 5))
    simp only [cnt, List.length_cons]
    split <;> omega
theorem drop_app {α : Type} (l m : List α) : (l ++ m).drop l.length = m := by simp
theorem fend_whole {pre t rest : List Nat} (ht : t.length < 10000) : fend (pre ++ (frm t ++ rest)) pre.length = some (pre.length + (t.length + 5)) := by
  have e1 : ((pre ++ (frm t ++ rest)).drop pre.length).take 4 = pad t.length := by
    rw [drop_app]
    simp [frm, pad]
  have hp : (pad t.length).length = 4 := rfl
  unfold fend
  rw [e1, pad_num ht, if_pos ⟨hp, pad_dig _⟩]
  have e2 : (pre ++ (frm t ++ rest)).drop (pre.length + 4 + t.length) = 46 :: rest := by
    have : pre ++ (frm t ++ rest) = (pre ++ pad t.length ++ t) ++ (46 :: rest) := by simp [frm]
    rw [this]
    have hl : pre.length + 4 + t.length = (pre ++ pad t.length ++ t).length := by simp [hp]; omega
    rw [hl, drop_app]
  rw [e2]
  simp
  omega
theorem piece_whole {pre t rest : List Nat} : piece (pre ++ (frm t ++ rest)) (pre.length + 4) (pre.length + (t.length + 5) - 1) = t := by
  have : pre ++ (frm t ++ rest) = (pre ++ pad t.length) ++ (t ++ (46 :: rest)) := by simp [frm]
  unfold piece
  rw [this]
  have hl : pre.length + 4 = (pre ++ pad t.length).length := by simp [pad]
  have h2 : pre.length + (t.length + 5) - 1 - (pre.length + 4) = t.length := by omega
  rw [h2, hl, drop_app]
  simp
theorem fend_cut {pre t rest : List Nat} {c : Nat} (hc : c < t.length + 5) (ht : t.length < 10000) : fend (pre ++ (frm t ++ rest).take c) pre.length = none := by
  cases e : fend (pre ++ (frm t ++ rest).take c) pre.length with
  | none => rfl
  | some x =>
    exfalso
    have hb := fend_bounds e
    have hl : ((frm t ++ rest).take c).length ≤ c := by rw [List.length_take]; omega
    rw [List.length_append] at hb
    have h5 : 5 ≤ c := by omega
    have e1 : ((pre ++ (frm t ++ rest).take c).drop pre.length).take 4 = pad t.length := by
      rw [drop_app, List.take_take]
      have : min 4 c = 4 := by omega
      rw [this]
      simp [frm, pad]
    unfold fend at e
    rw [e1, pad_num ht, if_pos ⟨rfl, pad_dig _⟩] at e
    split at e
    · cases e
      omega
    · cases e
theorem fend_end {pre : List Nat} : fend pre pre.length = none := by
  cases e : fend pre pre.length with
  | none => rfl
  | some x =>
    have := fend_bounds e
    omega
theorem rd_row : ∀ (ts : List (List Nat)) (pre : List Nat) (acc : List (List Nat)) (c n : Nat), (∀ t ∈ ts, t.length < 10000) → ts.length < n →
    rd (pre ++ (row ts).take c) n pre.length acc = (acc ++ ts.take (cnt ts c), pre.length + total (ts.take (cnt ts c)))
  | [], pre, acc, c, n, _, hn => by
    obtain ⟨m, rfl⟩ : ∃ m, n = m + 1 := ⟨n - 1, by simp at hn; omega⟩
    simp only [row, List.map_nil, List.flatten_nil, List.take_nil, List.append_nil, cnt, total, List.sum_nil, Nat.add_zero]
    rw [rd, fend_end]
  | t :: r, pre, acc, c, n, hb, hn => by
    obtain ⟨m, rfl⟩ : ∃ m, n = m + 1 := ⟨n - 1, by simp at hn; omega⟩
    have ht := hb t (by simp)
    have e0 : row (t :: r) = frm t ++ row r := by simp [row]
    rw [e0, cnt]
    by_cases hc : t.length + 5 ≤ c
    · rw [if_pos hc]
      have e1 : (frm t ++ row r).take c = frm t ++ (row r).take (c - (t.length + 5)) := by
        rw [List.take_append, frm_len, List.take_of_length_le (by rw [frm_len]; omega)]
      rw [e1, rd, fend_whole ht]
      simp only
      rw [piece_whole]
      have ih := rd_row r (pre ++ frm t) (acc ++ [t]) (c - (t.length + 5)) m (fun t h => hb t (by simp [h])) (by simp at hn; omega)
      rw [List.length_append, frm_len, List.append_assoc] at ih
      rw [ih]
      have : 1 + cnt r (c - (t.length + 5)) = cnt r (c - (t.length + 5)) + 1 := by omega
      rw [this, List.take_succ_cons]
      simp [total]
      omega
    · rw [if_neg hc, rd, fend_cut (by omega) ht]
      simp [total]
theorem total_ge (ts : List (List Nat)) : 5 * ts.length ≤ total ts := by
  induction ts with
  | nil => exact Nat.le_refl _
  | cons t r ih =>
    simp only [total, List.map_cons, List.sum_cons, List.length_cons] at *
    omega
theorem rd_any {z : List Nat} (acc : List (List Nat)) : ∀ (k n s : Nat), z.length + 1 ≤ n + s → rd z (n + k) s acc = rd z n s acc
  | 0, n, s, h => rfl
  | k + 1, n, s, h => by
    rw [← Nat.add_assoc, ← rd_more (n + k) s acc (by omega), rd_any acc k n s h]
/-- what a row of frames that was cut is read as -/
theorem parse_row {ts : List (List Nat)} {c : Nat} (hb : ∀ t ∈ ts, t.length < 10000) : parse ((row ts).take c) = (ts.take (cnt ts c), total (ts.take (cnt ts c))) := by
  have h := rd_row ts [] [] c (((row ts).take c).length + 1 + ts.length) hb (by omega)
  simp only [List.nil_append, List.length_nil, Nat.zero_add] at h
  unfold parse
  rw [← h]
  exact (rd_any _ _ _ _ (by omega)).symm
theorem cnt_all : ∀ (ts : List (List Nat)) (c : Nat), total ts ≤ c → cnt ts c = ts.length
  | [], c, _ => rfl
  | t :: r, c, h => by
    have h' : t.length + 5 + total r ≤ c := by simpa [total] using h
    rw [cnt, if_pos (by omega), cnt_all r _ (by omega), List.length_cons]
    omega
theorem parse_all {ts : List (List Nat)} (hb : ∀ t ∈ ts, t.length < 10000) : parse (row ts) = (ts, total ts) := by
  have h := parse_row (c := (row ts).length) hb
  rw [List.take_length, cnt_all ts _ (by rw [row_len]; exact Nat.le_refl _), List.take_length] at h
  exact h
/-! the ends of frames -/
def ends : List (List Nat) → Nat → List Nat
  | [], s => [s]
  | t :: r, s => s :: ends r (s + (t.length + 5))
theorem ends_len : ∀ (ts : List (List Nat)) (s : Nat), (ends ts s).length = ts.length + 1
  | [], s => rfl
  | t :: r, s => by simp [ends, ends_len r]
theorem ends_ge : ∀ (ts : List (List Nat)) (s e : Nat), e ∈ ends ts s → s ≤ e ∧ e ≤ s + total ts
  | [], s, e, h => by
    have : e = s := by simpa [ends] using h
    simp [total, this]
  | t :: r, s, e, h => by
    have e0 : total (t :: r) = t.length + 5 + total r := by simp [total]
    rcases List.mem_cons.mp h with h | h
    · omega
    · have := ends_ge r _ e h
      omega
theorem ends_cnt : ∀ (ts : List (List Nat)) (s c : Nat), ((ends ts s).filter fun e => decide (e ≤ s + c)).length = cnt ts c + 1
  | [], s, c => by simp [ends, cnt]
  | t :: r, s, c => by
    have h0 : decide (s ≤ s + c) = true := by simp
    rw [ends, List.filter_cons, h0, if_pos rfl, List.length_cons, cnt]
    by_cases hc : t.length + 5 ≤ c
    · rw [if_pos hc]
      have ih := ends_cnt r (s + (t.length + 5)) (c - (t.length + 5))
      have : s + (t.length + 5) + (c - (t.length + 5)) = s + c := by omega
      rw [this] at ih
      omega
    · rw [if_neg hc]
      have : ((ends r (s + (t.length + 5))).filter fun e => decide (e ≤ s + c)) = [] := by
        rw [List.filter_eq_nil_iff]
        intro e he
        have := ends_ge r _ e he
        simp
        omega
      rw [this]
      rfl
theorem ends_at : ∀ (ts : List (List Nat)) (s k : Nat), k ≤ ts.length → (ends ts s)[k]? = some (s + total (ts.take k))
  | [], s, k, h => by
    have : k = 0 := by simpa using h
    subst this
    simp [ends, total]
  | t :: r, s, 0, h => by simp [ends, total]
  | t :: r, s, k + 1, h => by
    have ih := ends_at r (s + (t.length + 5)) k (by simpa using h)
    simp only [ends, List.getElem?_cons_succ, ih, List.take_succ_cons, total, List.map_cons, List.sum_cons]
    simp only [total] at ih
    congr 1
    omega
theorem ends_snoc : ∀ (ts : List (List Nat)) (t : List Nat) (s : Nat), ends (ts ++ [t]) s = ends ts s ++ [s + total ts + (t.length + 5)]
  | [], t, s => by simp [ends, total]
  | u :: r, t, s => by
    simp only [List.cons_append, ends, ends_snoc r, total, List.map_cons, List.sum_cons]
    congr 3
    omega
theorem row_rep (t : List Nat) (n : Nat) : row (List.replicate n t) = (List.replicate n (frm t)).flatten := by
  simp [row]
theorem total_rep (t : List Nat) (n : Nat) : total (List.replicate n t) = n * (t.length + 5) := by
  simp [total]
theorem cnt_rep (t : List Nat) : ∀ (n c : Nat), c ≤ n * (t.length + 5) → cnt (List.replicate n t) c = c / (t.length + 5)
  | 0, c, h => by
    have : c = 0 := by omega
    subst this
    simp [cnt]
  | n + 1, c, h => by
    rw [List.replicate_succ, cnt]
    by_cases hc : t.length + 5 ≤ c
    · rw [if_pos hc, cnt_rep t n _ (by rw [Nat.succ_mul] at h; omega)]
      rw [Nat.div_eq c (t.length + 5), if_pos ⟨by omega, hc⟩]
      omega
    · rw [if_neg hc, Nat.div_eq_of_lt (by omega)]
theorem rd_inv {z : List Nat} : ∀ (n s : Nat) (acc : List (List Nat)), (∀ t ∈ acc, ∀ c ∈ t, c ∈ z) → total acc ≤ s → s ≤ z.length →
    (∀ t ∈ (rd z n s acc).1, ∀ c ∈ t, c ∈ z) ∧ total (rd z n s acc).1 ≤ (rd z n s acc).2 ∧ (rd z n s acc).2 ≤ z.length
  | 0, s, acc, h1, h2, h3 => ⟨h1, h2, h3⟩
  | n + 1, s, acc, h1, h2, h3 => by
    rw [rd]
    cases e : fend z s with
    | none => exact ⟨h1, h2, h3⟩
    | some x =>
      have hb := fend_bounds e
      refine rd_inv n x _ ?_ ?_ hb.2
      · intro t ht c hc
        rcases List.mem_append.mp ht with ht | ht
        · exact h1 t ht c hc
        · have : t = piece z (s + 4) (x - 1) := by simpa using ht
          rw [this] at hc
          exact List.mem_of_mem_drop (List.mem_of_mem_take hc)
      · have hl : (piece z (s + 4) (x - 1)).length ≤ x - 1 - (s + 4) := by
          unfold piece
          rw [List.length_take]
          omega
        have : total (acc ++ [piece z (s + 4) (x - 1)]) = total acc + ((piece z (s + 4) (x - 1)).length + 5) := by simp [total]
        rw [this]
        omega
theorem parse_inv (z : List Nat) : (∀ t ∈ (parse z).1, ∀ c ∈ t, c ∈ z) ∧ total (parse z).1 ≤ (parse z).2 ∧ (parse z).2 ≤ z.length :=
  rd_inv _ 0 [] (by simp) (Nat.le_refl _) (Nat.zero_le _)
theorem ends_split (ts : List (List Nat)) (s : Nat) : ∃ i, ends ts s = i ++ [s + total ts] := by
  induction ts generalizing s with
  | nil => exact ⟨[], by simp [ends, total]⟩
  | cons t r ih =>
    obtain ⟨i, hi⟩ := ih (s + (t.length + 5))
    refine ⟨s :: i, ?_⟩
    rw [ends, hi, List.cons_append]
    simp only [total, List.map_cons, List.sum_cons]
    congr 3
    omega
end Fr

namespace Nv
open PySem L2

/-! texts of plain signs -/
def Asc (z : Str) : Prop := ∀ c ∈ z.cps.toList, c < 128
theorem Asc.app {x y : Str} (a : Asc x) (b : Asc y) : Asc (x ++ y) := fun c h => by
  have e : (x ++ y).cps.toList = x.cps.toList ++ y.cps.toList := by
    show (x.cps ++ y.cps).toList = _
    simp
  rw [e] at h
  rcases List.mem_append.mp h with h | h
  · exact a c h
  · exact b c h
theorem cutS_sub {z : Str} {lo hi : Option Int} {c : Nat} (h : c ∈ (cutS z lo hi).cps.toList) : c ∈ z.cps.toList := by
  unfold cutS at h
  exact List.mem_of_mem_drop (List.mem_of_mem_take (by simpa using h))
theorem Asc.cut {z : Str} (a : Asc z) (lo hi : Option Int) : Asc (cutS z lo hi) := fun c h => a c (cutS_sub h)
theorem Asc.one {c : Nat} (h : c < 128) : Asc ⟨#[c]⟩ := fun d hd => by
  have : d = c := by simpa using hd
  omega
theorem Asc.empty : Asc Str.empty := fun c h => by
  simp [Str.empty] at h
theorem foldl_mem {x : Array Nat} {c : Nat} : ∀ (n : Nat) (acc : Array Nat), c ∈ ((List.replicate n x).foldl (· ++ ·) acc).toList → c ∈ acc.toList ∨ c ∈ x.toList
  | 0, acc, h => .inl h
  | n + 1, acc, h => by
    rw [List.replicate_succ, List.foldl_cons] at h
    rcases foldl_mem n _ h with h | h
    · have e : (acc ++ x).toList = acc.toList ++ x.toList := by simp
      rw [e] at h
      exact List.mem_append.mp h
    · exact .inr h
theorem Asc.mul {z : Str} (a : Asc z) (n : Int) : Asc (Txt.mul z n) := fun c h => by
  unfold Txt.mul at h
  split at h
  · exact Asc.empty c h
  · split at h
    · exact a c h
    · rcases foldl_mem _ _ h with h | h
      · simp at h
      · exact a c h
theorem foldl_size (x : Array Nat) : ∀ (n : Nat) (acc : Array Nat), ((List.replicate n x).foldl (· ++ ·) acc).size = acc.size + n * x.size
  | 0, acc => by simp
  | n + 1, acc => by
    rw [List.replicate_succ, List.foldl_cons, foldl_size x n, Array.size_append, Nat.succ_mul]
    omega
theorem mul_len (z : Str) (n : Int) : (Txt.mul z n).length ≤ z.length * n.toNat := by
  unfold Txt.mul
  split
  · exact Nat.zero_le _
  · split
    · rename_i h1 h2
      simp only [Bool.or_eq_true, beq_iff_eq] at h2
      rcases h2 with h2 | h2
      · subst h2
        simp
      · rw [h2]
        exact Nat.zero_le _
    · show ((List.replicate n.toNat z.cps).foldl (· ++ ·) #[]).size ≤ _
      rw [foldl_size]
      simp [Str.length, Nat.mul_comm]
theorem mulOk_of {z : Str} {n : Int} (h1 : n ≤ 1000) (h0 : -1000 ≤ n) (h2 : z.length ≤ 10000) : MulOk z n := by
  refine ⟨?_, ?_, ?_⟩
  · simp
    constructor <;> omega
  · intro hn _ h
    have hp : 0 < n := by omega
    have : (9223372036854774 : Int) ≤ (2 ^ 63 - 1) / n := by
      refine Int.le_ediv_of_mul_le hp ?_
      have : (2 : Int) ^ 63 - 1 = 9223372036854775807 := by decide
      rw [this]
      omega
    omega
  · intro hn _
    have hm : z.length * n.toNat ≤ 10000 * 1000 := Nat.mul_le_mul h2 (by omega)
    unfold Builtin.Str.tooLong
    have : sizeLine = 16777216 := sizeLine_eq
    simp [this]
    omega
theorem append_len (x y : Str) : (x ++ y).length = x.length + y.length := Str.length_append x y
theorem join_signs (l : List Nat) : Txt.join Str.empty (l.map fun c => (⟨#[c]⟩ : Str)) = ⟨l.toArray⟩ := by
  show Builtin.Str.glued Str.empty _ = _
  rw [StrLaws.glued_eq_join]
  exact PyProof.Rows.join_ones l
theorem Asc.signs {l : List Nat} (h : ∀ c ∈ l, c < 128) : Asc ⟨l.toArray⟩ := fun c hc => h c (by simpa using hc)
theorem repr_len {z : Str} (a : Asc z) : (reprText z).length ≤ 10 * z.length + 2 := StrLaws.reprText_len z fun c h => Nat.lt_of_lt_of_le (a c h) (by decide)
end Nv

namespace Nv
open PySem L2

/-! values whose text is short -/
structure Shw (W D : Nat) (d : PyData) : Prop where
  s : d.leavesShort 40 = true
  w : d.weight ≤ W
  p : d.depth ≤ D
  h : d.showable = true
structure Shws (W D : Nat) (ds : List PyData) : Prop where
  s : PyData.leavesShortAll 40 ds = true
  w : PyData.weightAll ds ≤ W
  p : PyData.depthAll ds ≤ D
  h : PyData.showableAll ds = true
theorem Shw.len {W D : Nat} {d : PyData} (h : Shw W D d) (hw : W ≤ 390000) : d.shown.length ≤ sizeLine := by
  have h1 := PyData.shown_le 40 (by decide) d h.s
  have h2 : (40 + 2) * d.weight ≤ (40 + 2) * 390000 := Nat.mul_le_mul_left _ (Nat.le_trans h.w hw)
  have e : sizeLine = 16777216 := sizeLine_eq
  omega
theorem Shw.le {W D W' D' : Nat} {d : PyData} (h : Shw W D d) (a : W ≤ W') (b : D ≤ D') : Shw W' D' d := ⟨h.s, Nat.le_trans h.w a, Nat.le_trans h.p b, h.h⟩
theorem Shw.non {W D : Nat} : Shw W D .none := ⟨rfl, Nat.zero_le _, Nat.zero_le _, rfl⟩
theorem Shw.bl {W D : Nat} (b : Bool) : Shw W D (.bool b) := ⟨rfl, Nat.zero_le _, Nat.zero_le _, rfl⟩
theorem log21 {i : Int} (h : -(10 ^ 21) ≤ i ∧ i ≤ 10 ^ 21) : i.natAbs.log2 < 70 := by
  by_cases h0 : i.natAbs = 0
  · rw [h0]
    decide
  · rw [Nat.log2_lt h0]
    omega
theorem Shw.int {D : Nat} {i : Int} (h : -(10 ^ 21) ≤ i ∧ i ≤ 10 ^ 21) : Shw 71 D (.int i) := by
  have hl := log21 h
  refine ⟨?_, ?_, Nat.zero_le _, ?_⟩
  · have h1 := int_text_length_le10 (a := i) (k := 22) (by decide) (by omega)
    have e : (Str.ofString (toString i)).length = (toString i).length := ofString_length _
    have h2 : (PyData.shown (.int i)).length ≤ 40 := by
      simp only [PyData.shown]
      exact Nat.le_trans (Nat.le_of_eq e) (by omega)
    simpa only [PyData.leavesShort, decide_eq_true_eq] using h2
  · simp only [PyData.weight]
    split <;> omega
  · simp only [PyData.showable, decide_eq_true_eq]
    omega
theorem Shw.str {D : Nat} {z : Str} (a : Asc z) : Shw z.length D (.str z) := by
  refine ⟨?_, Nat.le_refl _, Nat.zero_le _, rfl⟩
  simp only [PyData.leavesShort, List.all_eq_true, decide_eq_true_eq]
  exact fun c hc => Nat.lt_of_lt_of_le (a c hc) (by decide)
theorem Shw.list {W D : Nat} {ds : List PyData} (h : Shws W D ds) : Shw W (D + 1) (.list ds) := by
  refine ⟨?_, ?_, ?_, ?_⟩
  · simpa only [PyData.leavesShort] using h.s
  · simpa only [PyData.weight] using h.w
  · have := h.p
    simp only [PyData.depth]
    omega
  · simpa only [PyData.showable] using h.h
theorem Shw.tuple {W D : Nat} {ds : List PyData} (h : Shws W D ds) : Shw W (D + 1) (.tuple ds) := by
  refine ⟨?_, ?_, ?_, ?_⟩
  · simpa only [PyData.leavesShort] using h.s
  · simpa only [PyData.weight] using h.w
  · have := h.p
    simp only [PyData.depth]
    omega
  · simpa only [PyData.showable] using h.h
theorem Shw.dict1 {W1 W2 D : Nat} {k v : PyData} (a : Shw W1 D k) (b : Shw W2 D v) : Shw (W1 + W2 + 2) (D + 1) (.dict [(k, v)]) := by
  refine ⟨?_, ?_, ?_, ?_⟩
  · simp only [PyData.leavesShort, PyData.leavesShortKv, a.s, b.s, Bool.and_self]
  · have := a.w
    have := b.w
    simp only [PyData.weight, PyData.weightKv]
    omega
  · have := a.p
    have := b.p
    simp only [PyData.depth, PyData.depthKv]
    omega
  · simp only [PyData.showable, PyData.showableKv, a.h, b.h, Bool.and_self]
theorem Shws.nil {W D : Nat} : Shws W D [] := ⟨rfl, Nat.zero_le _, Nat.zero_le _, rfl⟩
theorem Shws.cons {W1 W2 D : Nat} {d : PyData} {ds : List PyData} (a : Shw W1 D d) (b : Shws W2 D ds) : Shws (W1 + 1 + W2) D (d :: ds) := by
  refine ⟨?_, ?_, ?_, ?_⟩
  · simp only [PyData.leavesShortAll, a.s, b.s, Bool.and_self]
  · have := a.w
    have := b.w
    simp only [PyData.weightAll]
    omega
  · have := a.p
    have := b.p
    simp only [PyData.depthAll]
    omega
  · simp only [PyData.showableAll, a.h, b.h, Bool.and_self]
theorem Shws.le {W D W' D' : Nat} {d : List PyData} (h : Shws W D d) (a : W ≤ W') (b : D ≤ D') : Shws W' D' d := ⟨h.s, Nat.le_trans h.w a, Nat.le_trans h.p b, h.h⟩
theorem Shws.app {W1 W2 D : Nat} : ∀ {ds es : List PyData}, Shws W1 D ds → Shws W2 D es → Shws (W1 + W2) D (ds ++ es)
  | [], es, a, b => b.le (by omega) (Nat.le_refl _)
  | d :: ds, es, a, b => by
    have h1 := a.s
    have h2 := a.w
    have h3 := a.p
    have h4 := a.h
    simp only [PyData.leavesShortAll, Bool.and_eq_true] at h1
    simp only [PyData.weightAll] at h2
    simp only [PyData.depthAll] at h3
    simp only [PyData.showableAll, Bool.and_eq_true] at h4
    have q : Shws (PyData.weightAll ds) D ds := ⟨h1.2, Nat.le_refl _, by omega, h4.2⟩
    have p : Shw (PyData.weight d) D d := ⟨h1.1, Nat.le_refl _, by omega, h4.1⟩
    have r := Shws.cons p (Shws.app q b)
    exact r.le (by omega) (Nat.le_refl _)
/-- repr of a list, a tuple, a dict whose text is short -/
theorem r_repr {H : Hp} {Q : VK} {a : Addr} {d : PyData} {W D : Nat} (h : DV H (.ref a) d) (s : Shw W D d) (hw : W ≤ 390000) (hd : D ≤ 60) (q : Q (.str d.shown) H) : rRepr [.ref a] H Q :=
  ⟨a, d, rfl, h, s.h, Nat.le_trans s.p hd, s.len hw, q⟩
end Nv

namespace PySem.W
/-- isinstance by an own class -/
theorem kit_ref {K : Frag} {C : Addr} {cls : Value} (hd : hasDictIn K C = true) (ht : typeIn K (.ref C) = some (.type "type")) (h : subIn K cls (.ref C) = some true) : kitOne K cls (.ref C) = some true := by
  have hc : (clsIn K C).isSome = true := by
    obtain ⟨cd, h, _⟩ := any_some hd
    rw [h]
    rfl
  unfold kitOne
  split
  · rfl
  · unfold kitCls
    simp [hc, ht, h]
end PySem.W

namespace Nv
open PySem PySem.Spec PyProof.Rows L2

/-! texts and their signs -/
def sg (z : Str) : List Nat := z.cps.toList
def tx (l : List Nat) : Str := ⟨l.toArray⟩
theorem sg_tx (l : List Nat) : sg (tx l) = l := by simp [sg, tx]
theorem tx_sg (z : Str) : tx (sg z) = z := by
  apply Str.ext'
  simp [sg, tx]
theorem sg_len (z : Str) : (sg z).length = z.length := by simp [sg, Str.length]
theorem tx_len (l : List Nat) : (tx l).length = l.length := by simp [tx, Str.length]
theorem sg_inj {x y : Str} (h : sg x = sg y) : x = y := by rw [← tx_sg x, ← tx_sg y, h]
theorem sg_app (x y : Str) : sg (x ++ y) = sg x ++ sg y := by
  show (x.cps ++ y.cps).toList = _
  simp [sg]
theorem tx_app (x y : List Nat) : tx (x ++ y) = tx x ++ tx y := sg_inj (by rw [sg_app, sg_tx, sg_tx, sg_tx])
theorem map_tx_sg (l : List Str) : (l.map sg).map tx = l := by
  rw [List.map_map]
  conv => rhs; rw [← List.map_id l]
  apply List.map_congr_left
  intro z _
  exact tx_sg z
theorem cut_nat (z : Str) (a b : Nat) : sg (cutS z (some (a : Int)) (some (b : Int))) = ((sg z).drop a).take (b - a) := by
  show ((((z.cps.toList.drop (HT.sIx z.length 0 (some (a : Int)))).take (HT.sIx z.length z.length (some (b : Int)) - HT.sIx z.length 0 (some (a : Int)))).toArray).toList) = _
  rw [HT.sIx_nat, HT.sIx_nat]
  simp only [sg]
  have hl : z.cps.toList.length = z.length := by simp [Str.length]
  by_cases h : a ≤ z.length
  · rw [Nat.min_eq_left h]
    by_cases h2 : b ≤ z.length
    · rw [Nat.min_eq_left h2]
    · rw [Nat.min_eq_right (by omega), List.take_of_length_le (by rw [List.length_drop, hl]; exact Nat.le_refl _), List.take_of_length_le (by rw [List.length_drop, hl]; omega)]
  · rw [Nat.min_eq_right (show z.length ≤ a by omega), List.drop_of_length_le (by rw [hl]; exact Nat.le_refl _), List.drop_of_length_le (by rw [hl]; omega)]
    simp
theorem cut_to (z : Str) (b : Nat) : sg (cutS z none (some (b : Int))) = (sg z).take b := by
  show ((((z.cps.toList.drop (HT.sIx z.length 0 none)).take (HT.sIx z.length z.length (some (b : Int)) - HT.sIx z.length 0 none)).toArray).toList) = _
  rw [HT.sIx_nat, HT.sIx_none]
  simp only [sg, List.drop_zero, Nat.sub_zero]
  have hl : z.cps.toList.length = z.length := by simp [Str.length]
  by_cases h2 : b ≤ z.length
  · rw [Nat.min_eq_left h2]
  · rw [Nat.min_eq_right (by omega), List.take_of_length_le (by rw [hl]; exact Nat.le_refl _), List.take_of_length_le (by rw [hl]; omega)]
theorem cutV_to (xs : List V) (b : Nat) : cutV xs none (some (b : Int)) = xs.take b := by
  unfold cutV
  rw [HT.sIx_nat, HT.sIx_none]
  simp only [List.drop_zero, Nat.sub_zero]
  by_cases h2 : b ≤ xs.length
  · rw [Nat.min_eq_left h2]
  · rw [Nat.min_eq_right (by omega), List.take_of_length_le (Nat.le_refl _), List.take_of_length_le (by omega)]
/-- a text of the space to the tilde -/
def pc (c : Nat) : Bool := decide (32 ≤ c) && decide (c ≤ 126)
def Pl (z : Str) : Prop := ∀ c ∈ sg z, pc c = true
theorem pc_lt {c : Nat} (h : pc c = true) : 32 ≤ c ∧ c ≤ 126 := by simpa [pc] using h
theorem Pl.asc {z : Str} (h : Pl z) : Asc z := fun c hc => by have := pc_lt (h c hc); omega
theorem Pl.app {x y : Str} (a : Pl x) (b : Pl y) : Pl (x ++ y) := fun c h => by
  rw [sg_app] at h
  exact (List.mem_append.mp h).elim (a c) (b c)
theorem Pl.cut {z : Str} (a : Pl z) (lo hi : Option Int) : Pl (cutS z lo hi) := fun c h => a c (cutS_sub h)
theorem Pl.one {c : Nat} (h : pc c = true) : Pl ⟨#[c]⟩ := fun d hd => by
  have : d = c := by simpa [sg] using hd
  rw [this]
  exact h
theorem Pl.empty : Pl Str.empty := fun c h => by simp [sg, Str.empty] at h
theorem Pl.mul {z : Str} (a : Pl z) (n : Int) : Pl (Txt.mul z n) := fun c h => by
  unfold Txt.mul at h
  split at h
  · exact Pl.empty c h
  · split at h
    · exact a c h
    · rcases foldl_mem _ _ h with h | h
      · simp at h
      · exact a c h
theorem Pl.tx {l : List Nat} (h : ∀ c ∈ l, pc c = true) : Pl (tx l) := fun c hc => h c (by simpa [sg_tx] using hc)
theorem pl_of {z : Str} (h : (sg z).all pc = true) : Pl z := fun c hc => List.all_eq_true.mp h c hc
theorem prnt : ∀ c, c < 128 → Unicode.isPrintable c = pc c := by decide +kernel
def okS (z : Str) : Bool := Txt.isascii z && Txt.isprintable z
theorem okS_all (z : Str) : okS z = (sg z).all pc := by
  unfold okS Txt.isascii Txt.isprintable sg
  rw [← Array.all_toList, ← Array.all_toList]
  generalize z.cps.toList = l
  induction l with
  | nil => rfl
  | cons c r ih =>
    simp only [List.all_cons]
    rw [← ih]
    by_cases h : c < 128
    · simp only [h, decide_true, Bool.true_and]
      rw [prnt c h]
      cases pc c <;> cases (r.all fun x => decide (x < 128)) <;> simp
    · have hp : pc c = false := by
        unfold pc
        simp
        omega
      simp [h, hp]
theorem Pl.ok {z : Str} (h : Pl z) : okS z = true := by
  rw [okS_all]
  exact List.all_eq_true.mpr h
theorem okS_pl {z : Str} (h : okS z = true) : Pl z := by
  rw [okS_all] at h
  exact pl_of h
theorem digC : ∀ c, c < 128 → Unicode.isDigit c = Fr.dig c := by decide +kernel
theorem isdigit_pl {z : Str} (h : Asc z) : Txt.isdigit z = (decide (0 < z.length) && (sg z).all Fr.dig) := by
  unfold Txt.isdigit
  rw [← Array.all_toList]
  congr 1
  have : ∀ l : List Nat, (∀ c ∈ l, c < 128) → l.all Unicode.isDigit = l.all Fr.dig := by
    intro l hl
    induction l with
    | nil => rfl
    | cons c r ih => simp only [List.all_cons, digC c (hl c (by simp)), ih fun c hc => hl c (by simp [hc])]
  exact this _ h
theorem int_dig {z : Str} (h : (sg z).all Fr.dig = true) (h1 : z.length ≠ 0) (h2 : z.length ≤ 640) : intText? z = some ((Fr.num (sg z) : Nat) : Int) := by
  have e := intText_digits (x := z) (fun c hc => (by
    have := List.all_eq_true.mp h c hc
    simpa [Fr.dig] using this)) (fun e => h1 (by rw [← sg_len]; show z.cps.toList.length = 0; rw [e]; rfl)) (by omega)
  exact e
/-! frames -/
theorem str_nat (n : Nat) : sg (Str.ofString (toString (n : Int))) = (Nat.toDigits 10 n).map Char.toNat := by
  have e := text_ofNat n
  rw [show (toString ((n : Nat) : Int)) = toString (Int.ofNat n) from rfl, e]
  exact sg_tx _
theorem pad_of {n : Nat} {l : List Nat} (h4 : l.length = 4) (hd : PySem.NumText.AllDigits l) (hv : PySem.NumText.digitsVal l = n) : l = Fr.pad n := by
  match l, h4 with
  | [a, b, c, d], _ =>
    have ha := hd a (by simp)
    have hb := hd b (by simp)
    have hc := hd c (by simp)
    have he := hd d (by simp)
    simp only [PySem.NumText.digitsVal, List.foldl_cons, List.foldl_nil] at hv
    simp only [Fr.pad, List.cons.injEq, and_true]
    omega
theorem val_zeros (k : Nat) (l : List Nat) : PySem.NumText.digitsVal (List.replicate k 48 ++ l) = PySem.NumText.digitsVal l := by
  induction k with
  | zero => rfl
  | succ k ih =>
    rw [List.replicate_succ, List.cons_append]
    show (List.replicate k 48 ++ l).foldl (fun acc c => acc * 10 + (c - 48)) (0 * 10 + (48 - 48)) = _
    exact ih
theorem four_pad (n : Nat) (h : n < 10000) : List.replicate (4 - (Nat.toDigits 10 n).length) 48 ++ (Nat.toDigits 10 n).map Char.toNat = Fr.pad n := by
  have hl := digits10_le (k := 4) (n := n) (by decide) (by simpa using h)
  have e : (Nat.toDigits 10 n).map Char.toNat = TL.numL n := by
    rw [← TL.tl_num n]
    exact (str_nat n).symm
  refine pad_of ?_ ?_ ?_
  · simp
    omega
  · intro c hc
    rcases List.mem_append.mp hc with hc | hc
    · have := (List.mem_replicate.mp hc).2
      omega
    · rw [e] at hc
      exact TL.numL_digits n c hc
  · rw [val_zeros, e]
    exact TL.numL_val n
theorem four_sg {i : Int} (h0 : 0 ≤ i) (h : i.natAbs < 10000) : sg (four i) = Fr.pad i.natAbs := by
  have e : sg (four i) = List.replicate (4 - (Nat.toDigits 10 i.natAbs).length) 48 ++ (Nat.toDigits 10 i.natAbs).map Char.toNat := sg_tx _
  rw [e]
  exact four_pad _ h
theorem foldl_rep (x : Array Nat) : ∀ (n : Nat) (acc : Array Nat), ((List.replicate n x).foldl (· ++ ·) acc).toList = acc.toList ++ (List.replicate n x.toList).flatten
  | 0, acc => by simp
  | n + 1, acc => by
    rw [List.replicate_succ, List.foldl_cons, foldl_rep x n, List.replicate_succ, List.flatten_cons]
    simp
theorem sg_mul (z : Str) (n : Nat) : sg (Txt.mul z (n : Int)) = (List.replicate n (sg z)).flatten := by
  unfold Txt.mul
  split
  · rename_i h
    have : n = 0 := by omega
    subst this
    rfl
  · split
    · rename_i h1 h2
      simp only [Bool.or_eq_true, beq_iff_eq] at h2
      rcases h2 with h2 | h2
      · have : n = 1 := by omega
        subst this
        simp
      · have : sg z = [] := by
          have := sg_len z
          rw [h2] at this
          exact List.length_eq_zero_iff.mp this
        rw [this]
        simp
    · show ((List.replicate (n : Int).toNat z.cps).foldl (· ++ ·) #[]).toList = _
      rw [foldl_rep]
      simp [sg]
end Nv

namespace Nv
open PySem L2

/-! data that are compared and shown -/
structure Ft (W D : Nat) (d : PyData) : Prop where
  c : d.canLay0 = true
  s : Shw W D d
structure Fts (W D : Nat) (ds : List PyData) : Prop where
  c : PyData.canLayAll0 ds = true
  s : Shws W D ds
theorem Ft.int {D : Nat} {i : Int} (h : -(10 ^ 21) ≤ i ∧ i ≤ 10 ^ 21) : Ft 71 D (.int i) := ⟨rfl, Shw.int h⟩
theorem Ft.str {D : Nat} {z : Str} (a : Asc z) : Ft z.length D (.str z) := by
  refine ⟨?_, Shw.str a⟩
  have h : z.cps.all (fun c => decide (c < 0x110000)) = true := by
    rw [← Array.all_toList]
    simp only [List.all_eq_true, decide_eq_true_eq]
    exact fun c hc => Nat.lt_of_lt_of_le (a c hc) (by decide)
  simp only [PyData.canLay0, PyData.strOk, h]
theorem Ft.non {W D : Nat} : Ft W D .none := ⟨rfl, Shw.non⟩
theorem Ft.bl {W D : Nat} (b : Bool) : Ft W D (.bool b) := ⟨rfl, Shw.bl b⟩
theorem Ft.le {W D W' D' : Nat} {d : PyData} (h : Ft W D d) (a : W ≤ W') (b : D ≤ D') : Ft W' D' d := ⟨h.c, h.s.le a b⟩
theorem Ft.list {W D : Nat} {ds : List PyData} (h : Fts W D ds) : Ft W (D + 1) (.list ds) := ⟨by simpa only [PyData.canLay0] using h.c, Shw.list h.s⟩
theorem Ft.tuple {W D : Nat} {ds : List PyData} (h : Fts W D ds) : Ft W (D + 1) (.tuple ds) := ⟨by simpa only [PyData.canLay0] using h.c, Shw.tuple h.s⟩
theorem Fts.nil {W D : Nat} : Fts W D [] := ⟨rfl, Shws.nil⟩
theorem Fts.cons {W1 W2 D : Nat} {d : PyData} {ds : List PyData} (a : Ft W1 D d) (b : Fts W2 D ds) : Fts (W1 + 1 + W2) D (d :: ds) := ⟨by simp only [PyData.canLayAll0, a.c, b.c, Bool.and_self], Shws.cons a.s b.s⟩
theorem Fts.le {W D W' D' : Nat} {d : List PyData} (h : Fts W D d) (a : W ≤ W') (b : D ≤ D') : Fts W' D' d := ⟨h.c, h.s.le a b⟩
def strsD (ts : List (List Nat)) : List PyData := ts.map fun t => .str (tx t)
def wt (ts : List (List Nat)) : Nat := (ts.map fun t => t.length + 1).sum
theorem Fts.strs {D : Nat} : ∀ {ts : List (List Nat)}, (∀ t ∈ ts, ∀ c ∈ t, c < 128) → Fts (wt ts) D (strsD ts)
  | [], _ => Fts.nil
  | t :: r, h => by
    have a : Asc (tx t) := fun c hc => h t (by simp) c (by rw [show (tx t).cps.toList = t from sg_tx t] at hc; exact hc)
    have q := Fts.cons (Ft.str (D := D) a) (Fts.strs (D := D) (ts := r) fun t ht => h t (by simp [ht]))
    rw [tx_len] at q
    exact q.le (by simp [wt]) (Nat.le_refl _)
theorem dp_strsD {K : PySem.W.Frag} {H : Hp} : ∀ ts : List (List Nat), DpAll K H (ts.map fun t => V.str (tx t)) (strsD ts)
  | [] => .nil
  | t :: r => .cons (.str _) (dp_strsD r)
/-- v == w and repr(v) == repr(w), both the data d -/
def spEqual (K : PySem.W.Frag) : Sp := fun vs H Q _ => ∃ v u d W D, vs = [v, u] ∧ Dp K H v d ∧ Dp K H u d ∧ ((∃ z, v = .str z) ∨ ∃ a, v = .ref a) ∧ ((∃ z, u = .str z) ∨ ∃ a, u = .ref a) ∧ Ft W D d ∧ W ≤ 390000 ∧ D ≤ 50 ∧ Q (.bl true) H
theorem r_eqD {K : PySem.W.Frag} {H : Hp} {Q : VK} {v u : V} {d : PyData} {W D : Nat} (a : Dp K H v d) (b : Dp K H u d) (f : Ft W D d) (h : D ≤ 60) (q : Q (.bl true) H) : rEqD K v u H Q := by
  have sh : SeqAt.shaped d = true := by
    unfold SeqAt.shaped
    have := f.s.p
    rw [f.c, Bool.true_and, decide_eq_true_eq]
    omega
  have e := SeqAt.eqv_refl d f.c
  exact ⟨d, d, a, b, sh, sh, by rw [e]; exact q⟩
theorem r_reprD {K : PySem.W.Frag} {H : Hp} {Q : VK} {v : V} {d : PyData} {W D : Nat} (a : Dp K H v d) (hv : (∃ z, v = .str z) ∨ ∃ a, v = .ref a) (f : Ft W D d) (hw : W ≤ 390000) (h : D ≤ 60) (q : Q (.str d.shown) H) : rReprD K [v] H Q :=
  ⟨v, d, rfl, a, hv, PyData.hasDict_of_canLay d f.c, f.s.h, Nat.le_trans f.s.p h, f.s.len hw, q⟩
/-- data that are compared and shown, however large their numbers -/
structure Fx (d : PyData) : Prop where
  c : d.canLay0 = true
  p : d.depth ≤ 50
  h : d.showable = true
  l : d.shown.length ≤ sizeLine
theorem Ft.fx {W D : Nat} {d : PyData} (f : Ft W D d) (hw : W ≤ 390000) (hd : D ≤ 50) : Fx d := ⟨f.c, Nat.le_trans f.s.p hd, f.s.h, f.s.len hw⟩
def spEq (K : PySem.W.Frag) : Sp := fun vs H Q _ => ∃ v u d, vs = [v, u] ∧ Dp K H v d ∧ Dp K H u d ∧ ((∃ z, v = .str z) ∨ ∃ a, v = .ref a) ∧ ((∃ z, u = .str z) ∨ ∃ a, u = .ref a) ∧ Fx d ∧ Q (.bl true) H
theorem spEq.of {K : PySem.W.Frag} {vs : List V} {H : Hp} {Q : VK} {E : XK} (h : spEqual K vs H Q E) : spEq K vs H Q E := by
  obtain ⟨v, u, d, W, D, rfl, a, b, hv, hu, f, hw, hd, k⟩ := h
  exact ⟨v, u, d, rfl, a, b, hv, hu, f.fx hw hd, k⟩
theorem r_eqF {K : PySem.W.Frag} {H : Hp} {Q : VK} {v u : V} {d : PyData} (a : Dp K H v d) (b : Dp K H u d) (f : Fx d) (q : Q (.bl true) H) : rEqD K v u H Q := by
  have sh : SeqAt.shaped d = true := by
    unfold SeqAt.shaped
    have := f.p
    rw [f.c, Bool.true_and, decide_eq_true_eq]
    omega
  have e := SeqAt.eqv_refl d f.c
  exact ⟨d, d, a, b, sh, sh, by rw [e]; exact q⟩
theorem r_reprF {K : PySem.W.Frag} {H : Hp} {Q : VK} {v : V} {d : PyData} (a : Dp K H v d) (hv : (∃ z, v = .str z) ∨ ∃ a, v = .ref a) (f : Fx d) (q : Q (.str d.shown) H) : rReprD K [v] H Q :=
  ⟨v, d, rfl, a, hv, PyData.hasDict_of_canLay d f.c, f.h, Nat.le_trans f.p (by decide), f.l, q⟩
end Nv

namespace Nv
open PySem L2

theorem r_reprA {H : Hp} {Q : VK} {v : V} {d : PyData} {W D : Nat} (h : DV H v d) (s : Shw W D d) (hw : W ≤ 390000) (hd : D ≤ 60) (q : Q (.str d.shown) H) : rReprA [v] H Q :=
  ⟨v, d, rfl, h, s.h, Nat.le_trans s.p hd, s.len hw, fun i e => by
    have := s.h
    subst e
    simpa only [PyData.showable, decide_eq_true_eq] using this, q⟩
mutual
theorem DV.dp {K : PySem.W.Frag} {H : Hp} : ∀ {v : V} {d : PyData}, DV H v d → d.hasDict = false → Dp K H v d
  | _, _, .non, _ => .non
  | _, _, .bl b, _ => .bl b
  | _, _, .int i, _ => .int i
  | _, _, .str x, _ => .str x
  | _, _, .lst h n r, e => .lst (.of h) (DVs.dp r (by simpa only [PyData.hasDict] using e))
  | _, _, .tup h r, e => .tup (.of h) (DVs.dp r (by simpa only [PyData.hasDict] using e))
  | _, _, .dct h r, e => by simp [PyData.hasDict] at e
theorem DVs.dp {K : PySem.W.Frag} {H : Hp} : ∀ {vs : List V} {ds : List PyData}, DVs H vs ds → PyData.hasDictAll ds = false → DpAll K H vs ds
  | _, _, .nil, _ => .nil
  | _, _, .cons h r, e => by
    simp only [PyData.hasDictAll, Bool.or_eq_false_iff] at e
    exact .cons (DV.dp h e.1) (DVs.dp r e.2)
end
theorem Shw.dict0 {W D : Nat} : Shw (W + 1) (D + 1) (.dict []) := by
  refine ⟨?_, ?_, ?_, ?_⟩
  · simp only [PyData.leavesShort, PyData.leavesShortKv]
  · simp only [PyData.weight, PyData.weightKv]
    omega
  · simp only [PyData.depth, PyData.depthKv]
    exact Nat.succ_le_succ (Nat.zero_le _)
  · simp only [PyData.showable, PyData.showableKv]
theorem Shw.dict2 {W1 W2 W3 W4 D : Nat} {k v k2 v2 : PyData} (a : Shw W1 D k) (b : Shw W2 D v) (c : Shw W3 D k2) (d : Shw W4 D v2) : Shw (W1 + W2 + W3 + W4 + 4) (D + 1) (.dict [(k, v), (k2, v2)]) := by
  refine ⟨?_, ?_, ?_, ?_⟩
  · simp only [PyData.leavesShort, PyData.leavesShortKv, a.s, b.s, c.s, d.s, Bool.and_self]
  · have := a.w
    have := b.w
    have := c.w
    have := d.w
    simp only [PyData.weight, PyData.weightKv]
    omega
  · have := a.p
    have := b.p
    have := c.p
    have := d.p
    simp only [PyData.depth, PyData.depthKv]
    omega
  · simp only [PyData.showable, PyData.showableKv, a.h, b.h, c.h, d.h, Bool.and_self]
end Nv

namespace Nv
open PySem L2

/-! cells -/
def low (c : Nat) : Bool := decide (97 ≤ c) && decide (c ≤ 122)
def upp (c : Nat) : Bool := decide (65 ≤ c) && decide (c ≤ 90)
theorem alphC : ∀ c, c < 128 → Unicode.isAlpha c = (low c || upp c) := by decide +kernel
theorem lowC : ∀ c, c < 128 → Unicode.isLower c = low c := by decide +kernel
theorem uppC : ∀ c, c < 128 → (Unicode.isUpper c || Unicode.isTitle c) = upp c := by decide +kernel
theorem all_eq {f g : Nat → Bool} {l : List Nat} (h : ∀ c ∈ l, f c = g c) : l.all f = l.all g := by
  induction l with
  | nil => rfl
  | cons c r ih => simp only [List.all_cons, h c (by simp), ih fun d hd => h d (by simp [hd])]
theorem any_eq {f g : Nat → Bool} {l : List Nat} (h : ∀ c ∈ l, f c = g c) : l.any f = l.any g := by
  induction l with
  | nil => rfl
  | cons c r ih => simp only [List.any_cons, h c (by simp), ih fun d hd => h d (by simp [hd])]
theorem not_both (c : Nat) : low c = true → upp c = false := fun h => by
  simp [low] at h
  simp [upp]
  omega
theorem low_lem (l : List Nat) : (decide (0 < l.length) && l.all (fun c => low c || upp c) && (l.any low && !l.any upp)) = (decide (0 < l.length) && l.all low) := by
  cases l with
  | nil => rfl
  | cons c r =>
    rw [Bool.eq_iff_iff]
    simp only [Bool.and_eq_true, decide_eq_true_eq, List.all_eq_true, Bool.or_eq_true, List.any_eq_true, Bool.not_eq_true', List.any_eq_false]
    constructor
    · rintro ⟨⟨h1, h2⟩, _, h4⟩
      refine ⟨h1, fun d hd => ?_⟩
      rcases h2 d hd with z | z
      · exact z
      · exact absurd z (h4 d hd)
    · rintro ⟨h1, h2⟩
      refine ⟨⟨h1, fun d hd => .inl (h2 d hd)⟩, ⟨c, by simp, h2 c (by simp)⟩, fun d hd z => ?_⟩
      rw [not_both d (h2 d hd)] at z
      cases z
theorem isascii_iff (z : Str) : Txt.isascii z = true ↔ Asc z := by
  unfold Txt.isascii
  rw [← Array.all_toList, List.all_eq_true]
  simp only [decide_eq_true_eq]
  exact Iff.rfl
theorem low_lt {c : Nat} (h : low c = true) : c < 128 := by
  simp [low] at h
  omega
theorem alow (z : Str) : (Txt.isascii z && (Txt.isalpha z && Txt.islower z)) = (decide (0 < z.length) && (sg z).all low) := by
  by_cases h : Asc z
  · rw [(isascii_iff z).mpr h, Bool.true_and]
    unfold Txt.isalpha Txt.islower
    rw [← Array.all_toList, ← Array.any_toList, ← Array.any_toList]
    rw [all_eq (g := fun c => low c || upp c) (fun c hc => alphC c (h c hc)), any_eq (g := low) (fun c hc => lowC c (h c hc)), any_eq (g := upp) (fun c hc => uppC c (h c hc))]
    have := low_lem (sg z)
    rw [sg_len] at this
    exact this
  · have e1 : Txt.isascii z = false := by
      cases e : Txt.isascii z with
      | false => rfl
      | true => exact absurd ((isascii_iff z).mp e) h
    rw [e1, Bool.false_and]
    symm
    rw [Bool.and_eq_false_iff]
    right
    cases e : (sg z).all low with
    | false => rfl
    | true => exact absurd (fun c hc => low_lt (List.all_eq_true.mp e c hc)) h

/-! numerals -/
def numL (l : List Nat) : Bool := decide (0 < l.length) && l.all Fr.dig && (decide (l = [48]) || !decide (l.head? = some 48))
theorem zero_sg : sg (Str.ofString "0") = [48] := by decide +kernel
theorem starts0 (z : Str) : Txt.startswith z (Str.ofString "0") = decide ((sg z).head? = some 48) := by
  unfold Txt.startswith Builtin.Str.subAt
  have e1 : (Str.ofString "0").length = 1 := by decide +kernel
  have e2 : (Str.ofString "0").cps = #[48] := by decide +kernel
  rw [e1, e2]
  have e3 : z.length = (sg z).length := (sg_len z).symm
  rw [e3]
  have e4 : z.cps.extract 0 (0 + 1) = ((sg z).take 1).toArray := by
    apply Array.toList_inj.mp
    simp [sg]
  rw [e4]
  cases e : sg z with
  | nil => simp
  | cons c r =>
    simp only [List.length_cons, List.head?_cons, Option.some.injEq, List.take_succ_cons, List.take_zero]
    by_cases h : c = 48
    · subst h
      simp
    · simp [h]
theorem dig_lt {c : Nat} (h : Fr.dig c = true) : c < 128 := by
  simp [Fr.dig] at h
  omega
theorem numS_eq (z : Str) : (Txt.isascii z && (Txt.isdigit z && (decide (V.str z = V.str (Str.ofString "0")) || !Txt.startswith z (Str.ofString "0")))) = numL (sg z) := by
  have k0 : decide (V.str z = V.str (Str.ofString "0")) = decide (sg z = [48]) := by
    congr 1
    refine propext ⟨fun h => ?_, fun h => ?_⟩
    · cases h
      exact zero_sg
    · rw [sg_inj (h.trans zero_sg.symm)]
  rw [k0, starts0]
  unfold numL
  by_cases h : Asc z
  · rw [(isascii_iff z).mpr h, Bool.true_and, isdigit_pl h, sg_len]
  · have e1 : Txt.isascii z = false := by
      cases e : Txt.isascii z with
      | false => rfl
      | true => exact absurd ((isascii_iff z).mp e) h
    rw [e1, Bool.false_and]
    have : (sg z).all Fr.dig = false := by
      cases e : (sg z).all Fr.dig with
      | false => rfl
      | true => exact absurd (fun c hc => dig_lt (List.all_eq_true.mp e c hc)) h
    simp [this]

/-! splits at blanks -/
def occL : List Nat → Nat → Nat → List Nat
  | [], _, _ => []
  | c :: r, i, k => if 0 < k ∧ c = 32 then i :: occL r (i + 1) (k - 1) else occL r (i + 1) k
theorem occL_cons (c : Nat) (r : List Nat) (i k : Nat) : occL (c :: r) i k = if 0 < k ∧ c = 32 then i :: occL r (i + 1) (k - 1) else occL r (i + 1) k := rfl
theorem occL_zero : ∀ (l : List Nat) (i : Nat), occL l i 0 = []
  | [], _ => rfl
  | c :: r, i => by
    rw [occL_cons, if_neg (fun h => by omega)]
    exact occL_zero r (i + 1)
theorem occL_skip {a r : List Nat} {k : Nat} (h : ∀ c ∈ a, c ≠ 32) : ∀ i, occL (a ++ r) i k = occL r (i + a.length) k := by
  induction a with
  | nil => intro i; rfl
  | cons c a ih =>
    intro i
    show occL (c :: (a ++ r)) i k = _
    rw [occL_cons, if_neg (fun z => h c (by simp) z.2), ih (fun d hd => h d (by simp [hd]))]
    rw [List.length_cons, show i + 1 + a.length = i + (a.length + 1) from by omega]
theorem occL_hit (r : List Nat) (i k : Nat) : occL (32 :: r) i (k + 1) = i :: occL r (i + 1) k := by
  show (if 0 < k + 1 ∧ 32 = 32 then _ else _) = _
  rw [if_pos ⟨by omega, rfl⟩]
  rfl
open Builtin.Str StrLaws in
theorem occ_run (x : Str) (k : Nat) : ∀ (r p : List Nat) (acc : Array Nat) (f : Nat), sg x = p ++ r → f ≤ p.length →
    (forIn (List.range' p.length (r.length + 1)) (acc, f) (occBody x ⟨#[32]⟩ x.length k)).run.fst.toList = acc.toList ++ occL r p.length (k - acc.size)
  | [], p, acc, f, e, hf => by
    have hx : x.length = p.length := by
      rw [← sg_len, e]
      simp
    show (forIn [p.length] (acc, f) (occBody x ⟨#[32]⟩ x.length k)).run.fst.toList = _
    rw [List.forIn_cons]
    unfold occBody
    have one : (⟨#[32]⟩ : Str).length = 1 := rfl
    rw [if_neg (fun h => by have := h.1.2; rw [one] at this; omega)]
    simp [occL]
  | c :: r, p, acc, f, e, hf => by
    have hx : x.length = p.length + r.length + 1 := by
      rw [← sg_len, e]
      simp
      omega
    have one : (⟨#[32]⟩ : Str).length = 1 := rfl
    have at_ : subAt x ⟨#[32]⟩ p.length = decide (c = 32) := by
      unfold subAt
      rw [one]
      have e4 : x.cps.extract p.length (p.length + 1) = #[c] := by
        apply Array.toList_inj.mp
        have : x.cps.toList = p ++ c :: r := e
        simp [this]
      rw [e4]
      by_cases h : c = 32
      · subst h
        rfl
      · simp [h]
    have rg : List.range' p.length ((c :: r).length + 1) = p.length :: List.range' (p ++ [c]).length (r.length + 1) := by
      simp [List.range']
    rw [rg, List.forIn_cons]
    have e2 : sg x = (p ++ [c]) ++ r := by rw [e]; simp
    have step := fun (acc' : Array Nat) (f' : Nat) (h : f' ≤ (p ++ [c]).length) => occ_run x k r (p ++ [c]) acc' f' e2 h
    have len1 : (p ++ [c]).length = p.length + 1 := by simp
    unfold occBody
    by_cases h : 0 < k - acc.size ∧ c = 32
    · rw [if_pos ⟨⟨⟨by show acc.size < k; omega, hf⟩, by rw [one]; omega⟩, by rw [at_, h.2]; rfl⟩]
      show (forIn _ (acc.push p.length, p.length + (⟨#[32]⟩ : Str).length) (occBody x ⟨#[32]⟩ x.length k)).run.fst.toList = _
      rw [step _ _ (by rw [one, len1]; omega), len1]
      rw [occL_cons, if_pos h, Array.size_push, show k - acc.size - 1 = k - (acc.size + 1) from by omega]
      simp
    · rw [if_neg (fun z => h ⟨by have : acc.size < k := z.1.1.1; omega, by have := z.2; rw [at_] at this; simpa using this⟩)]
      show (forIn _ (acc, f) (occBody x ⟨#[32]⟩ x.length k)).run.fst.toList = _
      rw [step _ _ (by rw [len1]; omega), len1]
      rw [occL_cons, if_neg h]
open Builtin.Str StrLaws in
theorem occ_is (x : Str) (k : Nat) : occurrences x ⟨#[32]⟩ 0 x.length k = occL (sg x) 0 k := by
  have := occ_run x k (sg x) [] #[] 0 rfl (Nat.le_refl _)
  rw [occ_eq]
  rw [sg_len] at this
  simpa using this
theorem sp_is : Str.ofString " " = ⟨#[32]⟩ := by decide +kernel
theorem sub_sg (x : Str) (i j : Nat) : sg (Builtin.Str.strSub x i j) = ((sg x).drop i).take (j - i) := by
  unfold Builtin.Str.strSub sg
  simp [List.extract_eq_drop_take]
/-- each part is a piece -/
theorem part_sub {x p : Str} {cuts : List Nat} {w : Nat} (h : p ∈ Builtin.Str.partsBetween x cuts w) : p.length ≤ x.length ∧ ∀ c ∈ sg p, c ∈ sg x := by
  unfold Builtin.Str.partsBetween at h
  simp only [List.mem_map] at h
  obtain ⟨⟨i, j⟩, _, rfl⟩ := h
  refine ⟨?_, fun c hc => ?_⟩
  · rw [← sg_len, sub_sg, List.length_take, List.length_drop, sg_len]
    omega
  · rw [sub_sg] at hc
    exact List.mem_of_mem_drop (List.mem_of_mem_take hc)
open Builtin.Str in
theorem splitMax_sub {x p : Str} {k : Int} (h : p ∈ Txt.splitMax x (Str.ofString " ") k) : p.length ≤ x.length ∧ ∀ c ∈ sg p, c ∈ sg x := by
  unfold Txt.splitMax at h
  split at h
  · have : p = x := by simpa using h
    subst this
    exact ⟨Nat.le_refl _, fun c hc => hc⟩
  · split at h
    · have : p = x := by simpa using h
      subst this
      exact ⟨Nat.le_refl _, fun c hc => hc⟩
    · exact part_sub h
open Builtin.Str in
theorem split_sub {x p : Str} (h : p ∈ Txt.split x (Str.ofString " ")) : p.length ≤ x.length ∧ ∀ c ∈ sg p, c ∈ sg x := by
  unfold Txt.split at h
  split at h
  · have : p = x := by simpa using h
    subst this
    exact ⟨Nat.le_refl _, fun c hc => hc⟩
  · split at h
    · have : p = x := by simpa using h
      subst this
      exact ⟨Nat.le_refl _, fun c hc => hc⟩
    · exact part_sub h
open Builtin.Str StrLaws in
theorem split_len (x : Str) : 1 ≤ (Txt.split x (Str.ofString " ")).length ∧ (Txt.split x (Str.ofString " ")).length ≤ x.length + 2 := by
  unfold Txt.split
  split
  · simp
  · split
    · simp
    · rw [length_partsBetween]
      have := occ_length_le x (Str.ofString " ") 0 x.length (x.length + 1)
      omega
open Builtin.Str StrLaws in
theorem splitMax_len (x : Str) : (Txt.splitMax x (Str.ofString " ") 3).length ≤ 4 := by
  unfold Txt.splitMax
  split
  · simp
  · split
    · simp
    · rw [length_partsBetween]
      have := occ_length_le x (Str.ofString " ") 0 x.length (limitOf x 3)
      have e : limitOf x 3 ≤ 3 := by
        unfold limitOf
        simp
      omega

open Builtin.Str StrLaws in
theorem split_four {x : Str} {a b c t : List Nat} (e : sg x = a ++ 32 :: (b ++ 32 :: (c ++ 32 :: t))) (ha : ∀ d ∈ a, d ≠ 32) (hb : ∀ d ∈ b, d ≠ 32) (hc : ∀ d ∈ c, d ≠ 32) :
    Txt.splitMax x (Str.ofString " ") 3 = [tx a, tx b, tx c, tx t] := by
  rw [sp_is]
  have hx : x.length = a.length + b.length + c.length + t.length + 3 := by
    rw [← sg_len, e]
    simp
    omega
  have one : (⟨#[32]⟩ : Str).length = 1 := rfl
  have k1 : Builtin.Str.strKind (⟨#[32]⟩ : Str) = 1 := by decide +kernel
  have k2 : 1 ≤ Builtin.Str.strKind x := by
    unfold Builtin.Str.strKind
    split
    · decide
    · split <;> decide
  have lm : limitOf x 3 = 3 := rfl
  have oc : occurrences x ⟨#[32]⟩ 0 x.length 3 = [a.length, a.length + 1 + b.length, a.length + 1 + b.length + 1 + c.length] := by
    rw [occ_is, e, occL_skip ha, occL_hit, occL_skip hb, occL_hit, occL_skip hc, occL_hit, occL_zero]
    simp only [Nat.zero_add]
  unfold Txt.splitMax
  rw [lm, oc, one, k1]
  have f1 : (decide (x.length < 1) || decide (Builtin.Str.strKind x < 1)) = false := by
    simp
    omega
  rw [f1]
  simp only [Bool.false_eq_true, ↓reduceIte, List.isEmpty_cons]
  unfold partsBetween
  simp only [List.map_cons, List.map_nil, List.cons_append, List.nil_append, List.zip_cons_cons, List.zip_nil_right, List.cons.injEq, and_true]
  have d1 : ((a ++ 32 :: (b ++ 32 :: (c ++ 32 :: t))).drop (a.length + 1)) = b ++ 32 :: (c ++ 32 :: t) := by
    rw [← List.drop_drop, List.drop_left]
    rfl
  have d2 : ((a ++ 32 :: (b ++ 32 :: (c ++ 32 :: t))).drop (a.length + 1 + b.length + 1)) = c ++ 32 :: t := by
    rw [show a.length + 1 + b.length + 1 = (a.length + 1) + (b.length + 1) from by omega, ← List.drop_drop, d1, ← List.drop_drop, List.drop_left]
    rfl
  have d3 : ((a ++ 32 :: (b ++ 32 :: (c ++ 32 :: t))).drop (a.length + 1 + b.length + 1 + c.length + 1)) = t := by
    rw [show a.length + 1 + b.length + 1 + c.length + 1 = (a.length + 1 + b.length + 1) + (c.length + 1) from by omega, ← List.drop_drop, d2, ← List.drop_drop, List.drop_left]
    rfl
  refine ⟨sg_inj ?_, sg_inj ?_, sg_inj ?_, sg_inj ?_⟩
  · rw [sub_sg, sg_tx, e, List.drop_zero, Nat.sub_zero, List.take_left]
  · rw [sub_sg, sg_tx, e, d1, show a.length + 1 + b.length - (a.length + 1) = b.length from by omega, List.take_left]
  · rw [sub_sg, sg_tx, e, d2, show a.length + 1 + b.length + 1 + c.length - (a.length + 1 + b.length + 1) = c.length from by omega, List.take_left]
  · rw [sub_sg, sg_tx, e, d3]
    exact List.take_of_length_le (by rw [hx]; omega)
/-! numbers -/
theorem tl_digits (n : Nat) : (Nat.toDigits 10 n).map Char.toNat = TL.numL n := rfl
theorem digits_dig {n c : Nat} (h : c ∈ TL.numL n) : Fr.dig c = true := by
  have := TL.numL_digits n c h
  simp [Fr.dig]
  omega
theorem num_digits (n : Nat) : Fr.num (TL.numL n) = n := TL.numL_val n
theorem head_digits : ∀ n : Nat, 0 < n → ∃ c r, TL.numL n = c :: r ∧ c ≠ 48
  | n, h0 => by
    by_cases h : n < 10
    · exact ⟨48 + n, [], TL.numL_lt h, by omega⟩
    · obtain ⟨c, r, e, hc⟩ := head_digits (n / 10) (by omega)
      exact ⟨c, r ++ [48 + n % 10], by rw [TL.numL_step (by omega), e]; rfl, hc⟩
theorem numL_ok (n : Nat) : numL (TL.numL n) = true := by
  have ha : (TL.numL n).all Fr.dig = true := List.all_eq_true.mpr fun c hc => digits_dig hc
  have hl : 0 < (TL.numL n).length := List.length_pos_iff.mpr (TL.numL_ne n)
  unfold numL
  rw [ha]
  simp only [hl, decide_true, Bool.true_and]
  by_cases h : n = 0
  · subst h
    rfl
  · obtain ⟨c, r, e, hc⟩ := head_digits n (by omega)
    rw [e]
    simp [hc]
theorem nat_sg (n : Nat) : sg (Str.ofString (toString (n : Int))) = TL.numL n := str_nat n
end Nv

namespace Nv
open PySem L2

/-- a text's pieces are of its signs -/
theorem strs_lay (l : List Nat) (h : ∀ c ∈ l, c < 128) : PyData.canLayAll0 (l.map fun c => PyData.str ⟨#[c]⟩) = true := by
  have := (Fts.strs (D := 0) (ts := l.map fun c => [c]) (by
    intro t ht c hc
    obtain ⟨d, hd, rfl⟩ := List.mem_map.mp ht
    have : c = d := by simpa using hc
    exact this ▸ h d hd)).c
  simpa [strsD, List.map_map, Function.comp_def, tx] using this
theorem dp_ones {K : PySem.W.Frag} {H : Hp} : ∀ l : List Nat, DpAll K H (l.map fun c => V.str ⟨#[c]⟩) (l.map fun c => PyData.str ⟨#[c]⟩)
  | [] => .nil
  | c :: r => .cons (.str _) (dp_ones r)
theorem ones_depth (l : List Nat) : PyData.depthAll (l.map fun c => PyData.str ⟨#[c]⟩) = 0 := by
  induction l with
  | nil => rfl
  | cons c r ih => simp [PyData.depthAll, PyData.depth, ih]
theorem shaped_ones (l : List Nat) (h : ∀ c ∈ l, c < 128) : SeqAt.shaped (.list (l.map fun c => PyData.str ⟨#[c]⟩)) = true := by
  unfold SeqAt.shaped
  simp only [PyData.canLay0, strs_lay l h, PyData.depth, ones_depth]
  rfl
theorem eqv_nil (l : List Nat) : PyData.eqv (.list (l.map fun c => PyData.str ⟨#[c]⟩)) (.list []) = l.isEmpty := by
  cases l <;> simp [PyData.eqv, PyData.eqvAll]
theorem take_filter {l : List Nat} {i c : Nat} {f : Nat → Bool} (h : l[i]? = some c) : (l.take (i + 1)).filter f = (l.take i).filter f ++ (if f c then [c] else []) := by
  have e : l.take (i + 1) = l.take i ++ [c] := by
    rw [List.take_add_one, h]
    rfl
  rw [e, List.filter_append]
  congr 1
  cases hf : f c <;> simp [hf]
theorem filt_all (f : Nat → Bool) (l : List Nat) : (l.filter fun c => !f c).isEmpty = l.all f := by
  induction l with
  | nil => rfl
  | cons c r ih =>
    simp only [List.filter_cons, List.all_cons]
    cases f c <;> simp [ih]
theorem figs_sg : sg (Str.ofString "0123456789") = [48, 49, 50, 51, 52, 53, 54, 55, 56, 57] := by decide +kernel
theorem figs_in (c : Nat) : decide (c ∈ (Str.ofString "0123456789").cps.toList) = Fr.dig c := by
  have : (Str.ofString "0123456789").cps.toList = [48, 49, 50, 51, 52, 53, 54, 55, 56, 57] := figs_sg
  rw [this]
  unfold Fr.dig
  by_cases h1 : 48 ≤ c <;> by_cases h2 : c ≤ 57 <;> simp [h1, h2] <;> omega

theorem alph_sg : sg (Str.ofString "abcdefghijklmnopqrstuvwxyz") = [97, 98, 99, 100, 101, 102, 103, 104, 105, 106, 107, 108, 109, 110, 111, 112, 113, 114, 115, 116, 117, 118, 119, 120, 121, 122] := by decide +kernel
theorem alph_in (c : Nat) : decide (c ∈ (Str.ofString "abcdefghijklmnopqrstuvwxyz").cps.toList) = low c := by
  have : (Str.ofString "abcdefghijklmnopqrstuvwxyz").cps.toList = _ := alph_sg
  rw [this]
  unfold low
  by_cases h1 : 97 ≤ c <;> by_cases h2 : c ≤ 122 <;> simp [h1, h2] <;> omega
theorem r_eq_ones {K : PySem.W.Frag} {H : Hp} {Q : VK} {D p : Addr} {l : List Nat} (h : ∀ c ∈ l, c < 128) (hD : H D = some (.lst (l.map fun c => V.str ⟨#[c]⟩))) (hp : H p = some (.lst [])) (q : Q (.bl l.isEmpty) H) : rEqD K (.ref D) (.ref p) H Q :=
  ⟨_, _, .lst (.of hD) (dp_ones l), .lst (.of hp) .nil, shaped_ones l h, by decide, by rw [eqv_nil]; exact q⟩
theorem r_ne_ones {K : PySem.W.Frag} {H : Hp} {Q : VK} {D p : Addr} {l : List Nat} (h : ∀ c ∈ l, c < 128) (hD : H D = some (.lst (l.map fun c => V.str ⟨#[c]⟩))) (hp : H p = some (.lst [])) (q : Q (.bl (!l.isEmpty)) H) : rNeD K (.ref D) (.ref p) H Q :=
  ⟨_, _, .lst (.of hD) (dp_ones l), .lst (.of hp) .nil, shaped_ones l h, by decide, by rw [eqv_nil]; exact q⟩
end Nv

namespace Nv
open PySem PySem.Spec PyProof.Rows L2

/-- repr of a list of data, the list itself anywhere -/
def rReprL : List V → Hp → VK → Prop := fun xs H Q => ∃ (a : Addr) (ys : List V) (ds : List PyData), xs = [.ref a] ∧ H a = some (.lst ys) ∧ DVs H ys ds ∧
  (PyData.list ds).showable = true ∧ (PyData.list ds).depth ≤ 60 ∧ (PyData.list ds).shown.length ≤ sizeLine ∧ Q (.str (PyData.list ds).shown) H
theorem call_reprL {X : Cx} (hG : X.A.guards = some []) (hu : X.A.units + 64 < cLine) : CallR X (.builtin "repr") rReprL := by
  intro pins s σ H xs us Q I r h
  obtain ⟨a, ys, ds, rfl, ha, hd, hs, hp, hz, q⟩ := h
  obtain ⟨u, rfl, rx⟩ := vals1 r
  cases (show u = Value.ref a from rx)
  obtain ⟨_, its, m, rv, e⟩ := (show ObjOk X.prog X.w H s.heap a (.lst ys) from I.hok a _ ha)
  obtain ⟨as, ra, na⟩ := DVs.reads I hd rv
  have sz : (listText (PyData.shownAll ds)).length ≤ sizeLine := by simpa only [PyData.shown] using hz
  obtain ⟨bs, deep, parts⟩ := ReprAllK.of_readsAll (prog := X.prog) (w := X.w) ra (by simpa only [PyData.showable] using hs) (fun _ => na)
    (fun t ht => Nat.le_trans (listText_mem_le ht) sz)
  have apart : a ∉ bs := not_mem_of_deeper (.list e rfl rfl ra) (by simp only [PyData.depth]; omega) deep
  have dp : (PyData.list ds).depth = PyData.depthAll ds + 1 := by simp only [PyData.depth]
  have fin : ∀ (h' : Heap) (t : Tok) (k : Nat), (∀ b o, s.heap.get? b = some o → h'.get? b = some o) → EP X pins σ Q (.str (PyData.list ds).shown t) { s with heap := h', toks := k } :=
    fun h' t k keep => ⟨.str (PyData.list ds).shown, H, I.kept keep, ⟨t, rfl⟩, q⟩
  refine call_repr_slot (by omega) (show s.TypeIs (.ref a) "list" from ⟨_, e, rfl⟩) F.slot_list_repr.toG ?_
  cases its with
  | nil =>
    cases ra
    have : EP X pins σ Q (.str "[]" s.toks) { s with toks := s.toks + 1 } := by
      have z := fin s.heap s.toks (s.toks + 1) fun _ _ w => w
      simpa only [PyData.shown, PyData.shownAll, listText_nil] using z
    exact call_list_repr_empty ⟨_, e, rfl⟩ e rfl ⟨_, _, rfl, this⟩
  | cons x l =>
    refine call_list_reprK e rfl rfl apart (by simpa using parts.length_eq) (fun i y z => parts.item i y (by simpa using z)) hG (fun b _ => Clear.nil b) (by show X.A.units + 1 + _ < cLine; omega) (fun _ _ z => z) (fun h' t k keep => ⟨_, _, rfl, ?_⟩) sz
    have z := fin h' t k keep
    simpa only [PyData.shown] using z
def rReprAL : List V → Hp → VK → Prop := fun xs H Q => rReprL xs H Q ∨ rReprA xs H Q
theorem call_reprAL {X : Cx} (hG : X.A.guards = some []) (hu : X.A.units + 64 < cLine) : CallR X (.builtin "repr") rReprAL := CallR.or (call_reprL hG hu) (call_reprA hG hu)
end Nv

namespace Nv
open PySem PySem.Spec PyProof.Rows L2

/-! len of an own class -/
section
variable {X : Cx}
/-- an own def is called where a built-in one asks for a special name -/
theorem special_own {k : Nat} {f C a dx : Addr} {fd : FuncData} {ps : List Str} {sp : Sp} {name : Str} {us : List Value} {vs : List V} {A : Around} {pins : List (Addr × Obj)} {σ : L2.St} {H : Hp} {s : Shared} {fs : List (Str × V)} {Q : VK} {R : Option Value → Shared → Prop}
    (F : FnG X.prog X.w X.K X.mg X.base k f fd ps sp) (b : Pos1 fd ps) (hG : A.guards = some []) (hr : Room k A) (hfr : A.frames = X.A.frames)
    (hl : PySem.W.findIn X.K (.ref C) name = some (some (.ref f))) (hf : PySem.W.typeIn X.K (.ref f) = some (.type "function"))
    (I : Inv X pins σ H s) (h : H a = some (.ins C dx fs)) (rv : Vals vs us) (hsp : sp (.ref a :: vs) H Q (fun _ _ _ => False))
    (q : ∀ v u s', RelV v u → (∃ H', Inv X pins σ H' s' ∧ Q v H') → R (some u) s') :
    wpAny (model X.prog X.w) A (callSpecial? (.ref a) name us) R X.xe s := by
  obtain ⟨mA, J, _⟩ := ins_get I.hok h
  obtain ⟨od, J, _⟩ := J.look
  unfold callSpecial? specialOf
  refine wpAny_bind (wpAny_bind (J.type.here ((PySem.W.looks_findIn I.kIn hl).here ?_)))
  refine wpAny_holding ?_
  refine wpAny_bind ((PySem.W.bind_fn I.kIn _ hf).here ?_)
  have e0 : Env0 X.prog X.w X.K X.mg X.base A X.stack s H := by
    have e := I.env0
    exact ⟨by rw [hfr]; exact e.frames, e.mod, e.bs, e.bsz, e.funs, e.frf, e.hok, e.bare⟩
  have r2 : Vals (V.ref a :: vs) (Value.ref a :: us) := .cons rfl rv
  have hlen : (Value.ref a :: us).length = ps.length := by
    rw [← r2.length]
    exact F.len _ _ _ _ hsp
  refine wpAny_bind (wpAny_call (codeAny_mono (F.run A X.stack s H ⟨.ref a :: us, []⟩ (.ref a :: us) (.ref a :: vs) Q (fun _ _ _ => False) hG hr e0 (.of_eq (b _ hlen)) r2 hsp) fun r s' hq => ?_))
  cases r with
  | error er =>
    obtain ⟨_, _, _, _, _, _, _, _, _, _, _, _, z⟩ := hq
    exact z.elim
  | ok fl =>
    cases fl with
    | ret u =>
      obtain ⟨v, H', J', rv', q'⟩ := I.after hq
      exact wpAny_pure (q v u s' rv' ⟨H', J', q'⟩)
    | next => exact hq.elim
    | brk => exact hq.elim
    | cont => exact hq.elim
def rLenO (C : Addr) (sp : Sp) : List V → Hp → VK → Prop := fun xs H Q => ∃ (a dx : Addr) (fs : List (Str × V)), xs = [.ref a] ∧ H a = some (.ins C dx fs) ∧
  sp [.ref a] H (fun v H1 => ∃ n : Int, v = .int n ∧ 0 ≤ n ∧ n < 2 ^ 63 ∧ Q (.int n) H1) (fun _ _ _ => False)
theorem call_lenO {k : Nat} {f C : Addr} {fd : FuncData} {ps : List Str} {sp : Sp} (F : FnG X.prog X.w X.K X.mg X.base k f fd ps sp) (b : Pos1 fd ps) (hG : X.A.guards = some []) (hr : Room (k + 1) X.A)
    (hl : PySem.W.findIn X.K (.ref C) "__len__" = some (some (.ref f))) (hf : PySem.W.typeIn X.K (.ref f) = some (.type "function")) : CallR X (.builtin "len") (rLenO C sp) := by
  intro pins s σ H xs us Q I r h
  obtain ⟨a, dx, fs, rfl, ha, hsp⟩ := h
  obtain ⟨u, rfl, ru⟩ := vals1 r
  obtain rfl : u = Value.ref a := ru
  refine Calls.call_function_entry kind_len plain_len entry_len (args_len1 _) ?_
  unfold Builtin.«len»
  refine wpAny_bind (m := oneArg "len" _) (wpAny_pure ?_)
  refine wpAny_bind (m := callSpecial? (.ref a) (PySem.Str.ofString "__len__")) (special_own (A := X.A.in1) (vs := []) (us := []) F b hG hr.in1 rfl hl hf I ha .nil hsp ?_)
  rintro v u s' rv ⟨H', I', n, rfl, h0, h1, q⟩
  obtain ⟨t, rfl⟩ := (show ∃ t, u = Value.int n t from rv)
  refine wpAny_bind (wpAny_holding (wpAny_pure ?_))
  refine wpAny_bind (wpAny_letGo ?_)
  show wpAny _ _ (if n < 0 then _ else _) _ _ _
  rw [if_neg (by omega)]
  show wpAny _ _ (if n ≥ 2 ^ 63 then _ else _) _ _ _
  rw [if_neg (by omega)]
  exact wpAny_bind (wpAny_mkInt (wpAny_pure ⟨_, rfl, .int n, H', I'.tok _, ⟨_, rfl⟩, q⟩))
end

/-! new instances of own classes, whose __init__ may raise -/
theorem under_guards {A : Around} {C : Addr} {us : List Value} {kw : List (Str × Value)} : (A.under (.builtin "type.__call__" ⟨.ref C :: us, kw⟩)).guards = A.guards := by
  first | rfl | simp [Around.under, Code.weight, Code.isCreation, Code.isGuard, Code.isCaller, Code.frames, Code.isFrame, guardIds]
/-- C(e, ..) -/
def tMakeG (C : Addr) (sp : Sp) (W : WX) (t : TA) : TE := fun σ H Q => t σ H fun vs H1 => ∀ x dx, H1 x = none → H1 dx = none → dx ≠ x →
  sp (.ref x :: vs) (upd (upd H1 dx (.own x)) x (.ins C dx [])) (fun v H2 => v = .non ∧ Q (.ref x) H2) (WE W σ)
theorem e_makeG {C : Addr} {sp : Sp} {W : WX} {t : TA} {σ : L2.St} {H : Hp} {Q : VK} : tMakeG C sp W t σ H Q = t σ H (fun vs H1 => ∀ x dx, H1 x = none → H1 dx = none → dx ≠ x →
  sp (.ref x :: vs) (upd (upd H1 dx (.own x)) x (.ins C dx [])) (fun v H2 => v = .non ∧ Q (.ref x) H2) (WE W σ)) := rfl
section
variable {X : Cx} {W : WX} {k : Nat} {f C : Addr} {fd : FuncData} {ps ks : List Str} {sp : Sp} {x : Str} {p pos : Pos} {e : Expr} {es : List Expr} {kws : List Keyword} {t : TA}
theorem run_makeG {pins : List (Addr × Obj)} {σ : L2.St} {H : Hp} {s : Shared} {Q : VK} {us us2 : List Value} {vs : List V} {kw : List (Str × Value)} (M : Mk X.K C f) (F : FnG X.prog X.w X.K X.mg X.base k f fd ps sp) (tk : Takes X W) (hG : X.A.guards = some []) (hr : Room (k + 1) X.A)
    (hb : ∀ (s : Shared) (u : Value), X.K.In s.heap → BindsTo s fd ⟨u :: us, kw⟩ (ps.zip (u :: us2))) (I : Inv X pins σ H s) (r : Vals vs us2)
    (h : ∀ x dx, H x = none → H dx = none → dx ≠ x → sp (.ref x :: vs) (upd (upd H dx (.own x)) x (.ins C dx [])) (fun v H2 => v = .non ∧ Q (.ref x) H2) (WE W σ)) :
    wpAny (model X.prog X.w) X.A (call (.ref C) us kw) (EP X pins σ Q) X.xe s := by
  have hq := h (s.heap.objs.size + 1) s.heap.objs.size (I.hok.fresh (Nat.le_succ _)) (I.hok.fresh (Nat.le_refl _)) (Nat.ne_of_lt (Nat.lt_succ_self _))
  have I2 := Inv.made (C := C) I
  have r2 : Vals (V.ref (s.heap.objs.size + 1) :: vs) (Value.ref (s.heap.objs.size + 1) :: us2) := .cons rfl r
  refine wpAny_call (make_map (f := f) I.kIn M.makes M.init (beq_iff_eq.mp M.fn) (codeAny_mono (F.run _ X.stack _ _ ⟨Value.ref (s.heap.objs.size + 1) :: us, kw⟩ (Value.ref (s.heap.objs.size + 1) :: us2) _ _ (WE W σ) (under_guards.trans hG) (hr.make C us kw)
    (I2.env0.make C us kw) (hb _ _ I2.kIn) r2 hq) fun r s' hq' => ?_))
  cases r with
  | error er => exact passAt tk σ pins _ _ er s' I2 hq'
  | ok fl =>
    cases fl with
    | ret u =>
      obtain ⟨v, H', I3, rv, ev, q3⟩ := I2.after hq'
      subst ev
      exact ⟨rv, ⟨V.ref (s.heap.objs.size + 1), H', I3, rfl, q3⟩⟩
    | next => exact False.elim hq'
    | brk => exact False.elim hq'
    | cont => exact False.elim hq'
theorem lenM {us : List Value} {vs : List V} {H : Hp} {Q : VK} {E : XK} {a : Addr} (F : FnG X.prog X.w X.K X.mg X.base k f fd ps sp) (r : Vals vs us) (h : sp (.ref a :: vs) H Q E) : us.length + 1 = ps.length := by
  rw [← r.length]
  exact F.len _ _ _ _ h
theorem pe_makeG (M : Mk X.K C f) (F : FnG X.prog X.w X.K X.mg X.base k f fd ps sp) (b : Binds X.K fd ps []) (tk : Takes X W) (hG : X.A.guards = some []) (hr : Room (k + 1) X.A) (hg : Gl X x) (hm : X.mg x = some (.ref C))
    (ha : PA X (e :: es) t) (hdb : (x == ("__debug__" : Str)) = false := by decide) (he : starEach (e :: es) X.env = (false, eval e X.env) :: starEach es X.env := by rfl) (hpl : (backTo pos (starEach es X.env)).any (·.1) = false := by rfl) :
    PE X (.Call (.Name x p) (e :: es) [] pos) (tMakeG C sp W t) := by
  refine ⟨fun pins s σ H Q I h => ?_⟩
  refine wpAny_Call_Name_kw (ld_glob I hg hm ?_ hdb)
  refine PySem.W.callWith_K (h₀ := X.base) I.ok.mod.kin M.kp (thn (ha.run pos pins s σ H _ I h) fun us s1 ⟨vs, H1, I1, r, q⟩ => ⟨I1.kIn, ?_⟩) he hpl
  have hl := lenM F r (q (s1.heap.objs.size + 1) s1.heap.objs.size (I1.hok.fresh (Nat.le_succ _)) (I1.hok.fresh (Nat.le_refl _)) (Nat.ne_of_lt (Nat.lt_succ_self _)))
  refine run_makeG (us2 := us) M F tk hG hr (fun s u z => ?_) I1 r q
  have := b s (u :: us) z (by simpa using hl)
  simpa using this
theorem pe_makeGk (M : Mk X.K C f) (F : FnG X.prog X.w X.K X.mg X.base k f fd ps sp) (b : Kw1 fd ps ks 1) (hlen : ps.length = ks.length + 1) (tk : Takes X W) (hG : X.A.guards = some []) (hr : Room (k + 1) X.A) (hg : Gl X x) (hm : X.mg x = some (.ref C))
    (ha : PK X kws t) (hall : (backToKw pos (keywordEach kws X.env)).all (·.1.isSome) = true := by rfl) (hks : (backToKw pos (keywordEach kws X.env)).filterMap (·.1) = ks := by rfl)
    (hdb : (x == ("__debug__" : Str)) = false := by decide)
    (hpl : ((backTo pos (starEach [] X.env)).any (·.1) || (backToKw pos (keywordEach kws X.env)).any (·.1.isNone)) = false := by rfl) :
    PE X (.Call (.Name x p) [] kws pos) (tMakeG C sp W t) := by
  refine ⟨fun pins s σ H Q I h => ?_⟩
  refine wpAny_Call_Name_kw (ld_glob I hg hm ?_ hdb)
  refine PySem.W.callWith_KW0 (h₀ := X.base) I.ok.mod.kin M.kp hall ?_ hpl
  refine thn (ha.run pos pins s σ H _ I h) ?_
  intro ws s2 ⟨zs, H2, I2, rz, q2⟩
  refine ⟨I2.kIn, ?_⟩
  rw [hks]
  have hl := lenM F rz (q2 (s2.heap.objs.size + 1) s2.heap.objs.size (I2.hok.fresh (Nat.le_succ _)) (I2.hok.fresh (Nat.le_refl _)) (Nat.ne_of_lt (Nat.lt_succ_self _)))
  refine run_makeG (us := []) (us2 := ws) M F tk hG hr (fun s u z => .of_eq (b [u] ws rfl (by omega))) I2 rz q2
end

/-! a list grows by a tuple's items -/
section
open AutoSeq1 (wpAny_loadPart')
theorem grow_tup (l b : Addr) (xs ys : Array Value) (n m : Nat) (dd : Option Addr) (sl : Array (Option Value)) (short : ¬ (!xs.isEmpty && Builtin.List.listTooLong (xs.size + ys.size)) = true) (z1 : xs.size ≤ sizeLine) (z2 : xs.size + ys.size ≤ sizeLine + 1) :
    Meets (Builtin.«list.extend» ⟨[.ref l, .ref b], []⟩) (fun _ R s =>
      s.heap.get? l = some { cls := .type "list", dict := none, data := .seq xs n, slots := #[] } ∧
      s.heap.get? b = some { cls := .type "tuple", dict := dd, data := .seq ys m, slots := sl } ∧
      R (.ok (.ret Value.none)) { s with heap := s.heap.update l (Obj.mapSeq fun x => x ++ ys), toks := s.toks }) :=
  .of_wp fun prog w A R s h => by
    obtain ⟨hp, g, d, tk, os⟩ := s
    obtain ⟨el, eb, q⟩ := h
    have t1 := AutoSeq1.idx_int
    have t2 := AutoSeq1.sub_tuple_tuple
    have t3 := AutoSeq1.sub_tuple_list
    have z3 : (xs ++ ys).size ≤ sizeLine + 1 := by
      rw [Array.size_append]
      exact z2
    wp_walk using (wpAny_updateSeq el rfl (hz := z1) (_hz' := z3)), wpAny_loadPart' el, wpAny_loadPart' eb
    exact ⟨_, rfl, q⟩
end
/-- xs.extend(ys), ys a list or a tuple -/
def rExtA (K : PySem.W.Frag) : V → List V → Hp → VK → Prop := fun x vs H Q => ∃ l b xs zs, x = .ref l ∧ vs = [.ref b] ∧ H l = some (.lst xs) ∧ (H b = some (.lst zs) ∨ SqT K H b zs) ∧ xs.length + zs.length ≤ sizeLine ∧ Q .non (upd H l (.lst (xs ++ zs)))
theorem mt_extA {X : Cx} : MtM X "list.extend" (rExtA X.K) := by
  intro pins s σ H x vs v us Q I rx rv h
  obtain ⟨l, b, xs, zs, rfl, rfl, hH, hB | hB, hz, q⟩ := h
  · exact mt_extend pins s σ H _ _ v us Q I rx rv ⟨l, b, xs, zs, rfl, rfl, hH, hB, hz, q⟩
  · cases rx
    obtain ⟨u, rfl, ru⟩ := rv.one
    cases ru
    obtain ⟨z, its, n, r, hl, e⟩ := I.lstM hH
    obtain ⟨its2, r2, ⟨o, e2, o1, m, o3⟩, hl2⟩ := I.tuple hB
    have l1 := r.length
    have l2 := r2.length
    have hsz : its.toArray.size + its2.toArray.size ≤ sizeLine := by
      rw [List.size_toArray, List.size_toArray]
      omega
    have hlong : ¬ (!its.toArray.isEmpty && Builtin.List.listTooLong (its.toArray.size + its2.toArray.size)) = true := by
      rw [notLongL hsz, Bool.and_false]
      exact Bool.false_ne_true
    obtain ⟨oc, od, oda, os⟩ := o
    simp only at o1 o3
    subst o1
    subst o3
    refine call_meets F.slot_list_extend ⟨_, e, rfl⟩ F.entry_list_extend (F.args_list_extend_2 _ _)
      (grow_tup l b its.toArray its2.toArray n m od os hlong (by rw [List.size_toArray]; omega) (by omega)) ⟨e, e2, ?_⟩
    refine ⟨.non, _, I.lset (its' := its ++ its2) hH e (by simp) (r.append r2) ?_, rfl, q⟩
    rw [List.length_append]
    omega
end Nv

namespace Nv
open PySem L2

/-! rows of figures in a text -/
def Fig (B : Nat) (l : List Nat) : Prop := ∀ a b c, l = a ++ (b ++ c) → b.all Fr.dig = true → b.length ≤ B
theorem Fig.sub {B : Nat} {l m : List Nat} (h : Fig B m) (i : l <:+: m) : Fig B l := by
  obtain ⟨s, t, e⟩ := i
  intro a b c hl hd
  refine h (s ++ a) b (c ++ t) ?_ hd
  rw [← e, hl]
  simp
theorem Fig.len {B : Nat} {l : List Nat} (h : l.length ≤ B) : Fig B l := fun a b c e _ => by
  rw [e, List.length_append, List.length_append] at h
  omega
theorem Fig.le {B C : Nat} {l : List Nat} (h : Fig B l) (k : B ≤ C) : Fig C l := fun a b c e d => Nat.le_trans (h a b c e d) k
theorem Fig.self {B : Nat} {l : List Nat} (h : Fig B l) (d : l.all Fr.dig = true) : l.length ≤ B := h [] l [] (by simp) d
theorem Fig.nil (B : Nat) : Fig B [] := Fig.len (Nat.zero_le _)
/-- a sign that is no figure parts the rows -/
theorem Fig.part {B c : Nat} {l m : List Nat} (h1 : Fig B l) (h2 : Fig B m) (hc : Fr.dig c = false) : Fig B (l ++ c :: m) := by
  intro a b r e d
  by_cases h : a.length + b.length ≤ l.length
  · refine h1 a b ((l.drop (a.length + b.length))) ?_ d
    have e2 : (l ++ c :: m).take (a.length + b.length) = a ++ b := by
      rw [e, ← List.append_assoc]
      have : (a ++ b).length = a.length + b.length := List.length_append
      rw [← this, List.take_left]
    rw [List.take_append_of_le_length h] at e2
    rw [← List.append_assoc, ← e2, List.take_append_drop]
  · by_cases h3 : l.length < a.length
    · have e3 : (l ++ c :: m).drop a.length = b ++ r := by
        rw [e, List.drop_left]
      rw [List.drop_append_of_le_length' h3] at e3
      refine h2 (m.take (a.length - l.length - 1)) b r ?_ d
      rw [← e3, List.take_append_drop]
    · exfalso
      have hi : (l ++ c :: m)[l.length]? = some c := by simp
      rw [e, List.getElem?_append_right (by omega), List.getElem?_append_left (by omega)] at hi
      have hm := List.mem_of_getElem? hi
      have := List.all_eq_true.mp d c hm
      rw [hc] at this
      cases this
where
  List.drop_append_of_le_length' {l : List Nat} {c : Nat} {m : List Nat} {k : Nat} (h : l.length < k) : (l ++ c :: m).drop k = m.drop (k - l.length - 1) := by
    rw [List.drop_append]
    have : l.drop k = [] := List.drop_of_length_le (by omega)
    rw [this, List.nil_append]
    obtain ⟨j, hj⟩ : ∃ j, k - l.length = j + 1 := ⟨k - l.length - 1, by omega⟩
    rw [hj]
    simp
theorem sub_infix (x : Str) (i j : Nat) : sg (Builtin.Str.strSub x i j) <:+: sg x := by
  rw [sub_sg]
  exact (List.take_prefix _ _).isInfix.trans (List.drop_suffix _ _).isInfix
theorem part_infix {x p : Str} {cuts : List Nat} {w : Nat} (h : p ∈ Builtin.Str.partsBetween x cuts w) : sg p <:+: sg x := by
  unfold Builtin.Str.partsBetween at h
  simp only [List.mem_map] at h
  obtain ⟨⟨i, j⟩, _, rfl⟩ := h
  exact sub_infix x i j
open Builtin.Str in
theorem splitMax_infix {x p : Str} {k : Int} (h : p ∈ Txt.splitMax x (Str.ofString " ") k) : sg p <:+: sg x := by
  unfold Txt.splitMax at h
  split at h
  · have : p = x := by simpa using h
    subst this
    exact List.infix_rfl
  · split at h
    · have : p = x := by simpa using h
      subst this
      exact List.infix_rfl
    · exact part_infix h
open Builtin.Str in
theorem split_infix {x p : Str} (h : p ∈ Txt.split x (Str.ofString " ")) : sg p <:+: sg x := by
  unfold Txt.split at h
  split at h
  · have : p = x := by simpa using h
    subst this
    exact List.infix_rfl
  · split at h
    · have : p = x := by simpa using h
      subst this
      exact List.infix_rfl
    · exact part_infix h
theorem num_lt (l : List Nat) (h : ∀ c ∈ l, Fr.dig c = true) : ∀ a : Nat, l.foldl (fun a c => a * 10 + (c - 48)) a < (a + 1) * 10 ^ l.length := by
  induction l with
  | nil => intro a; simp
  | cons c r ih =>
    intro a
    rw [List.foldl_cons, List.length_cons]
    have hc : c - 48 ≤ 9 := by
      have := h c (by simp)
      simp [Fr.dig] at this
      omega
    have := ih (fun d hd => h d (by simp [hd])) (a * 10 + (c - 48))
    have e : (a + 1) * 10 ^ (r.length + 1) = (a * 10 + 10) * 10 ^ r.length := by
      rw [Nat.pow_succ, Nat.mul_comm (10 ^ r.length) 10, ← Nat.mul_assoc, Nat.add_mul, Nat.one_mul]
    rw [e]
    exact Nat.lt_of_lt_of_le this (Nat.mul_le_mul_right _ (by omega))
theorem num_lt' {l : List Nat} {B : Nat} (h : l.all Fr.dig = true) (hB : l.length ≤ B) : Fr.num l < 10 ^ B := by
  have := num_lt l (List.all_eq_true.mp h) 0
  rw [Nat.zero_add, Nat.one_mul] at this
  exact Nat.lt_of_lt_of_le this (Nat.pow_le_pow_right (by decide) hB)
end Nv

namespace Nv
open PySem PySem.Spec PyProof.Rows L2

/-! a name that holds a list or a tuple, walked -/
def iSeqV (K : PySem.W.Frag) (i : Nat) : TI := fun σ H R => ∃ a : Addr, σ[i]? = some (some (.ref a)) ∧ (((∃ xs, SqL K H a xs) ∧ R (Itl K a) H) ∨ ((∃ xs, SqT K H a xs) ∧ R (Itt K a) H))
theorem pi_seqV {X : Cx} {tg e : Expr} {i : Nat} (h : PE X e (tVar i)) : PI X tg e (iSeqV X.K i) := by
  refine ⟨fun pins s σ H R I q => ?_⟩
  obtain ⟨a, hv, ⟨hx, r⟩ | ⟨hx, r⟩⟩ := q
  · exact (pi_list h).run pins s σ H R I ⟨_, hv, a, rfl, hx, r⟩
  · exact (pi_tup h).run pins s σ H R I ⟨_, hv, a, rfl, hx, r⟩
theorem sqT_same {K : PySem.W.Frag} {H H' : Hp} {a : Addr} {xs : List V} (e : Same H H') (h : SqT K H a xs) : SqT K H' a xs :=
  h.elim (fun h => .inl (h.elim (fun h => .inl (e _ _ h)) fun ⟨o, h⟩ => .inr ⟨o, e _ _ h⟩)) fun h => .inr h
theorem lc_seqV {K : PySem.W.Frag} {a : Addr} {xs : List V} {i : Nat} {g : TG} {tt : TT} {te : TE} {vs : List Nat} {σ : L2.St} {H : Hp} {Q : VK} (hv : σ[i]? = some (some (.ref a))) (hx : SqL K H a xs ∨ SqT K H a xs)
    (Pv : Addr → Nat → Hp → Prop) (h0 : ∀ D, H D = none → Pv D 0 (upd H D (.lst []))) (st : ∀ D j H', H D = none → Pv D j H' → Same H H')
    (hs : ∀ D j x H', H D = none → xs[j]? = some x → Pv D j H' → g x (wipe σ vs) H' fun σ2 H2 => wipe σ2 vs = wipe σ vs ∧ tt σ2 H2 fun b H3 =>
      if b = true then te σ2 H3 fun y H4 => ∃ acc, H4 D = some (.lst acc) ∧ acc.length < sizeLine ∧ Pv D (j + 1) (upd H4 D (.lst (acc ++ [y]))) else Pv D (j + 1) H3)
    (hd : ∀ D H', H D = none → Pv D xs.length H' → Q (.ref D) H') : tLc (iSeqV K i) g tt te vs σ H Q := by
  rcases hx with hx | hx
  · refine ⟨a, hv, .inl ⟨⟨xs, hx⟩, fun D hD => ?_⟩⟩
    exact lc_list (K := K) (a := a) (xs := xs) (Pv D) (h0 D hD) (fun j H' _ p => L2.Same.seq (st D j H' hD p) hx) (fun j x H' hj p => hs D j x H' hD hj p) fun H' p => hd D H' hD p
  · refine ⟨a, hv, .inr ⟨⟨xs, hx⟩, fun D hD => ?_⟩⟩
    exact lc_tup (K := K) (a := a) (xs := xs) (Pv D) (h0 D hD) (fun j H' _ p => sqT_same (st D j H' hD p) hx) (fun j x H' hj p => hs D j x H' hD hj p) fun H' p => hd D H' hD p
end Nv

namespace Nv
open PySem PySem.Spec PyProof.Rows L2

/-! data whose outermost list may stand anywhere -/
inductive DR (H : Hp) : V → PyData → Prop
  | dv {v : V} {d : PyData} : DV H v d → DR H v d
  | raw {a : Addr} {xs : List V} {ds : List PyData} : H a = some (.lst xs) → DVs H xs ds → DR H (.ref a) (.list ds)
inductive DRs (H : Hp) : List V → List PyData → Prop
  | nil : DRs H [] []
  | cons {v : V} {vs : List V} {d : PyData} {ds : List PyData} : DR H v d → DRs H vs ds → DRs H (v :: vs) (d :: ds)
theorem DR.mono {H H' : Hp} (e : ∀ a o, H a = some o → H' a = some o) {v : V} {d : PyData} : DR H v d → DR H' v d
  | .dv h => .dv (h.mono e)
  | .raw h r => .raw (e _ _ h) (r.mono e)
theorem DRs.mono {H H' : Hp} (e : ∀ a o, H a = some o → H' a = some o) : ∀ {vs : List V} {ds : List PyData}, DRs H vs ds → DRs H' vs ds
  | _, _, .nil => .nil
  | _, _, .cons a r => .cons (a.mono e) (r.mono e)
theorem DR.ty {K : PySem.W.Frag} {H : Hp} {v : V} {d : PyData} : DR H v d → TyX K H v (.type (tyName d))
  | .dv h => h.ty
  | .raw h r => .base (.lst h)
section
variable {X : Cx} {pins : List (Addr × Obj)} {σ : L2.St} {H : Hp} {s : Shared}
/-- what repr wants of a value -/
def RepK (X : Cx) (s : Shared) (u : Value) (d : PyData) : Prop := ∃ as bs, Reads s.heap u d as ∧ ReadAtMost s.heap d.depth bs ∧ ReprK X.prog X.w bs s.heap d.depth u d.shown
theorem DR.reads (I : Inv X pins σ H s) {v : V} {d : PyData} {u : Value} (h : DR H v d) (r : RelV v u) : ∃ as, Reads s.heap u d as := by
  cases h with
  | dv h =>
    obtain ⟨as, h, _⟩ := h.reads I r
    exact ⟨as, h⟩
  | @raw a xs ds ha hd =>
    cases (show u = Value.ref a from r)
    obtain ⟨_, its, m, rv, e⟩ := (show ObjOk X.prog X.w H s.heap a (.lst xs) from I.hok a _ ha)
    obtain ⟨as, ra, na⟩ := DVs.reads I hd rv
    exact ⟨_, .list e rfl rfl ra⟩
theorem DR.rep (I : Inv X pins σ H s) {v : V} {d : PyData} {u : Value} (h : DR H v d) (r : RelV v u) (hs : d.showable = true) (hz : d.shown.length ≤ sizeLine) : RepK X s u d := by
  cases h with
  | dv h =>
    obtain ⟨as, h, na⟩ := h.reads I r
    obtain ⟨bs, h1, h2⟩ := ReprK.of_reads (prog := X.prog) (w := X.w) h hs (fun _ => na) hz
    exact ⟨as, bs, h, h1, h2⟩
  | @raw a xs ds ha hd =>
    cases (show u = Value.ref a from r)
    obtain ⟨_, its, m, rv, e⟩ := (show ObjOk X.prog X.w H s.heap a (.lst xs) from I.hok a _ ha)
    obtain ⟨as, ra, na⟩ := DVs.reads I hd rv
    have sz : (listText (PyData.shownAll ds)).length ≤ sizeLine := by simpa only [PyData.shown] using hz
    obtain ⟨bs, deep, parts⟩ := ReprAllK.of_readsAll (prog := X.prog) (w := X.w) ra (by simpa only [PyData.showable] using hs) (fun _ => na)
      (fun t ht => Nat.le_trans (listText_mem_le ht) sz)
    have rd : Reads s.heap (.ref a) (.list ds) _ := .list e rfl rfl ra
    have dp : (PyData.list ds).depth = PyData.depthAll ds + 1 := by simp only [PyData.depth]
    have apart : a ∉ bs := not_mem_of_deeper rd (by omega) deep
    refine ⟨_, a :: bs, rd, ?_, ?_⟩
    · intro b hb
      rcases List.mem_cons.mp hb with rfl | hb
      · exact ⟨_, _, rd, Nat.le_refl _⟩
      · obtain ⟨d, as, h1, h2⟩ := deep b hb
        exact ⟨d, as, h1, by omega⟩
    · cases its with
      | nil =>
        cases ra
        have : ReprK X.prog X.w bs s.heap (PyData.list []).depth (.ref a) (PyData.list []).shown := ReprK.listEmpty e rfl rfl
        exact this.more fun b hb => by simp [hb]
      | cons x l =>
        have := ReprK.list (x := x) (l := l) e rfl rfl apart (by simpa using parts.length_eq) (fun i y z => parts.item i y (by simpa using z))
        simpa only [PyData.shown, dp] using this
theorem DRs.rep (I : Inv X pins σ H s) : ∀ {vs : List V} {ds : List PyData} {us : List Value}, DRs H vs ds → Vals vs us → PyData.showableAll ds = true → (∀ t ∈ PyData.shownAll ds, t.length ≤ sizeLine) →
    ∃ as bs, ReadsAll s.heap us ds as ∧ ReadAtMost s.heap (PyData.depthAll ds) bs ∧ ReprAllK X.prog X.w bs s.heap (PyData.depthAll ds) us (PyData.shownAll ds)
  | _, _, us, .nil, r, _, _ => by
    cases r
    exact ⟨[], [], .nil, fun b hb => by simp at hb, .nil⟩
  | _, _, us, @DRs.cons _ v vs d ds a q, r, hs, hz => by
    cases r with
    | cons r1 r2 =>
      simp only [PyData.showableAll, Bool.and_eq_true] at hs
      obtain ⟨as1, bs1, h1, h2, h3⟩ := a.rep I r1 hs.1 (hz _ (by simp [PyData.shownAll]))
      obtain ⟨as2, bs2, g1, g2, g3⟩ := DRs.rep I q r2 hs.2 (fun t ht => hz t (by simp [PyData.shownAll, ht]))
      have m1 : d.depth ≤ PyData.depthAll (d :: ds) := by simp only [PyData.depthAll]; omega
      have m2 : PyData.depthAll ds ≤ PyData.depthAll (d :: ds) := by simp only [PyData.depthAll]; omega
      refine ⟨_, bs1 ++ bs2, .cons h1 g1, ?_, ?_⟩
      · intro b hb
        rcases List.mem_append.mp hb with hb | hb
        · obtain ⟨d', as, z1, z2⟩ := h2 b hb
          exact ⟨d', as, z1, by omega⟩
        · obtain ⟨d', as, z1, z2⟩ := g2 b hb
          exact ⟨d', as, z1, by omega⟩
      · simp only [PyData.shownAll]
        exact .cons ((h3.level_le m1).more fun b hb => by simp [hb]) (g3.more_le (fun b hb => by simp [hb]) m2)
end
/-- repr of a list of such data, the list itself anywhere -/
def rReprR : List V → Hp → VK → Prop := fun xs H Q => ∃ (a : Addr) (ys : List V) (ds : List PyData), xs = [.ref a] ∧ H a = some (.lst ys) ∧ DRs H ys ds ∧
  (PyData.list ds).showable = true ∧ (PyData.list ds).depth ≤ 60 ∧ (PyData.list ds).shown.length ≤ sizeLine ∧ Q (.str (PyData.list ds).shown) H
theorem call_reprR {X : Cx} (hG : X.A.guards = some []) (hu : X.A.units + 64 < cLine) : CallR X (.builtin "repr") rReprR := by
  intro pins s σ H xs us Q I r h
  obtain ⟨a, ys, ds, rfl, ha, hd, hs, hp, hz, q⟩ := h
  obtain ⟨u, rfl, rx⟩ := vals1 r
  cases (show u = Value.ref a from rx)
  obtain ⟨_, its, m, rv, e⟩ := (show ObjOk X.prog X.w H s.heap a (.lst ys) from I.hok a _ ha)
  have sz : (listText (PyData.shownAll ds)).length ≤ sizeLine := by simpa only [PyData.shown] using hz
  obtain ⟨as, bs, ra, deep, parts⟩ := DRs.rep I hd rv (by simpa only [PyData.showable] using hs) (fun t ht => Nat.le_trans (listText_mem_le ht) sz)
  have apart : a ∉ bs := not_mem_of_deeper (.list e rfl rfl ra) (by simp only [PyData.depth]; omega) deep
  have dp : (PyData.list ds).depth = PyData.depthAll ds + 1 := by simp only [PyData.depth]
  have fin : ∀ (h' : Heap) (t : Tok) (k : Nat), (∀ b o, s.heap.get? b = some o → h'.get? b = some o) → EP X pins σ Q (.str (PyData.list ds).shown t) { s with heap := h', toks := k } :=
    fun h' t k keep => ⟨.str (PyData.list ds).shown, H, I.kept keep, ⟨t, rfl⟩, q⟩
  refine call_repr_slot (by omega) (show s.TypeIs (.ref a) "list" from ⟨_, e, rfl⟩) F.slot_list_repr.toG ?_
  cases its with
  | nil =>
    cases ra
    have : EP X pins σ Q (.str "[]" s.toks) { s with toks := s.toks + 1 } := by
      have z := fin s.heap s.toks (s.toks + 1) fun _ _ w => w
      simpa only [PyData.shown, PyData.shownAll, listText_nil] using z
    exact call_list_repr_empty ⟨_, e, rfl⟩ e rfl ⟨_, _, rfl, this⟩
  | cons x l =>
    refine call_list_reprK e rfl rfl apart (by simpa using parts.length_eq) (fun i y z => parts.item i y (by simpa using z)) hG (fun b _ => Clear.nil b) (by show X.A.units + 1 + _ < cLine; omega) (fun _ _ z => z) (fun h' t k keep => ⟨_, _, rfl, ?_⟩) sz
    have z := fin h' t k keep
    simpa only [PyData.shown] using z
def rReprAR : List V → Hp → VK → Prop := fun xs H Q => rReprR xs H Q ∨ rReprA xs H Q
theorem call_reprAR {X : Cx} (hG : X.A.guards = some []) (hu : X.A.units + 64 < cLine) : CallR X (.builtin "repr") rReprAR := CallR.or (call_reprR hG hu) (call_reprA hG hu)
end Nv

namespace Nv
open PySem PySem.Spec PyProof.Rows L2

/-! zip of a tuple and a list -/
/-- what is walked at it: a list or a tuple at l of the items xs, k of them taken -/
inductive ItA (h : Heap) (it l : Addr) (k : Nat) (xs : Array Value) : Prop
  | lst (i : h.IsListIter it l k) (s : h.IsList l xs) : ItA h it l k xs
  | tup (i : h.IsTupleIter it l k) (s : h.IsTuple l xs) : ItA h it l k xs
theorem ItA.ext {h h' : Heap} {b it l : Addr} {k : Nat} {xs : Array Value} (x : ItA h it l k xs) (e : Heap.ExtBut b h h') (n1 : it ≠ b) (n2 : l ≠ b) : ItA h' it l k xs := by
  cases x with
  | lst i s => exact .lst (i.extBut e n1) (s.extBut e n2)
  | tup i s => exact .tup (i.extBut e n1) (s.extBut e n2)
section
variable {prog : Program} {w : World} {A : Around} {E : Value → Shared → Prop} {s : Shared}
theorem ItA.next {it l : Addr} {k : Nat} {xs : Array Value} {x : Value} {Q : Value → Shared → Prop} (i : ItA s.heap it l k xs) (n : l ≠ it) (hx : xs[k]? = some x)
    (q : ∀ h', ItA h' it l (k + 1) xs → Heap.SameBut it s.heap h' → Q x { s with heap := h' }) : wpAny (model prog w) A (Builtin.SmallTypes.nextOf (.ref it)) Q E s := by
  cases i with
  | lst i s => exact wpAny_nextOf_list_item i s hx fun h' i' e => q h' (.lst i' (s.extBut e.extBut n)) e
  | tup i s => exact RZ.nextOf_tuple_item i s hx fun h' i' e => q h' (.tup i' (s.extBut e.extBut n)) e
theorem ItA.stop {it l : Addr} {k : Nat} {xs : Array Value} {Q : Value → Shared → Prop} (hh : A.handled = none) (i : ItA s.heap it l k xs) (hx : xs[k]? = none)
    (q : ∀ h' e, Heap.ExtBut it s.heap h' → (∃ o, h'.get? e = some o ∧ o.cls = .type "StopIteration") → E (.ref e) { s with heap := h' }) : wpAny (model prog w) A (Builtin.SmallTypes.nextOf (.ref it)) Q E s := by
  cases i with
  | lst i s => exact wpAny_nextOf_list_end hh i s hx q
  | tup i s => exact RZ.nextOf_tuple_end hh i s hx q

theorem zipN_item {z TI TO i1 i2 l1 l2 : Addr} {k1 k2 : Nat} {xs ys : Array Value} {x y a b : Value} {Q : Value → Shared → Prop} (D : ZipApart z TI TO i1 i2 l1 l2)
    (hz : IsZip s.heap z TI TO .none) (hTI : IsPair s.heap TI (.ref i1) (.ref i2)) (hTO : IsPair s.heap TO a b)
    (h1 : ItA s.heap i1 l1 k1 xs) (h2 : ItA s.heap i2 l2 k2 ys) (hx : xs[k1]? = some x) (hy : ys[k2]? = some y)
    (hQ : ∀ h', IsZip h' z TI TO (rawInt s.heap.objs.size) → IsPair h' TO x y → ItA h' i1 l1 (k1 + 1) xs → ItA h' i2 l2 (k2 + 1) ys → IsPair h' s.heap.objs.size x y → h'.objs.size = s.heap.objs.size + 1 →
      (∀ c o, c ≠ z → c ≠ TO → c ≠ i1 → c ≠ i2 → s.heap.get? c = some o → h'.get? c = some o) → Q (.ref s.heap.objs.size) { s with heap := h' }) :
    wpAny (model prog w) A (Builtin.«zip.__next__» ⟨[.ref z], []⟩) (fun fin s' => ∃ v, fin = .done (.ret v) ∧ Q v s') E s := by
  have f2 : ∀ {R : Value → Shared → Prop}, R (.bool false) s → wpAny (model prog w) A (field (.ref z) 2) R E s := fun q => wpAny_field hz rfl (x := .bool false) rfl q
  have f3 : ∀ {R : Value → Shared → Prop}, R (.ref TI) s → wpAny (model prog w) A (field (.ref z) 3) R E s := fun q => wpAny_field hz rfl (x := .ref TI) rfl q
  show wpAny _ _ (field (.ref z) 2 >>= _) _ _ _
  refine wpAny_bind (f2 ?_)
  show wpAny _ _ (field (.ref z) 3 >>= _) _ _ _
  refine wpAny_bind (f3 ?_)
  refine wpAny_bind (wpAny_seqItems hTI rfl ?_)
  show wpAny _ _ (Builtin.SmallTypes.ownedTupleIsFree (.ref z) >>= _) _ _ _
  refine wpAny_bind ?_
  unfold Builtin.SmallTypes.ownedTupleIsFree
  refine wpAny_bind (wpAny_field hz rfl (x := .none) rfl (wpAny_pure ?_))
  simp only [if_true]
  refine wpAny_bind (wpAny_rule (wpAny_bind (wpAny_field hz rfl (x := .ref TO) rfl ?_)))
  refine wpAny_bind (wpAny_setField_rec hz (by simp) fun g1 zz e1 => wpAny_bind ?_)
  replace zz : IsZip g1 z TI TO .ellipsis := zz
  simp only [List.zipIdx_cons, List.zipIdx_nil, List.forIn_cons, List.forIn_nil]
  -- the first one
  refine wpAny_bind (wpAny_bind (wpAny_onRaise ?_))
  show wpAny _ _ (Builtin.SmallTypes.nextOf (.ref i1) >>= _) _ _ _
  refine wpAny_bind ((h1.ext e1.extBut D.i1z D.l1z).next D.l1i1 hx fun g2 j1 e2 => wpAny_pure ?_)
  have t2 : IsPair g2 TO a b := e2.extBut _ _ D.TOi1 (e1.extBut _ _ D.TOz hTO)
  refine wpAny_bind (wpAny_seqItems t2 rfl (wpAny_bind (wpAny_updateSeq_pair t2 fun g3 t3 e3 => ?_)))
  replace t3 : IsPair g3 TO x b := t3
  refine wpAny_bind (wpAny_letGo (wpAny_pure ?_))
  -- the second one
  refine wpAny_bind (wpAny_bind (wpAny_onRaise ?_))
  show wpAny _ _ (Builtin.SmallTypes.nextOf (.ref i2) >>= _) _ _ _
  refine wpAny_bind ((((h2.ext e1.extBut D.i2z D.l2z).ext e2.extBut D.i12.symm D.l2i1).ext e3.extBut D.TOi2.symm D.l2TO).next D.l2i2 hy fun g4 j2 e4 => wpAny_pure ?_)
  have t4 : IsPair g4 TO x b := e4.extBut _ _ D.TOi2 t3
  refine wpAny_bind (wpAny_seqItems t4 rfl (wpAny_bind (wpAny_updateSeq_pair t4 fun g5 t5 e5 => ?_)))
  replace t5 : IsPair g5 TO x y := t5
  refine wpAny_bind (wpAny_letGo (wpAny_pure (wpAny_pure ?_)))
  refine wpAny_bind (wpAny_seqItems t5 rfl (wpAny_bind (wpAny_newTuple ?_)))
  have sz : g5.objs.size = s.heap.objs.size := by rw [e5.1, e4.1, e3.1, e2.1, e1.1]
  have z5 : IsZip g5 z TI TO .ellipsis := e5.extBut _ _ D.TOz.symm (e4.extBut _ _ D.i2z.symm (e3.extBut _ _ D.TOz.symm (e2.extBut _ _ D.i1z.symm zz)))
  have k5 : ∀ c o, c ≠ z → c ≠ TO → c ≠ i1 → c ≠ i2 → s.heap.get? c = some o → g5.get? c = some o := fun c o c1 c2 c3 c4 e =>
    e5.extBut _ _ c2 (e4.extBut _ _ c4 (e3.extBut _ _ c2 (e2.extBut _ _ c3 (e1.extBut _ _ c1 e))))
  have a1 := ((j1.ext e3.extBut D.TOi1.symm D.l1TO).ext e4.extBut D.i12 D.l1i2).ext e5.extBut D.TOi1.symm D.l1TO
  have a2 := j2.ext e5.extBut D.TOi2.symm D.l2TO
  have zlt : z < g5.objs.size := Heap.lt_size z5
  show wpAny _ _ (Builtin.SmallTypes.ownedTupleHandOut (.ref z) (.ref g5.objs.size) >>= _) _ _ _
  refine wpAny_bind ?_
  unfold Builtin.SmallTypes.ownedTupleHandOut
  have z6 : IsZip (g5.push { cls := .type "tuple", data := .seq #[x, y] }) z TI TO .ellipsis := Heap.get?_push_of_some _ z5
  refine wpAny_bind (wpAny_setField_rec z6 (by simp) fun g7 z7 e7 => ?_)
  replace z7 : IsZip g7 z TI TO (rawInt g5.objs.size) := z7
  refine wpAny_setField_rec z7 (by simp) fun g8 z8 e8 => ?_
  replace z8 : IsZip g8 z TI TO (rawInt g5.objs.size) := z8
  have up : Heap.ExtBut z g5 g8 := fun c o c1 e => e8.extBut _ _ c1 (e7.extBut _ _ c1 (Heap.get?_push_of_some _ e))
  have p8 : IsPair g8 g5.objs.size x y := e8.extBut _ _ (Nat.ne_of_gt zlt) (e7.extBut _ _ (Nat.ne_of_gt zlt) (Heap.get?_push_size _ rfl))
  have s8 : g8.objs.size = g5.objs.size + 1 := by rw [e8.1, e7.1, Heap.size_push]
  rw [sz] at z8 p8 s8
  refine wpAny_pure ⟨_, rfl, ?_⟩
  show Q (.ref g5.objs.size) _
  rw [sz]
  exact hQ g8 z8 (up _ _ D.TOz t5) (a1.ext up D.i1z D.l1z) (a2.ext up D.i2z D.l2z) p8 s8 fun c o c1 c2 c3 c4 e => up c o c1 (k5 c o c1 c2 c3 c4 e)
theorem zipN_end {z TI TO i1 i2 l1 l2 : Addr} {k1 k2 : Nat} {xs ys : Array Value} {a b : Value} {Q : Fin → Shared → Prop} (hh : A.handled = none) (D : ZipApart z TI TO i1 i2 l1 l2)
    (hz : IsZip s.heap z TI TO .none) (hTI : IsPair s.heap TI (.ref i1) (.ref i2)) (hTO : IsPair s.heap TO a b)
    (h1 : ItA s.heap i1 l1 k1 xs) (h2 : ItA s.heap i2 l2 k2 ys) (hend : xs[k1]? = none ∨ ys[k2]? = none)
    (hE : ∀ h' e, (∀ c o, c ≠ z → c ≠ TO → c ≠ i1 → c ≠ i2 → s.heap.get? c = some o → h'.get? c = some o) → (∃ o, h'.get? e = some o ∧ o.cls = .type "StopIteration") → E (.ref e) { s with heap := h' }) :
    wpAny (model prog w) A (Builtin.«zip.__next__» ⟨[.ref z], []⟩) Q E s := by
  have f2 : ∀ {R : Value → Shared → Prop}, R (.bool false) s → wpAny (model prog w) A (field (.ref z) 2) R E s := fun q => wpAny_field hz rfl (x := .bool false) rfl q
  have f3 : ∀ {R : Value → Shared → Prop}, R (.ref TI) s → wpAny (model prog w) A (field (.ref z) 3) R E s := fun q => wpAny_field hz rfl (x := .ref TI) rfl q
  show wpAny _ _ (field (.ref z) 2 >>= _) _ _ _
  refine wpAny_bind (f2 ?_)
  show wpAny _ _ (field (.ref z) 3 >>= _) _ _ _
  refine wpAny_bind (f3 ?_)
  refine wpAny_bind (wpAny_seqItems hTI rfl ?_)
  show wpAny _ _ (Builtin.SmallTypes.ownedTupleIsFree (.ref z) >>= _) _ _ _
  refine wpAny_bind ?_
  unfold Builtin.SmallTypes.ownedTupleIsFree
  refine wpAny_bind (wpAny_field hz rfl (x := .none) rfl (wpAny_pure ?_))
  simp only [if_true]
  refine wpAny_bind (wpAny_rule (wpAny_bind (wpAny_field hz rfl (x := .ref TO) rfl ?_)))
  refine wpAny_bind (wpAny_setField_rec hz (by simp) fun g1 zz e1 => wpAny_bind ?_)
  replace zz : IsZip g1 z TI TO .ellipsis := zz
  simp only [List.zipIdx_cons, List.zipIdx_nil, List.forIn_cons, List.forIn_nil]
  refine wpAny_bind (wpAny_bind (wpAny_onRaise ?_))
  show wpAny _ _ (Builtin.SmallTypes.nextOf (.ref i1) >>= _) _ _ _
  -- the exception, set down in the zip
  have out : ∀ (g e : _), IsZip g z TI TO .ellipsis → (∃ o, g.get? e = some o ∧ o.cls = .type "StopIteration") → ∃ o, g.get? e = some o ∧ o.cls = .type "StopIteration" ∧ e ≠ z := fun g e zg ⟨o, ho, hc⟩ =>
    ⟨o, ho, hc, fun q => by
      subst q
      rw [zg] at ho
      cases ho
      simp at hc⟩
  cases hx : xs[k1]? with
  | none =>
    refine wpAny_bind ((h1.ext e1.extBut D.i1z D.l1z).stop hh hx fun g2 e e2 he => ?_)
    have z2 : IsZip g2 z TI TO .ellipsis := e2 _ _ D.i1z.symm zz
    obtain ⟨o, ho, hc, nz⟩ := out g2 e z2 he
    exact wpAny_setField_rec z2 (by simp) fun g3 _ e3 => hE g3 e (fun c o c1 _ c3 _ x => e3.extBut _ _ c1 (e2 _ _ c3 (e1.extBut _ _ c1 x))) ⟨o, e3.extBut _ _ nz ho, hc⟩
  | some x =>
    have hy : ys[k2]? = none := by
      rcases hend with h | h
      · rw [hx] at h
        cases h
      · exact h
    refine wpAny_bind ((h1.ext e1.extBut D.i1z D.l1z).next D.l1i1 hx fun g2 j1 e2 => wpAny_pure ?_)
    have t2 : IsPair g2 TO a b := e2.extBut _ _ D.TOi1 (e1.extBut _ _ D.TOz hTO)
    refine wpAny_bind (wpAny_seqItems t2 rfl (wpAny_bind (wpAny_updateSeq_pair t2 fun g3 t3 e3 => ?_)))
    refine wpAny_bind (wpAny_letGo (wpAny_pure ?_))
    refine wpAny_bind (wpAny_bind (wpAny_onRaise ?_))
    show wpAny _ _ (Builtin.SmallTypes.nextOf (.ref i2) >>= _) _ _ _
    refine wpAny_bind ((((h2.ext e1.extBut D.i2z D.l2z).ext e2.extBut D.i12.symm D.l2i1).ext e3.extBut D.TOi2.symm D.l2TO).stop hh hy fun g4 e e4 he => ?_)
    have z4 : IsZip g4 z TI TO .ellipsis := e4 _ _ D.i2z.symm (e3.extBut _ _ D.TOz.symm (e2.extBut _ _ D.i1z.symm zz))
    obtain ⟨o, ho, hc, nz⟩ := out g4 e z4 he
    exact wpAny_setField_rec z4 (by simp) fun g5 _ e5 => hE g5 e (fun c o c1 c2 c3 c4 x => e5.extBut _ _ c1 (e4 _ _ c4 (e3.extBut _ _ c2 (e2.extBut _ _ c3 (e1.extBut _ _ c1 x))))) ⟨o, e5.extBut _ _ nz ho, hc⟩

theorem nextZ_item {z TI TO i1 i2 l1 l2 : Addr} {k1 k2 : Nat} {xs ys : Array Value} {x y a b : Value} {Q : Option Value → Shared → Prop} (D : ZipApart z TI TO i1 i2 l1 l2)
    (hz : IsZip s.heap z TI TO .none) (hTI : IsPair s.heap TI (.ref i1) (.ref i2)) (hTO : IsPair s.heap TO a b)
    (h1 : ItA s.heap i1 l1 k1 xs) (h2 : ItA s.heap i2 l2 k2 ys) (hx : xs[k1]? = some x) (hy : ys[k2]? = some y)
    (hQ : ∀ h', IsZip h' z TI TO (rawInt s.heap.objs.size) → IsPair h' TO x y → ItA h' i1 l1 (k1 + 1) xs → ItA h' i2 l2 (k2 + 1) ys → IsPair h' s.heap.objs.size x y → h'.objs.size = s.heap.objs.size + 1 →
      (∀ c o, c ≠ z → c ≠ TO → c ≠ i1 → c ≠ i2 → s.heap.get? c = some o → h'.get? c = some o) → Q (some (.ref s.heap.objs.size)) { s with heap := h' }) :
    wpAny (model prog w) A (pyNext (.ref z)) Q E s := by
  have T : s.TypeIs (.ref z) "zip" := ⟨_, hz, rfl⟩
  unfold pyNext
  have step := zipN_item (prog := prog) (w := w) (A := A.in1) (E := E) (Q := fun v s' => Q (some v) s') D hz hTI hTO h1 h2 hx hy fun h' a1 a2 a3 a4 a5 a6 a7 => hQ h' a1 a2 a3 a4 a5 a6 a7
  refine wpAny_bind (wpAny_attempt (wpAny_callSpecial?_slot (name := Str.ofString "__next__") T F.slot_zip_next (wpAny_call_entry F.slot_zip_next T F.entry_zip_next ?_ (F.args_zip_next_1 _))))
  exact zipN_item D hz hTI hTO h1 h2 hx hy fun h' a1 a2 a3 a4 a5 a6 a7 => wpAny_pure (hQ h' a1 a2 a3 a4 a5 a6 a7)
theorem nextZ_end {z TI TO i1 i2 l1 l2 : Addr} {k1 k2 : Nat} {xs ys : Array Value} {a b : Value} {Q : Option Value → Shared → Prop} (hh : A.handled = none) (D : ZipApart z TI TO i1 i2 l1 l2)
    (hz : IsZip s.heap z TI TO .none) (hTI : IsPair s.heap TI (.ref i1) (.ref i2)) (hTO : IsPair s.heap TO a b)
    (h1 : ItA s.heap i1 l1 k1 xs) (h2 : ItA s.heap i2 l2 k2 ys) (hend : xs[k1]? = none ∨ ys[k2]? = none)
    (hQ : ∀ h', (∀ c o, c ≠ z → c ≠ TO → c ≠ i1 → c ≠ i2 → s.heap.get? c = some o → h'.get? c = some o) → Q none { s with heap := h' }) : wpAny (model prog w) A (pyNext (.ref z)) Q E s := by
  have T : s.TypeIs (.ref z) "zip" := ⟨_, hz, rfl⟩
  unfold pyNext
  refine wpAny_bind (wpAny_attempt (wpAny_callSpecial?_slot (name := Str.ofString "__next__") T F.slot_zip_next (wpAny_call_entry F.slot_zip_next T F.entry_zip_next ?_ (F.args_zip_next_1 _))))
  refine zipN_end hh D hz hTI hTO h1 h2 hend fun h' e hk ⟨o, ho, hc⟩ => ?_
  exact wpAny_bind (wpAny_isInstance (T := "StopIteration") (b := true) ⟨o, ho, hc⟩ isSubtype_stop (wpAny_pure (hQ _ hk)))
/-- zip(a tuple, a list) -/
def zmA (h : Heap) (l1 : Addr) : Heap := h.push { cls := .type "tuple_iterator", data := .fields #[.ref l1, .int 0 0] }
def zmB (h : Heap) (l1 l2 : Addr) : Heap := (zmA h l1).push { cls := .type "list_iterator", data := .fields #[.ref l2, .int 0 0] }
def zmC (h : Heap) (l1 l2 : Addr) : Heap := (zmB h l1 l2).push { cls := .type "tuple", data := .seq #[.ref h.objs.size, .ref (zmA h l1).objs.size] }
def zmD (h : Heap) (l1 l2 : Addr) : Heap := (zmC h l1 l2).push { cls := .type "tuple", data := .seq #[.none, .none] }
def zmE (h : Heap) (l1 l2 : Addr) : Heap := (zmD h l1 l2).push { cls := .type "zip", data := .fields #[.none, .bool false, .bool false, .ref (zmB h l1 l2).objs.size, .ref (zmC h l1 l2).objs.size] }
theorem zip_mixed (l1 l2 : Addr) (xs ys : Array Value) :
    Meets (Builtin.«zip.__new__» ⟨[.type "zip", .ref l1, .ref l2], []⟩) (fun _ R s => s.heap.IsTuple l1 xs ∧ s.heap.IsList l2 ys ∧ R (.ok (.ret (.ref (zmD s.heap l1 l2).objs.size))) { s with heap := zmE s.heap l1 l2 }) :=
  .of_wp fun prog w A R s h => by
    obtain ⟨hp, g, d, tk, os⟩ := s
    obtain ⟨t1, t2, h⟩ := h
    have sub := sub_zip
    have t1' : Heap.IsTuple (Shared.heap ⟨hp, g, d, tk, os⟩) l1 xs := t1
    have t2' : Heap.IsList (Shared.heap ⟨hp.push { cls := .type "tuple_iterator", data := .fields #[.ref l1, .int 0 0] }, g, d, tk, os⟩) l2 ys := by
      obtain ⟨o, e, r⟩ := t2
      exact ⟨o, Heap.get?_push_of_some _ e, r⟩
    wp_walk using wpAny_pyIter_tuple t1', wpAny_pyIter_list t2'
    exact ⟨_, rfl, h⟩

theorem call_zipM {l1 l2 : Addr} {xs ys : Array Value} {Q : Value → Shared → Prop} (t1 : s.heap.IsTuple l1 xs) (t2 : s.heap.IsList l2 ys)
    (h : ∀ h', IsZip h' (s.heap.objs.size + 4) (s.heap.objs.size + 2) (s.heap.objs.size + 3) .none → IsPair h' (s.heap.objs.size + 2) (.ref s.heap.objs.size) (.ref (s.heap.objs.size + 1)) →
      IsPair h' (s.heap.objs.size + 3) .none .none → ItA h' s.heap.objs.size l1 0 xs → ItA h' (s.heap.objs.size + 1) l2 0 ys →
      (∀ c o, s.heap.get? c = some o → h'.get? c = some o) → Q (.ref (s.heap.objs.size + 4)) { s with heap := h' }) :
    wpAny (model prog w) A (call (.type "zip") [.ref l1, .ref l2]) Q E s := by
  refine callType_new F.called_zip (by decide) (F.typeCall_zip_2 _ _) (F.newCall_zip_2 _ _) (fun obj => F.args_object_init_3 obj _ _) F.entry_zip_new (zip_mixed l1 l2 xs ys) ⟨t1, t2, ?_⟩
  have zA : (zmA s.heap l1).objs.size = s.heap.objs.size + 1 := Heap.size_push ..
  have zB : (zmB s.heap l1 l2).objs.size = s.heap.objs.size + 2 := by unfold zmB; rw [Heap.size_push, zA]
  have zC : (zmC s.heap l1 l2).objs.size = s.heap.objs.size + 3 := by unfold zmC; rw [Heap.size_push, zB]
  have zD : (zmD s.heap l1 l2).objs.size = s.heap.objs.size + 4 := by unfold zmD; rw [Heap.size_push, zC]
  have uA : ∀ c o, s.heap.get? c = some o → (zmA s.heap l1).get? c = some o := fun c o e => Heap.get?_push_of_some _ e
  have uB : ∀ c o, (zmA s.heap l1).get? c = some o → (zmB s.heap l1 l2).get? c = some o := fun c o e => Heap.get?_push_of_some _ e
  have uC : ∀ c o, (zmB s.heap l1 l2).get? c = some o → (zmC s.heap l1 l2).get? c = some o := fun c o e => Heap.get?_push_of_some _ e
  have uD : ∀ c o, (zmC s.heap l1 l2).get? c = some o → (zmD s.heap l1 l2).get? c = some o := fun c o e => Heap.get?_push_of_some _ e
  have uE : ∀ c o, (zmD s.heap l1 l2).get? c = some o → (zmE s.heap l1 l2).get? c = some o := fun c o e => Heap.get?_push_of_some _ e
  have gA : (zmA s.heap l1).get? s.heap.objs.size = some _ := Heap.get?_push_size _ rfl
  have gB : (zmB s.heap l1 l2).get? (zmA s.heap l1).objs.size = some _ := Heap.get?_push_size _ rfl
  have gC : (zmC s.heap l1 l2).get? (zmB s.heap l1 l2).objs.size = some _ := Heap.get?_push_size _ rfl
  have gD : (zmD s.heap l1 l2).get? (zmC s.heap l1 l2).objs.size = some _ := Heap.get?_push_size _ rfl
  have gE : (zmE s.heap l1 l2).get? (zmD s.heap l1 l2).objs.size = some _ := Heap.get?_push_size _ rfl
  rw [zD, zB, zC] at gE
  rw [zC] at gD
  rw [zB, zA] at gC
  rw [zA] at gB
  have keep : ∀ c o, s.heap.get? c = some o → (zmE s.heap l1 l2).get? c = some o := fun c o e => uE _ _ (uD _ _ (uC _ _ (uB _ _ (uA _ _ e))))
  show _ ∧ _
  rw [zD]
  refine ⟨⟨_, gE, rfl⟩, h _ gE (uE _ _ (uD _ _ gC)) (uE _ _ gD) (.tup ⟨_, uE _ _ (uD _ _ (uC _ _ (uB _ _ gA))), rfl, rfl⟩ ?_) (.lst ⟨_, uE _ _ (uD _ _ (uC _ _ gB)), rfl, rfl⟩ ?_) keep⟩
  · obtain ⟨o, e, r⟩ := t1
    exact ⟨o, keep _ _ e, r⟩
  · obtain ⟨o, e, r⟩ := t2
    exact ⟨o, keep _ _ e, r⟩
end
/-- the tuple at a and the list at b as they stand at each turn -/
def ItzM (K : PySem.W.Frag) (a b : Addr) : It :=
  ⟨fun i H => ∃ (xs ys : List V) (x y : V), SqT K H a xs ∧ SqL K H b ys ∧ xs[i]? = some x ∧ ys[i]? = some y,
    fun i H v H' => ∃ T x y, v = .ref T ∧ H T = none ∧ H' = upd H T (.tup [x, y]) ∧ (∀ xs, SqT K H a xs → xs[i]? = some x) ∧ ∀ ys, SqL K H b ys → ys[i]? = some y,
    fun i H => ∃ xs ys : List V, SqT K H a xs ∧ SqL K H b ys ∧ (xs.length ≤ i ∨ ys.length ≤ i)⟩
theorem ItA.keep {h h' : Heap} {it l : Addr} {k : Nat} {xs : Array Value} (x : ItA h it l k xs) (e1 : ∀ o, h.get? it = some o → h'.get? it = some o) (e2 : ∀ o, h.get? l = some o → h'.get? l = some o) : ItA h' it l k xs := by
  cases x with
  | lst i s =>
    obtain ⟨o, e, r⟩ := s
    exact .lst (i.at e1) ⟨o, e2 _ e, r⟩
  | tup i s =>
    obtain ⟨o, e, r⟩ := s
    exact .tup (i.at e1) ⟨o, e2 _ e, r⟩
theorem five {c z TI TO i1 i2 : Addr} (h : c ∈ [z, TI, TO, i1, i2]) : c = z ∨ c = TI ∨ c = TO ∨ c = i1 ∨ c = i2 := by simpa using h
theorem turn_zipM {P : Program} {w : World} {K : PySem.W.Frag} {elts : List Expr} {kk : Nat} {tpos : Pos} {a b z TI TO i1 i2 : Addr} (D : ZipApart z TI TO i1 i2 a b) :
    Turn P w K (.Tuple elts kk tpos) (ItzM K a b) [z, TI, TO, i1, i2] z (fun i h => IsZip h z TI TO .none ∧ IsPair h TI (.ref i1) (.ref i2) ∧ (∃ x y, IsPair h TO x y) ∧ h.IsTupleIter i1 a i ∧ h.IsListIter i2 b i) where
  mem := by simp
  obj := fun i h st c hc => by
    obtain ⟨hz, hTI, ⟨x, y, hTO⟩, ⟨o1, e1, _, d1⟩, ⟨o2, e2, _, d2⟩⟩ := st
    rcases five hc with rfl | rfl | rfl | rfl | rfl
    · exact ⟨_, hz, fun v q => nomatch q⟩
    · exact ⟨_, hTI, fun v q => nomatch q⟩
    · exact ⟨_, hTO, fun v q => nomatch q⟩
    · exact ⟨o1, e1, fun v q => by rw [d1] at q; cases q⟩
    · exact ⟨o2, e2, fun v q => by rw [d2] at q; cases q⟩
  keep := fun i h h' st k => by
    obtain ⟨hz, hTI, ⟨x, y, hTO⟩, h1, h2⟩ := st
    exact ⟨k z (by simp) _ hz, k TI (by simp) _ hTI, ⟨x, y, k TO (by simp) _ hTO⟩, h1.at fun o q => k i1 (by simp) o q, h2.at fun o q => k i2 (by simp) o q⟩
  item := by
    intro X hP hw hK hc i pins s σ H E I hf st hg
    subst hP hw hK
    obtain ⟨hz, hTI, ⟨x0, y0, hTO⟩, h1, h2⟩ := st
    obtain ⟨xs, ys, x, y, hqx, hqy, hx, hy⟩ := hg
    obtain ⟨its, rv, p, _⟩ := I.tuple hqx
    obtain ⟨its2, rv2, p2, _⟩ := I.list hqy
    obtain ⟨u, hu, ru⟩ := rv.get hx
    obtain ⟨u2, hu2, ru2⟩ := rv2.get hy
    have zl : z < s.heap.objs.size := Heap.lt_size hz
    have j1 : ItA s.heap i1 a i its.toArray := .tup h1 p
    have j2 : ItA s.heap i2 b i its2.toArray := .lst h2 p2.isList
    refine nextZ_item D hz hTI hTO j1 j2 (x := u) (y := u2) (by simpa using hu) (by simpa using hu2) fun h' z' TO' k1 k2 hT hsz hk => ?_
    refine ⟨_, rfl, wpAny_letOwnedTupleGo_zip (s := { s with heap := h' }) z' fun h'' z'' sb => ?_⟩
    have hT2 : h''.get? s.heap.objs.size = some { cls := .type "tuple", data := .seq #[u, u2] } := (sb.2 _ (Nat.ne_of_gt zl)).trans hT
    have new : ObjOk X.prog X.w (upd H s.heap.objs.size (.tup [x, y])) h'' s.heap.objs.size (.tup [x, y]) :=
      ⟨by show 2 ≤ sizeLine; decide, [u, u2], .cons ru (.cons ru2 .nil), ⟨_, hT2, rfl, _, rfl⟩⟩
    have away : ∀ c o, c ∉ [z, TI, TO, i1, i2] → s.heap.get? c = some o → h''.get? c = some o := fun c o hb q =>
      (sb.2 c (fun q' => hb (by simp [q']))).trans (hk c o (fun q' => hb (by simp [q'])) (fun q' => hb (by simp [q'])) (fun q' => hb (by simp [q'])) (fun q' => hb (by simp [q'])) q)
    have I1 : Inv X pins σ (upd H s.heap.objs.size (.tup [x, y])) { s with heap := h'' } := I.turnedNew (t' := s.toks) (ch := [z, TI, TO, i1, i2]) away hf (Nat.le_refl _) new
    have c1 : h''.IsTupleIter i1 a (i + 1) := by
      cases k1 with
      | tup k1 _ => exact k1.at fun o q => (sb.2 _ D.i1z).trans q
      | lst k1 s1 =>
        obtain ⟨o, e, c, _⟩ := s1
        obtain ⟨o2, e2, c2, m, d2⟩ := p
        have := hk a o2 D.l1z D.l1TO D.l1i1 D.l1i2 e2
        rw [this] at e
        cases e
        rw [c2] at c
        simp at c
    have c2 : h''.IsListIter i2 b (i + 1) := by
      cases k2 with
      | lst k2 _ => exact k2.at fun o q => (sb.2 _ D.i2z).trans q
      | tup k2 s2 =>
        obtain ⟨o, e, c, _⟩ := s2
        obtain ⟨o2, e2, c2, _⟩ := p2.isList
        have := hk b o2 D.l2z D.l2TO D.l2i1 D.l2i2 e2
        rw [this] at e
        cases e
        rw [c2] at c
        simp at c
    refine ⟨.ref s.heap.objs.size, _, I1, rfl, ⟨_, x, y, rfl, I.hok.fresh (Nat.le_refl _), rfl, fun l hl => by rw [I.tuple_inj hl hqx]; exact hx, fun l hl => by rw [I.list_inj hl hqy]; exact hy⟩, ⟨z'', ?_, ⟨u, u2, ?_⟩, c1, c2⟩, fun c hcm => ?_⟩
    · exact (sb.2 _ D.TIz).trans (hk _ _ D.TIz D.TITO D.TIi1 D.TIi2 hTI)
    · exact (sb.2 _ D.TOz).trans TO'
    · have lt : c < s.heap.objs.size := by
        rcases five hcm with rfl | rfl | rfl | rfl | rfl
        · exact zl
        · exact Heap.lt_size hTI
        · exact Heap.lt_size hTO
        · obtain ⟨_, e1, _⟩ := h1
          exact Heap.lt_size e1
        · obtain ⟨_, e2, _⟩ := h2
          exact Heap.lt_size e2
      rw [upd_ne (Nat.ne_of_lt lt)]
      exact (hf c hcm).1
  done := by
    intro X hP hw hK hc i pins s σ H E I hf st hg
    subst hP hw hK
    obtain ⟨hz, hTI, ⟨x0, y0, hTO⟩, h1, h2⟩ := st
    obtain ⟨xs, ys, hqx, hqy, hend⟩ := hg
    obtain ⟨its, rv, p, _⟩ := I.tuple hqx
    obtain ⟨its2, rv2, p2, _⟩ := I.list hqy
    have l1 := rv.length
    have l2 := rv2.length
    have he : its.toArray[i]? = none ∨ its2.toArray[i]? = none := by
      rcases hend with q | q
      · exact .inl (by simp; omega)
      · exact .inr (by simp; omega)
    refine nextZ_end (I.ok.hd hc) D hz hTI hTO (.tup h1 p) (.lst h2 p2.isList) he fun h' hk => ⟨rfl, I.turnedL (t' := s.toks) (ch := [z, TI, TO, i1, i2]) (fun c o hb q => ?_) hf⟩
    exact hk c o (fun q' => hb (by simp [q'])) (fun q' => hb (by simp [q'])) (fun q' => hb (by simp [q'])) (fun q' => hb (by simp [q'])) q
  self := fun A i s Q E st h => wpAny_pyIter_zip st.1 h
/-- zip of a tuple with a tuple or a list -/
def iZipT (K : PySem.W.Frag) (ta : TA) : TI := fun σ H R => ta σ H fun vs H1 => ∃ a b xs ys, vs = [.ref a, .ref b] ∧ SqT K H1 a xs ∧ ((SqL K H1 b ys ∧ R (ItzM K a b) H1) ∨ (SqT K H1 b ys ∧ R (RZ.ItzT K a b) H1))
theorem pi_zipT {X : Cx} {e e2 : Expr} {ta : TA} {p pos tpos : Pos} {elts : List Expr} {kk : Nat} (hg : Gl X "zip") (hm : X.mg "zip" = none) (ha : PA X [e, e2] ta)
    (hs : starEach [e, e2] X.env = (false, eval e X.env) :: starEach [e2] X.env := by rfl) (hpl : (backTo pos (starEach [e2] X.env)).any (·.1) = false := by rfl) :
    PI X (.Tuple elts kk tpos) (.Call (.Name "zip" p) [e, e2] [] pos) (iZipT X.K ta) := by
  refine ⟨fun pins s σ H R I h => ?_⟩
  have h2 : ta σ H fun vs H1 => ∃ a b xs ys, vs = [.ref a, .ref b] ∧ SqT X.K H1 a xs ∧ ((SqL X.K H1 b ys ∧ R (ItzM X.K a b) H1) ∨ (SqT X.K H1 b ys ∧ R (RZ.ItzT X.K a b) H1)) := h
  refine Call_ (ld_blt I hg hm PyProof.Rows.boot_zip (PyProof.Rows.callWith_type1 (thn (ha.run pos pins s σ H _ I h2) fun us s1 ⟨vs, H1, I1, r1, q1⟩ => ?_) hs hpl))
  obtain ⟨a, b, xs, ys, rfl, hqx, q1⟩ := q1
  obtain ⟨u1, u2, rfl, ra, rb⟩ := vals2 r1
  cases (show u1 = Value.ref a from ra)
  cases (show u2 = Value.ref b from rb)
  obtain ⟨n, hn⟩ : ∃ n, s1.heap.objs.size = n := ⟨_, rfl⟩
  have fresh : ∀ c, c ∈ [n + 4, n + 2, n + 3, n, n + 1] → FpOk X pins H1 c := fun c hcm => by
    have : s1.heap.objs.size ≤ c := by
      rcases five hcm with rfl | rfl | rfl | rfl | rfl <;> omega
    exact I1.fpOk this (I1.hok.fresh this)
  obtain ⟨its, rv, p1, _⟩ := I1.tuple hqx
  obtain ⟨o1, ho1, _⟩ := id p1
  rcases q1 with ⟨hqy, q⟩ | ⟨hqy, q⟩
  · obtain ⟨its2, rv2, p2, _⟩ := I1.list hqy
    refine call_zipM (show s1.heap.IsTuple a its.toArray from p1) p2.isList fun h' hz hTI hTO h1 h2 hk => wpAny_pyIter_zip hz ?_
    have I2 : Inv X pins σ H1 { s1 with heap := h' } := I1.kept (t' := s1.toks) hk
    have j1 : h'.IsTupleIter s1.heap.objs.size a 0 := by
      cases h1 with
      | tup h1 _ => exact h1
      | lst h1 s2 =>
        obtain ⟨o, e, c, _⟩ := s2
        obtain ⟨o2, e2, c2, _⟩ := p1
        rw [hk _ _ e2] at e
        cases e
        rw [c2] at c
        simp at c
    have j2 : h'.IsListIter (s1.heap.objs.size + 1) b 0 := by
      cases h2 with
      | lst h2 _ => exact h2
      | tup h2 s2 =>
        obtain ⟨o, e, c, _⟩ := s2
        obtain ⟨o2, e2, c2, _⟩ := p2.isList
        rw [hk _ _ e2] at e
        cases e
        rw [c2] at c
        simp at c
    subst hn
    exact ⟨_, [s1.heap.objs.size + 4, s1.heap.objs.size + 2, s1.heap.objs.size + 3, s1.heap.objs.size, s1.heap.objs.size + 1], _, _, H1, rfl, I2, turn_zipM (PySem.W.ktu_apart _ a b (Heap.lt_size ho1) p2.lt), ⟨hz, hTI, ⟨_, _, hTO⟩, j1, j2⟩, fresh, q⟩
  · obtain ⟨its2, rv2, p2, _⟩ := I1.tuple hqy
    obtain ⟨o2, ho2, _⟩ := id p2
    refine RZ.call_zipT (show s1.heap.IsTuple a its.toArray from p1) (show s1.heap.IsTuple b its2.toArray from p2) fun h' hz hTI hTO h1 h2 hsz hk => wpAny_pyIter_zip hz ?_
    have I2 : Inv X pins σ H1 { s1 with heap := h' } := I1.kept (t' := s1.toks) hk
    subst hn
    exact ⟨_, [s1.heap.objs.size + 4, s1.heap.objs.size + 2, s1.heap.objs.size + 3, s1.heap.objs.size, s1.heap.objs.size + 1], _, _, H1, rfl, I2, RZ.turn_zipT (PySem.W.ktu_apart _ a b (Heap.lt_size ho1) (Heap.lt_size ho2)), ⟨hz, hTI, ⟨_, _, hTO⟩, h1, h2⟩, fresh, q⟩
section
variable {K : PySem.W.Frag} {a b : Addr} {xs ys : List V}
theorem walk_zipM {n : Nat} (hn : n = min xs.length ys.length) : Walk (ItzM K a b) n (fun H => SqT K H a xs ∧ SqL K H b ys) (YPair (fun i => xs[i]?) (fun i => ys[i]?)) := by
  subst hn
  refine ⟨fun i _ hi q => ?_, fun _ q => ⟨xs, ys, q.1, q.2, by omega⟩, fun i H v H' _ q y => ?_⟩
  · have h1 : i < xs.length := by omega
    have h2 : i < ys.length := by omega
    exact ⟨xs, ys, xs[i], ys[i], q.1, q.2, by simp [h1], by simp [h2]⟩
  · obtain ⟨T, x, z, h1, h2, h3, h4, h5⟩ := y
    exact ⟨T, x, z, h1, h2, h3, h4 xs q.1, h5 ys q.2⟩
theorem walk_zipT {n : Nat} (hn : n = min xs.length ys.length) : Walk (RZ.ItzT K a b) n (fun H => SqT K H a xs ∧ SqT K H b ys) (YPair (fun i => xs[i]?) (fun i => ys[i]?)) := by
  subst hn
  refine ⟨fun i _ hi q => ?_, fun _ q => ⟨xs, ys, q.1, q.2, by omega⟩, fun i H v H' _ q y => ?_⟩
  · have h1 : i < xs.length := by omega
    have h2 : i < ys.length := by omega
    exact ⟨xs, ys, xs[i], ys[i], q.1, q.2, by simp [h1], by simp [h2]⟩
  · obtain ⟨T, x, z, h1, h2, h3, h4, h5⟩ := y
    exact ⟨T, x, z, h1, h2, h3, h4 xs q.1, h5 ys q.2⟩
end

/-! d.get(x), d a dict of the text's top with texts as keys -/
def rGetW (K : PySem.W.Frag) (w : World) (p : Addr) (z : Str) (H : Hp) (Q : VK) : Prop := (∃ v, KDct K w p z v ∧ Q v H) ∨ (KMiss K w p z ∧ Q .non H)
def tGetW (K : PySem.W.Frag) (w : World) (td ty : TE) : TE := fun σ H Q => td σ H fun x H1 => ∃ p, x = .ref p ∧ (∃ es n, K.lookup p = some ⟨.type "dict", none, .dict es n, #[]⟩ ∧ PySem.W.KeysLit w.params es.toList ∧ (p == sysModules) = false) ∧ ty σ H1 fun y H2 => ∃ z, y = .str z ∧ rGetW K w p z H2 Q
section
variable {X : Cx} {o e : Expr} {apos cpos : Pos} {td ty : TE}
theorem pe_getW (ho : PE X o td) (he : PE X e ty) (m : M1 X o "get" apos e cpos) : PE X (.Call (.Attribute o "get" apos) [e] [] cpos) (tGetW X.K X.w td ty) := by
  refine ⟨fun pins s σ H Q I h => ?_⟩
  refine wpAny_Call_method m.base m.few m.line PySem.F.plainAttrs_dict PySem.F.slot_dict_get PySem.F.type_dict_get (thn (ho.run pins s σ H _ I h) fun u s1 ⟨x, H1, I1, rx, p, ex, ⟨es, n, hl, hk, low⟩, q1⟩ => ?_)
  subst ex
  obtain rfl : u = Value.ref p := rx
  have mp := PySem.W.mapOf_K (prog := X.prog) (w := X.w) I1.kIn hl hk
  refine ⟨mp.typeIs, fun b q => ?_, ?_⟩
  · cases q
    exact ⟨_, I1.kIn _ _ hl, rfl⟩
  rw [m.trees]
  refine Calls.callWith_builtin rfl (Calls.evalArgs_plain (Calls.spliced_cons (thn (he.run pins s1 σ H1 _ I1 q1) fun iv s2 ⟨y, H2, I2, ry, z, ey, q2⟩ => Calls.spliced_nil ?_)))
  subst ey
  obtain ⟨t, rfl⟩ := (show ∃ t, iv = Value.str z t from ry)
  have mp2 := PySem.W.mapOf_K (prog := X.prog) (w := X.w) I2.kIn hl hk
  refine call_meetsIn PySem.F.slot_dict_get mp2.typeIs PySem.F.entry_dict_get (PySem.F.args_dict_get_2 _ _) (meets_dict_get (strKind X.prog X.w) p (strKind_is X.prog X.w z t) low) ⟨_, mp2, ?_⟩
  rcases q2 with ⟨v, ⟨es2, n2, u0, hl2, hk2, e, ru⟩, q⟩ | ⟨⟨es2, n2, hl2, hk2, low2, e⟩, q⟩
  · rw [hl] at hl2
    cases hl2
    rw [PySem.W.find_K hl e]
    exact ⟨v, H2, I2.tok _, ru, q⟩
  · rw [hl] at hl2
    cases hl2
    rw [PySem.W.find_K hl e]
    exact ⟨.non, H2, I2.tok _, rfl, q⟩
end
end Nv

namespace Nv
open PySem PySem.Spec PyProof.Rows L2

section
variable {X : Cx} {K : PySem.W.Frag}
/-- i not in range(lo, hi) -/
theorem op_notIn_rng : OpR X (compareOp .NotIn) (fun x y H Q => ∃ i a lo hi, x = V.int i ∧ y = V.ref a ∧ H a = some (.rng lo hi) ∧ Q (.bl (!decide (lo ≤ i ∧ i < hi))) H) := by
  intro pins s σ H x y v u Q I rx ry h
  obtain ⟨i, a, lo, hi, rfl, rfl, ha, q⟩ := h
  obtain ⟨k, rfl⟩ := (show ∃ k, v = Value.int i k from rx)
  cases (show u = Value.ref a from ry)
  obtain ⟨t1, t2, t3, ho⟩ := I.hok a _ ha
  have T : s.TypeIs (.ref a) "range" := ⟨_, ho, rfl⟩
  show wpAny _ _ (do return Value.bool (!(← contains (Value.ref a) (Value.int i k)))) _ _ s
  refine wpAny_bind (wpAny_contains_slot T F.slot_range_contains (call_meets F.slot_range_contains T F.entry_range_contains (F.args_range_contains_2 _ _) (q_contains a lo hi i t1 t2 t3 k) ⟨ho, ?_⟩))
  refine wpAny_truthy_bool (wpAny_pure ⟨.bl _, H, I, rfl, ?_⟩)
  rw [place1]
  exact q
theorem op_in_seqK (h : X.K = K) : OpR X (compareOp .In) (rIn K false) := by
  subst h
  exact op_in_seq
theorem op_notIn_seqK (h : X.K = K) : OpR X (compareOp .NotIn) (rIn K true) := by
  subst h
  exact op_notIn_seq
/-- str(x), x an int or a text -/
theorem call_strA : CallR X (.type "str") (fun xs H Q => (∃ a, xs = [.str a] ∧ Q (.str a) H) ∨ ∃ i, xs = [.int i] ∧ i.natAbs.log2 < 1920 ∧ Q (.str (Str.ofString (toString i))) H) := CallR.or SkE.call_str_str call_str_int
end
end Nv

namespace Nv
open PySem PySem.Spec PyProof.Rows L2

/-! comprehensions without a test: what their list holds -/
section
variable {J : It} {n : Nat} {G : Hp → Prop} {Y : Nat → Hp → V → Hp → Prop} {g : TG} {te : TE} {vs : List Nat} {σ : L2.St} {H : Hp} {D : Addr} {Qd : Hp → Prop}
/-- the items are known ahead -/
theorem lc_flat (w : Walk J n G Y) (ys : List V) (hD : H D = none) (hn : ys.length = n) (hz : n ≤ sizeLine) (hG : ∀ H', Same H H' → G H')
    (hs : ∀ i x y Ha Hb (R : VK), ys[i]? = some y → Same H Ha → Y i Ha x Hb → (∀ H4, Same Ha H4 → R y H4) → g x (wipe σ vs) Hb fun σ2 H2 => wipe σ2 vs = wipe σ vs ∧ te σ2 H2 R)
    (hd : ∀ H', Same H H' → H' D = some (.lst ys) → Qd H') :
    ∃ W : Nat → Nat → Hp → Prop, (∃ m, W 0 m (upd H D (.lst []))) ∧ ∀ i m H, W i m H →
      (J.stop i H ∧ Qd H) ∨ (J.go i H ∧ ∃ Nx : Hp → Prop, (∀ H', Nx H' → ∃ m', m' < m ∧ W (i + 1) m' H') ∧ ∀ x H', J.yld i H x H' → g x (wipe σ vs) H' fun σ2 H2 => wipe σ2 vs = wipe σ vs ∧ tYes σ2 H2 fun b H3 =>
        if b = true then te σ2 H3 fun y H4 => ∃ acc, H4 D = some (.lst acc) ∧ acc.length < sizeLine ∧ Nx (upd H4 D (.lst (acc ++ [y]))) else Nx H3) := by
  refine lc_it w (fun i H' => H' D = some (.lst (ys.take i)) ∧ Same H H') ⟨by rw [upd_same]; rfl, Same.new hD⟩ (fun i H' _ p => hG H' p.2) ?_ ?_
  · rintro i x Ha Hb hi ⟨f, S⟩ y
    obtain ⟨v, hv⟩ : ∃ v, ys[i]? = some v := ⟨_, List.getElem?_eq_getElem (by omega)⟩
    have key := hs i x v Ha Hb (fun v' H4 => ∃ acc, H4 D = some (.lst acc) ∧ acc.length < sizeLine ∧ (upd H4 D (.lst (acc ++ [v'])) D = some (.lst (ys.take (i + 1))) ∧ Same H (upd H4 D (.lst (acc ++ [v']))))) hv S y ?_
    · have e : (fun (σ2 : L2.St) (H2 : Hp) => wipe σ2 vs = wipe σ vs ∧ tYes σ2 H2 fun b H3 => if b = true then te σ2 H3 fun y H4 => ∃ acc, H4 D = some (.lst acc) ∧ acc.length < sizeLine ∧ (upd H4 D (.lst (acc ++ [y])) D = some (.lst (ys.take (i + 1))) ∧ Same H (upd H4 D (.lst (acc ++ [y])))) else (H3 D = some (.lst (ys.take (i + 1))) ∧ Same H H3))
          = fun σ2 H2 => wipe σ2 vs = wipe σ vs ∧ te σ2 H2 fun v' H4 => ∃ acc, H4 D = some (.lst acc) ∧ acc.length < sizeLine ∧ (upd H4 D (.lst (acc ++ [v'])) D = some (.lst (ys.take (i + 1))) ∧ Same H (upd H4 D (.lst (acc ++ [v'])))) := by
        funext σ2 H2
        rw [e_tyes, if_pos rfl]
      rw [e]
      exact key
    · intro H4 S4
      refine ⟨_, S4 _ _ f, by rw [List.length_take]; omega, ?_, fun b o hb => ?_⟩
      · rw [upd_same, List.take_add_one, hv]
        rfl
      · rw [upd_ne (ne_of_none hb hD)]
        exact S4 _ _ (S _ _ hb)
  · rintro H' ⟨f, S⟩
    rw [List.take_of_length_le (by omega)] at f
    exact hd H' S f
/-- the items are new data, each apart from the list -/
theorem lc_data (w : Walk J n G Y) (ds : List PyData) (hD : H D = none) (hn : ds.length = n) (hz : n ≤ sizeLine) (hG : ∀ H', Same H H' → G H')
    (hs : ∀ i x d Ha Hb (R : VK), ds[i]? = some d → Same H Ha → Y i Ha x Hb → (∀ v Hs H4, Same Ha H4 → Same Hs H4 → Hs D = none → DV Hs v d → R v H4) → g x (wipe σ vs) Hb fun σ2 H2 => wipe σ2 vs = wipe σ vs ∧ te σ2 H2 R)
    (hd : ∀ acc H', Same H H' → H' D = some (.lst acc) → DVs H' acc ds → Qd H') :
    ∃ W : Nat → Nat → Hp → Prop, (∃ m, W 0 m (upd H D (.lst []))) ∧ ∀ i m H, W i m H →
      (J.stop i H ∧ Qd H) ∨ (J.go i H ∧ ∃ Nx : Hp → Prop, (∀ H', Nx H' → ∃ m', m' < m ∧ W (i + 1) m' H') ∧ ∀ x H', J.yld i H x H' → g x (wipe σ vs) H' fun σ2 H2 => wipe σ2 vs = wipe σ vs ∧ tYes σ2 H2 fun b H3 =>
        if b = true then te σ2 H3 fun y H4 => ∃ acc, H4 D = some (.lst acc) ∧ acc.length < sizeLine ∧ Nx (upd H4 D (.lst (acc ++ [y]))) else Nx H3) := by
  refine lc_it w (fun i H' => ∃ acc, H' D = some (.lst acc) ∧ Same H H' ∧ acc.length = i ∧ ∀ (j : Nat) (v : V) (d : PyData), acc[j]? = some v → ds[j]? = some d → ∃ Hs, Hs D = none ∧ DV Hs v d ∧ ∀ a o, Hs a = some o → H' a = some o) ⟨[], upd_same, Same.new hD, rfl, fun j v d h => by simp at h⟩ (fun i H' _ ⟨acc, _, S, _⟩ => hG H' S) ?_ ?_
  · rintro i x Ha Hb hi ⟨acc, f, S, la, pd⟩ y
    obtain ⟨d, hv⟩ : ∃ v, ds[i]? = some v := ⟨_, List.getElem?_eq_getElem (by omega)⟩
    have key := hs i x d Ha Hb (fun v' H4 => ∃ acc, H4 D = some (.lst acc) ∧ acc.length < sizeLine ∧ (∃ acc2, upd H4 D (.lst (acc ++ [v'])) D = some (.lst acc2) ∧ Same H (upd H4 D (.lst (acc ++ [v']))) ∧ acc2.length = i + 1 ∧ ∀ (j : Nat) (v : V) (d : PyData), acc2[j]? = some v → ds[j]? = some d → ∃ Hs, Hs D = none ∧ DV Hs v d ∧ ∀ a o, Hs a = some o → upd H4 D (.lst (acc ++ [v'])) a = some o)) hv S y ?_
    · have e : (fun (σ2 : L2.St) (H2 : Hp) => wipe σ2 vs = wipe σ vs ∧ tYes σ2 H2 fun b H3 => if b = true then te σ2 H3 fun y H4 => ∃ acc, H4 D = some (.lst acc) ∧ acc.length < sizeLine ∧ (∃ acc2, upd H4 D (.lst (acc ++ [y])) D = some (.lst acc2) ∧ Same H (upd H4 D (.lst (acc ++ [y]))) ∧ acc2.length = i + 1 ∧ ∀ (j : Nat) (v : V) (d : PyData), acc2[j]? = some v → ds[j]? = some d → ∃ Hs, Hs D = none ∧ DV Hs v d ∧ ∀ a o, Hs a = some o → upd H4 D (.lst (acc ++ [y])) a = some o)
            else (∃ acc, H3 D = some (.lst acc) ∧ Same H H3 ∧ acc.length = i + 1 ∧ ∀ (j : Nat) (v : V) (d : PyData), acc[j]? = some v → ds[j]? = some d → ∃ Hs, Hs D = none ∧ DV Hs v d ∧ ∀ a o, Hs a = some o → H3 a = some o))
          = fun σ2 H2 => wipe σ2 vs = wipe σ vs ∧ te σ2 H2 fun v' H4 => ∃ acc, H4 D = some (.lst acc) ∧ acc.length < sizeLine ∧ (∃ acc2, upd H4 D (.lst (acc ++ [v'])) D = some (.lst acc2) ∧ Same H (upd H4 D (.lst (acc ++ [v']))) ∧ acc2.length = i + 1 ∧ ∀ (j : Nat) (v : V) (d : PyData), acc2[j]? = some v → ds[j]? = some d → ∃ Hs, Hs D = none ∧ DV Hs v d ∧ ∀ a o, Hs a = some o → upd H4 D (.lst (acc ++ [v'])) a = some o) := by
        funext σ2 H2
        rw [e_tyes, if_pos rfl]
      rw [e]
      exact key
    · intro v Hs H4 S4 s4 nD dv
      refine ⟨acc, S4 _ _ f, by omega, acc ++ [v], upd_same, fun b o hb => ?_, by simp [la], fun j u e hu he => ?_⟩
      · rw [upd_ne (ne_of_none hb hD)]
        exact S4 _ _ (S _ _ hb)
      · have away : ∀ (Hx : Hp), Hx D = none → Same Hx H4 → ∀ a o, Hx a = some o → upd H4 D (.lst (acc ++ [v])) a = some o := fun Hx nx s a o h => by
          rw [upd_ne (ne_of_none h nx)]
          exact s _ _ h
        by_cases hj : j < acc.length
        · rw [List.getElem?_append_left hj] at hu
          obtain ⟨Hx, nx, dx, s⟩ := pd j u e hu he
          exact ⟨Hx, nx, dx, away Hx nx fun a o h => S4 _ _ (s a o h)⟩
        · have : j = acc.length := by
            have := (List.getElem?_eq_some_iff.mp hu).1
            simp at this
            omega
          subst this
          rw [List.getElem?_concat_length] at hu
          cases hu
          rw [la, hv] at he
          cases he
          exact ⟨Hs, nD, dv, away Hs nD s4⟩
  · rintro H' ⟨acc, f, S, la, pd⟩
    refine hd acc H' S f ?_
    have all : ∀ (acc : List V) (ds : List PyData), acc.length = ds.length → (∀ (j : Nat) (v : V) (d : PyData), acc[j]? = some v → ds[j]? = some d → DV H' v d) → DVs H' acc ds := by
      intro acc
      induction acc with
      | nil =>
        intro ds l _
        cases ds with
        | nil => exact .nil
        | cons _ _ => simp at l
      | cons a r ih =>
        intro ds l h
        cases ds with
        | nil => simp at l
        | cons d ds =>
          refine .cons (h 0 a d rfl rfl) (ih ds (by simpa using l) fun j v d' hv hd => h (j + 1) v d' (by simpa using hv) (by simpa using hd))
    refine all acc ds (by omega) fun j v d hv hd => ?_
    obtain ⟨Hs, _, dv, s⟩ := pd j v d hv hd
    exact dv.mono s
end
/-- data that stands apart from a new list -/
theorem DV.apart {H : Hp} {v : V} {d : PyData} {D : Addr} (h : DV H v d) (hD : H D = none) {H' : Hp} (S : Same H H') : ∃ Hs, Same Hs H' ∧ Hs D = none ∧ DV Hs v d := ⟨H, S, hD, h⟩
end Nv
namespace Nv
open PySem L2
theorem sIx_one {n : Nat} (h : 1 ≤ n) : HT.sIx n 0 (some 1) = 1 := by
  unfold HT.sIx
  simp
  omega
theorem cutV_tail {x : V} {xs : List V} : cutV (x :: xs) (some 1) none = xs := by
  unfold cutV
  rw [sIx_one (by simp)]
  simp [HT.sIx]
theorem sIx_tail {x : V} {xs : List V} {P : Prop} : ¬ (HT.sIx (x :: xs).length 0 (some 1) = 0 ∧ P) := fun h => by
  have := h.1
  rw [sIx_one (by simp)] at this
  cases this
end Nv
namespace Nv
open PySem L2
theorem cutV_head {x : V} {xs : List V} : cutV (x :: xs) none (some 1) = [x] := by
  unfold cutV
  have : HT.sIx (x :: xs).length (x :: xs).length (some 1) = 1 := by
    unfold HT.sIx
    simp
  rw [this]
  simp [HT.sIx]
end Nv
namespace Nv
open PySem L2
theorem inV_strs (z : Str) (l : List Str) : inV (V.str z) (l.map V.str) = decide (z ∈ l) := by
  unfold inV
  rw [List.any_map]
  induction l with
  | nil => simp
  | cons a r ih =>
    rw [List.any_cons, ih]
    by_cases h : a = z
    · simp [eqV, h]
    · have : ¬ z = a := fun e => h e.symm
      simp [eqV, h, this]
theorem flat_strs (l : List Str) : (l.map V.str).all flatV = true := by
  rw [List.all_map, List.all_eq_true]
  intro x _
  rfl
/-- in a list or a tuple of texts -/
theorem r_inS {K : PySem.W.Frag} {H : Hp} {Q : VK} {z : Str} {p : Addr} {l : List Str} (h : SqL K H p (l.map V.str) ∨ SqT K H p (l.map V.str)) (q : Q (.bl (decide (z ∈ l))) H) : rIn K false (.str z) (.ref p) H Q :=
  ⟨p, _, rfl, h, rfl, flat_strs l, by rw [inV_strs]; exact q⟩
theorem r_ninS {K : PySem.W.Frag} {H : Hp} {Q : VK} {z : Str} {p : Addr} {l : List Str} (h : SqL K H p (l.map V.str) ∨ SqT K H p (l.map V.str)) (q : Q (.bl (!decide (z ∈ l))) H) : rIn K true (.str z) (.ref p) H Q :=
  ⟨p, _, rfl, h, rfl, flat_strs l, by rw [inV_strs]; exact q⟩
end Nv

namespace Nv
open PySem L2

/-! draws -/
/-- the box of draws at p, of which at most N have been mixed -/
def BoxAt (H : Hp) (p : Addr) (N : Nat) : Prop := ∃ (n : Int) (b : Bool) (m c : Int), H p = some (.lst [.int n, .bl b, .int m, .int c]) ∧ 0 ≤ m ∧ m < 2147483648 ∧ 0 ≤ c ∧ c ≤ (N : Int)
theorem BoxAt.mono {H H' : Hp} {p : Addr} {N : Nat} (e : Same H H') (h : BoxAt H p N) : BoxAt H' p N := by
  obtain ⟨n, b, m, c, h, r⟩ := h
  exact ⟨n, b, m, c, e _ _ h, r⟩
theorem BoxAt.le {H : Hp} {p : Addr} {N M : Nat} (h : BoxAt H p N) (l : N ≤ M) : BoxAt H p M := by
  obtain ⟨n, b, m, c, h, r1, r2, r3, r4⟩ := h
  exact ⟨n, b, m, c, h, r1, r2, r3, by omega⟩
def nvCell (K : PySem.W.Frag) : Sp := fun vs H Q _ => ∃ (a : Addr) (ns : List Int) (k : Int), vs = [.ref a, .int k] ∧ SqL K H a (ns.map V.int) ∧ 0 ≤ k ∧ k ≤ 1000 ∧ ∀ i H', Same H H' → Q (.int i) H'
def nvBox : Sp := fun vs H Q _ => ∃ g, vs = [.int g] ∧ ∀ p H', H p = none → Same H H' → BoxAt H' p 0 → Q (.ref p) H'
def nvTake : Sp := fun vs H Q _ => ∃ p m N, vs = [.ref p, .int m] ∧ BoxAt H p N ∧ N ≤ 1000000 ∧ 0 < m ∧ m < 1073741824 ∧
  ∀ d H', 0 ≤ d → d < m → BoxAt H' p (N + 1) → Ext1 p H H' → Q (.int d) H'
theorem fmod_in (a : Int) {m : Int} (h : 0 < m) : 0 ≤ a.fmod m ∧ a.fmod m < m := by
  rw [Int.fmod_eq_emod_of_nonneg a (Int.le_of_lt h)]
  exact ⟨Int.emod_nonneg a (by omega), Int.emod_lt_of_pos a h⟩
theorem at0 {α : Type} {xs : List α} {v : α} (h : xs[0]? = some v) : atI xs 0 = some v := atI_nat (j := 0) h
theorem at1 {α : Type} {xs : List α} {v : α} (h : xs[1]? = some v) : atI xs 1 = some v := atI_nat (j := 1) h
theorem at2 {α : Type} {xs : List α} {v : α} (h : xs[2]? = some v) : atI xs 2 = some v := atI_nat (j := 2) h
theorem at3 {α : Type} {xs : List α} {v : α} (h : xs[3]? = some v) : atI xs 3 = some v := atI_nat (j := 3) h
theorem cmul_r {a b : Int} (h1 : -(2 ^ 64) < b) (h2 : b < 2 ^ 64) : CMul a b := .inr ⟨h1, h2⟩
theorem cmul_l {a b : Int} (h1 : -(2 ^ 64) < a) (h2 : a < 2 ^ 64) : CMul a b := .inl ⟨h1, h2⟩
theorem cpow_of {a e : Int} (h0 : 0 ≤ e) (h1 : e ≤ 1000000) (h2 : 0 ≤ a) (h3 : a < 2 ^ 64) : CPow a e := ⟨h0, h1, by omega⟩
theorem setIx {n : Nat} {j : Nat} (h : j < n) : ixN n (j : Int) = some j := by
  unfold ixN
  rw [if_pos (by omega), if_pos (by omega)]
  simp

theorem BoxAt.off {H : Hp} {p D : Addr} {N : Nat} {o : HO} (h : BoxAt H p N) (hD : H D = none) : BoxAt (upd H D o) p N := by
  obtain ⟨n, b, m, c, hx, r⟩ := h
  exact ⟨n, b, m, c, by rw [upd_ne (ne_of_none hx hD)]; exact hx, r⟩
theorem BoxAt.ne {H : Hp} {p D : Addr} {N : Nat} (h : BoxAt H p N) (hD : H D = none) : D ≠ p := by
  obtain ⟨_, _, _, _, hx, _⟩ := h
  intro e
  rw [e, hx] at hD
  cases hD
theorem BoxAt.keep {H H' : Hp} {p D : Addr} {N : Nat} {xs : List V} (h : BoxAt H p N) (nD : D ≠ p) : BoxAt (upd H D (.lst xs)) p N := by
  obtain ⟨n, b, m, c, hx, r⟩ := h
  exact ⟨n, b, m, c, by rw [upd_ne (Ne.symm nD)]; exact hx, r⟩
theorem ext_new {H : Hp} {p D : Addr} (o : HO) (hD : H D = none) : Ext1 p H (upd H D o) := fun a u _ ha => by
  rw [upd_ne (ne_of_none ha hD)]
  exact ha
theorem ext_trans {H H1 H2 : Hp} {p : Addr} (a : Ext1 p H H1) (b : Ext1 p H1 H2) : Ext1 p H H2 := fun x o n h => b x o n (a x o n h)
theorem ext_same {H H1 : Hp} {p : Addr} (a : Same H H1) : Ext1 p H H1 := fun x o _ h => a x o h
theorem ext_none {p a : Addr} {H H' : Hp} {N : Nat} (hp : BoxAt H' p N) (e : Ext1 p H H') (h : H' a = none) : H a = none := by
  cases q : H a with
  | none => rfl
  | some o =>
    have := e a o (hp.ne h) q
    rw [this] at h
    cases h
section
open PySem.Spec PyProof.Rows
variable {J : It} {n : Nat} {G : Hp → Prop} {Y : Nat → Hp → V → Hp → Prop} {g : TG} {te : TE} {vs : List Nat} {σ : L2.St} {H : Hp} {D : Addr} {Qd : Hp → Prop}
/-- a comprehension whose items are drawn -/
theorem lc_box (w : Walk J n G Y) (p : Addr) (N M : Nat) (Pv : Nat → V → Prop) (hp : BoxAt H p N) (hD : H D = none) (hz : n ≤ sizeLine) (hG : ∀ H', Ext1 p H H' → G H')
    (hs : ∀ i x Ha Hb (R : VK), i < n → BoxAt Ha p (N + i * M) → Ext1 p H Ha → Y i Ha x Hb → (∀ v H4, Pv i v → BoxAt H4 p (N + (i + 1) * M) → Ext1 p Ha H4 → R v H4) → g x (wipe σ vs) Hb fun σ2 H2 => wipe σ2 vs = wipe σ vs ∧ te σ2 H2 R)
    (hd : ∀ ws H', ws.length = n → (∀ (i : Nat) (v : V), ws[i]? = some v → Pv i v) → H' D = some (.lst ws) → BoxAt H' p (N + n * M) → Ext1 p H H' → Qd H') :
    ∃ W : Nat → Nat → Hp → Prop, (∃ m, W 0 m (upd H D (.lst []))) ∧ ∀ i m H, W i m H →
      (J.stop i H ∧ Qd H) ∨ (J.go i H ∧ ∃ Nx : Hp → Prop, (∀ H', Nx H' → ∃ m', m' < m ∧ W (i + 1) m' H') ∧ ∀ x H', J.yld i H x H' → g x (wipe σ vs) H' fun σ2 H2 => wipe σ2 vs = wipe σ vs ∧ tYes σ2 H2 fun b H3 =>
        if b = true then te σ2 H3 fun y H4 => ∃ acc, H4 D = some (.lst acc) ∧ acc.length < sizeLine ∧ Nx (upd H4 D (.lst (acc ++ [y]))) else Nx H3) := by
  have nD : D ≠ p := hp.ne hD
  refine lc_it w (fun i H' => ∃ ws : List V, H' D = some (.lst ws) ∧ ws.length = i ∧ (∀ (j : Nat) (v : V), ws[j]? = some v → Pv j v) ∧ BoxAt H' p (N + i * M) ∧ Ext1 p H H')
    ⟨[], upd_same, rfl, fun j v h => (by rw [List.getElem?_nil] at h; cases h), by rw [Nat.zero_mul]; exact hp.off hD, ext_new _ hD⟩ (fun i H' _ ⟨_, _, _, _, _, e⟩ => hG H' e) ?_ ?_
  · rintro i x Ha Hb hi ⟨ws, f, lw, pw, hB, E⟩ y
    let C : Hp → Prop := fun H' => ∃ ws : List V, H' D = some (.lst ws) ∧ ws.length = i + 1 ∧ (∀ (j : Nat) (v : V), ws[j]? = some v → Pv j v) ∧ BoxAt H' p (N + (i + 1) * M) ∧ Ext1 p H H'
    have key := hs i x Ha Hb (fun v' H4 => ∃ acc, H4 D = some (.lst acc) ∧ acc.length < sizeLine ∧ C (upd H4 D (.lst (acc ++ [v'])))) hi hB E y ?_
    · have e : (fun (σ2 : L2.St) (H2 : Hp) => wipe σ2 vs = wipe σ vs ∧ tYes σ2 H2 fun b H3 => if b = true then te σ2 H3 fun y H4 => ∃ acc, H4 D = some (.lst acc) ∧ acc.length < sizeLine ∧ C (upd H4 D (.lst (acc ++ [y]))) else C H3)
          = fun σ2 H2 => wipe σ2 vs = wipe σ vs ∧ te σ2 H2 fun v' H4 => ∃ acc, H4 D = some (.lst acc) ∧ acc.length < sizeLine ∧ C (upd H4 D (.lst (acc ++ [v']))) := by
        funext σ2 H2
        rw [e_tyes, if_pos rfl]
      show g x (wipe σ vs) Hb fun σ2 H2 => wipe σ2 vs = wipe σ vs ∧ tYes σ2 H2 fun b H3 => if b = true then te σ2 H3 fun y H4 => ∃ acc, H4 D = some (.lst acc) ∧ acc.length < sizeLine ∧ C (upd H4 D (.lst (acc ++ [y]))) else C H3
      rw [e]
      exact key
    · intro v H4 pv hB4 e4
      refine ⟨ws, e4 _ _ nD f, by omega, ws ++ [v], upd_same, by simp [lw], fun j u hu => ?_, hB4.keep (H' := H4) nD, fun a o na ha => ?_⟩
      · by_cases hj : j < ws.length
        · rw [List.getElem?_append_left hj] at hu
          exact pw j u hu
        · have : j = ws.length := by
            have := (List.getElem?_eq_some_iff.mp hu).1
            simp at this
            omega
          subst this
          rw [List.getElem?_concat_length] at hu
          cases hu
          rw [lw]
          exact pv
      · rw [upd_ne (ne_of_none ha hD)]
        exact e4 a o na (E a o na ha)
  · rintro H' ⟨ws, f, lw, pw, hB, E⟩
    exact hd ws H' lw pw f hB E
end
/-- drawn signs, as a text -/
theorem ones_of {P : Nat → Bool} : ∀ (ws : List V), (∀ (i : Nat) (v : V), ws[i]? = some v → ∃ c, P c = true ∧ v = V.str ⟨#[c]⟩) → ∃ l : List Nat, (∀ c ∈ l, P c = true) ∧ l.length = ws.length ∧ ws = l.map fun c => V.str ⟨#[c]⟩
  | [], _ => ⟨[], by simp, rfl, rfl⟩
  | w :: r, h => by
    obtain ⟨c, hc, rfl⟩ := h 0 w rfl
    obtain ⟨l, hl, ll, rfl⟩ := ones_of r fun i v hv => h (i + 1) v (by simpa using hv)
    refine ⟨c :: l, fun x hx => ?_, (by rw [List.length_cons, List.length_cons, ll]), rfl⟩
    rcases List.mem_cons.mp hx with rfl | hx
    · exact hc
    · exact hl x hx
theorem ones_sum (l : List Nat) : ((l.map fun c => (⟨#[c]⟩ : Str)).map fun x => x.length).sum = l.length := by
  induction l with
  | nil => rfl
  | cons a r ih =>
    simp only [List.map_cons, List.sum_cons, ih, List.length_cons]
    show 1 + _ = _
    omega
theorem join_ones (l : List Nat) : Txt.join (Str.ofString "") (l.map fun c => (⟨#[c]⟩ : Str)) = tx l := by
  have : Str.ofString "" = Str.empty := by decide +kernel
  rw [this, join_signs]
  rfl
/-- a sign of a text, by its place -/
theorem sign_at {A : Str} {P : Nat → Bool} (h : (sg A).all P = true) {d : Int} (h0 : 0 ≤ d) (h1 : d < (A.length : Int)) : ∃ c, P c = true ∧ atI A.cps.toList d = some c := by
  obtain ⟨j, rfl⟩ : ∃ j : Nat, d = (j : Int) := ⟨d.toNat, by omega⟩
  have hj : j < (sg A).length := by rw [sg_len]; omega
  exact ⟨(sg A)[j], List.all_eq_true.mp h _ (List.getElem_mem hj), atI_nat (List.getElem?_eq_getElem hj)⟩
/-- an item of a menu, by its place -/
theorem menu_at {xs : List V} {d : Int} (h0 : 0 ≤ d) (h1 : d < (xs.length : Int)) : ∃ j v, d = ((j : Nat) : Int) ∧ xs[j]? = some v ∧ atI xs d = some v := by
  obtain ⟨j, rfl⟩ : ∃ j : Nat, d = (j : Int) := ⟨d.toNat, by omega⟩
  have hj : j < xs.length := by omega
  exact ⟨j, xs[j], rfl, List.getElem?_eq_getElem hj, atI_nat (List.getElem?_eq_getElem hj)⟩
end Nv
namespace Nv
open PySem L2
/-- an item of a menu -/
theorem r_menu {K : PySem.W.Frag} {H : Hp} {R : VK} {xs : List V} {m : Addr} {e : Int} (f : H m = some (.lst xs)) (e0 : 0 ≤ e) (e1 : e < (xs.length : Int)) (q : ∀ v ∈ xs, R v H) : rIxL K (.ref m) (.int e) H R := by
  obtain ⟨j, v, _, hv, hat⟩ := menu_at e0 e1
  exact r_ixL (.of f) hat (q v (List.mem_of_getElem? hv))
end Nv
namespace Nv
open PySem L2
theorem big_log {i : Int} (h : i.natAbs < 10 ^ 500) : i.natAbs.log2 < 1920 := by
  by_cases h0 : i.natAbs = 0
  · rw [h0]
    decide +kernel
  · rw [Nat.log2_lt h0]
    exact Nat.lt_of_lt_of_le h (by decide +kernel)
theorem big_len {i : Int} (h : i.natAbs < 10 ^ 500) : (Str.ofString (toString i)).length ≤ 510 := by
  have h1 := int_text_length_le10 (a := i) (k := 500) (by decide) (by omega)
  have e : (Str.ofString (toString i)).length = (toString i).length := ofString_length _
  omega
end Nv

namespace Nv
open PySem PySem.Spec PyProof.Rows L2

/-! own exceptions that are made with keywords -/
section
variable {M : Model} {prog : Program} {w : World} {A : Around} {E : Value → Shared → Prop} {R : Result → Shared → Prop} {h : Heap} {g : Array GenState} {d : Drawn} {t : Nat} {os : OsState} {nm q : Str} {C N : Addr} {bs bm bmB : List Value} {hdct : Bool} {sn : List Str}
  {sub : List Value} {ab : Bool} {col : Option Bool} {dd : Option Addr} {k0 k1 k2 k3 k5 : Option Value} {B newId initId : String} {kw : List (Str × Value)}
theorem checkArgs_any {id full short : String} {rc : Manifest.Receiver} {ps : List Manifest.Param} {xs : List Value} : Bind.checkArgs id ⟨.any, full, short, rc, ps⟩ ⟨xs, kw⟩ = Bind.checkArgs id ⟨.any, full, short, rc, ps⟩ ⟨xs, []⟩ := by
  cases kw <;> rfl
theorem check_same (F : ExcBaseFacts B newId initId bmB) {rest : List Value} : checkBuiltinCall newId ⟨.ref C :: rest, kw⟩ = checkBuiltinCall newId ⟨.ref C :: rest, []⟩ := by
  unfold checkBuiltinCall
  simp only [F.newKind, F.newSplit, F.newRow]
  simp only [checkArgs_any (kw := kw)]
theorem check_newK (F : ExcBaseFacts B newId initId bmB) (hb : ∀ X : String, bm.contains (Value.type X) = bmB.contains (Value.type X)) {rest : List Value} {Q : Unit → Shared → Prop} (hC : h.get? C = some (excClassObj nm q C N bs bm hdct sn sub ab col dd k0 k1 k2 k3 k5 newId))
    (hq : Q () ⟨h, g, d, t, os⟩) : wpAny M A (checkBuiltinCall newId ⟨.ref C :: rest, kw⟩) Q E ⟨h, g, d, t, os⟩ := by
  rw [check_same F]
  exact PySem.HandSPX.check_new_own F hb hC hq
theorem new_ownK (F : ExcBaseFacts B newId initId bmB) (hb : ∀ X : String, bm.contains (Value.type X) = bmB.contains (Value.type X)) {rest : List Value} (hC : h.get? C = some (excClassObj nm q C N bs bm hdct sn sub ab col dd k0 k1 k2 k3 k5 newId))
    (hR : R (.ok (.ret (.ref (h.objs.size + 1)))) ⟨(h.push (PySem.W.kdv_tup rest)).push (PySem.HandSPX.excO C h.objs.size), g, d, t, os⟩) (hl : rest.length ≤ sizeLine) :
    codeAny (model prog w) A (Code.builtin newId ⟨.ref C :: rest, kw⟩) R ⟨h, g, d, t, os⟩ := by
  refine codeAny_builtinAt F.entry ?_
  unfold Builtin.«BaseException.__new__»
  refine PySem.wpAt_bind (PySem.wpAt_bind (m := stack) (PySem.wpAt_stack fun p below => ?_))
  have mem : ∀ X : String, (Value.ref C :: bm).contains (Value.type X) = bmB.contains (Value.type X) := fun X => by
    rw [List.contains_cons, hb X]
    rfl
  refine PySem.wpAt_of_wpAny (wpAny_ite_true (decide_eq_true F.ends) (wpAny_pure (PySem.wpAt_of_wpAny ?_)))
  rw [F.owner]
  show wpAny _ _ (isType (Value.ref C) >>= _) _ _ _
  refine wpAny_bind (wpAny_bind (m := loadHead C) (wpAny_loadPart_at hC (wpAny_pure ?_)))
  refine wpAny_ite_false rfl ?_
  refine wpAny_bind (wpAny_isSubtype_exc hC ?_)
  rw [mem, F.hasB]
  refine wpAny_ite_false rfl ?_
  refine wpAny_bind (wpAny_madeHere_exc F.canon hC ?_)
  refine wpAny_bind (wpAny_bind (wpAny_isSubtype_exc hC ?_))
  rw [mem, F.noAttr]
  refine wpAny_ite_false rfl (wpAny_bind (wpAny_isSubtype_exc hC ?_))
  rw [mem, F.noName]
  refine wpAny_ite_false rfl (wpAny_pure ?_)
  show wpAny _ _ (newTuple rest >>= _) _ _ _
  refine wpAny_bind ?_
  have sz : ¬ (rest.toArray.size > sizeLine) := by
    rw [List.size_toArray]
    omega
  show wpAny _ _ (if rest.toArray.size > sizeLine then _ else _) _ _ _
  rw [if_neg sz]
  refine wpAny_bind (wpAny_alloc' (wpAny_pure ?_))
  refine wpAny_bind ?_
  have en : newObj (Value.ref C) (Data.fields (#[Value.ref h.objs.size, Value.none, Value.none, Value.none, Value.bool false, Value.none] ++ (List.replicate 0 (rawInt 0)).toArray)) = newObjAsIs (Value.ref C) (Data.fields (#[Value.ref h.objs.size, Value.none, Value.none, Value.none, Value.bool false, Value.none] ++ (List.replicate 0 (rawInt 0)).toArray)) := by
    unfold newObj
    exact if_neg (by rw [sizeLine_eq]; simp)
  rw [en]
  refine wpAny_bind (wpAny_alloc' ?_)
  refine wpAny_bind (wpAny_bind (wpAny_load' (o := excClassObj nm q C N bs bm hdct sn sub ab col dd k0 k1 k2 k3 k5 newId) (Heap.get?_push_of_some _ (Heap.get?_push_of_some _ hC)) (wpAny_pure ?_)))
  refine wpAny_ite_false rfl (wpAny_pure (wpAny_pure ?_))
  have e : (h.push (PySem.W.kdv_tup rest)).objs.size = h.objs.size + 1 := by simp
  show R (Except.ok (Flow.ret (Value.ref (h.push (PySem.W.kdv_tup rest)).objs.size))) _
  rw [e]
  exact hR
/-- C(..) itself: type.__call__ -/
theorem type_call_ownK (F : ExcBaseFacts B newId initId bmB) (hb : ∀ X : String, bm.contains (Value.type X) = bmB.contains (Value.type X)) {rest : List Value} {fI : Addr} {Q : PySem.Fin → Shared → Prop} (hC : h.get? C = some (excClassObj nm q C N bs bm hdct sn sub ab col dd k0 k1 k2 k3 k5 newId))
    (hi : PySem.W.Looks (model prog w) h (typeLookup (.ref C) (Str.ofString "__init__")) (some (.ref fI))) (hs : ∀ self : Value, PySem.W.Looks (model prog w) h (bindSpecial (.ref fI) self) (.ref fI, [self])) (hl : rest.length ≤ sizeLine)
    (hr : codeAny (model prog w) A (Code.call (.ref fI) ⟨.ref (h.objs.size + 1) :: rest, kw⟩) (fun r s' => match r with
      | .ok (.ret v) => v = Value.none ∧ Q (.done (.ret (.ref (h.objs.size + 1)))) s'
      | .ok _ => False
      | .error e => E e s') ⟨(h.push (PySem.W.kdv_tup rest)).push (PySem.HandSPX.excO C h.objs.size), g, d, t, os⟩) :
    wpAny (model prog w) A (Builtin.«type.__call__» ⟨.ref C :: rest, kw⟩) Q E ⟨h, g, d, t, os⟩ := by
  unfold Builtin.«type.__call__»
  refine wpAny_ite_false rfl ?_
  refine wpAny_bind (wpAny_bind (m := classData C) (wpAny_bind (wpAny_load' hC (wpAny_pure (wpAny_pure ?_)))))
  refine wpAny_ite_false rfl ?_
  refine wpAny_bind (wpAny_madeBy_exc hC ?_)
  have kk : ∀ b o, h.get? b = some o → ((h.push (PySem.W.kdv_tup rest)).push (PySem.HandSPX.excO C h.objs.size)).get? b = some o := fun b o e => Heap.get?_push_of_some _ (Heap.get?_push_of_some _ e)
  have hget : ((h.push (PySem.W.kdv_tup rest)).push (PySem.HandSPX.excO C h.objs.size)).get? (h.objs.size + 1) = some (PySem.HandSPX.excO C h.objs.size) := by heap_get
  refine wpAny_bind (wpAny_pure ?_)
  refine wpAny_bind (wpAny_holding (wpAny_call (codeAny_call_builtin_code (Code.quiet_builtin _ F.toExcCallFacts.quiet) (check_newK F hb hC (new_ownK F hb hC ?_ hl)))))
  refine wpAny_bind (m := isInstance (.ref (h.objs.size + 1)) (.ref C)) (wpAny_bind (m := typeOf _) (wpAny_bind (wpAny_loadPart_at hget (wpAny_pure ?_))))
  refine wpAny_isSubtype_exc (kk _ _ hC) ?_
  have own : (Value.ref C :: bm).contains (Value.ref C) = true := by simp
  rw [own]
  refine wpAny_ite_false rfl ?_
  refine wpAny_bind (wpAny_holding ?_)
  refine wpAny_bind (m := specialOf _ _) (wpAny_bind (m := typeOf _) (wpAny_bind (wpAny_loadPart_at hget (wpAny_pure ?_))))
  refine PySem.W.Looks.at (hi.keeps kk) ?_
  refine wpAny_holding ?_
  refine wpAny_bind (PySem.W.Looks.at ((hs _).keeps kk) ?_)
  refine wpAny_bind (wpAny_call (codeAny_mono hr fun r s' hq => ?_))
  cases r with
  | error er => exact hq
  | ok fl =>
    cases fl with
    | ret u =>
      obtain ⟨e, q⟩ := hq
      subst e
      exact wpAny_pure (wpAny_ite_false rfl (wpAny_pure q))
    | next => exact hq.elim
    | brk => exact hq.elim
    | cont => exact hq.elim
theorem checkArgs_hand {id full short : String} {rc : Manifest.Receiver} {ps : List Manifest.Param} {xs : List Value} : Bind.checkArgs id ⟨.hand, full, short, rc, ps⟩ ⟨xs, kw⟩ = Bind.checkArgs id ⟨.hand, full, short, rc, ps⟩ ⟨xs, []⟩ := by
  cases kw <;> rfl
theorem check_tc {rest : List Value} : checkBuiltinCall "type.__call__" ⟨.ref C :: rest, kw⟩ = checkBuiltinCall "type.__call__" ⟨.ref C :: rest, []⟩ := by
  obtain ⟨full, short, rc, ps, hs⟩ : ∃ full short rc ps, Manifest.signature? "type.__call__" = some ⟨.hand, full, short, rc, ps⟩ := ⟨_, _, _, _, rfl⟩
  unfold checkBuiltinCall
  simp only [tc_kind, tc_split, hs]
  simp only [checkArgs_hand (kw := kw)]
/-- C(.., k=..) -/
theorem call_ownK (F : ExcBaseFacts B newId initId bmB) (hb : ∀ X : String, bm.contains (Value.type X) = bmB.contains (Value.type X)) {rest : List Value} {fI : Addr} (hC : h.get? C = some (excClassObj nm q C N bs bm hdct sn sub ab col dd k0 k1 k2 k3 k5 newId))
    (hi : PySem.W.Looks (model prog w) h (typeLookup (.ref C) (Str.ofString "__init__")) (some (.ref fI))) (hs : ∀ self : Value, PySem.W.Looks (model prog w) h (bindSpecial (.ref fI) self) (.ref fI, [self])) (hl : rest.length ≤ sizeLine)
    (hr : codeAny (model prog w) (A.under (Code.builtin "type.__call__" ⟨.ref C :: rest, kw⟩)) (Code.call (.ref fI) ⟨.ref (h.objs.size + 1) :: rest, kw⟩) (PySem.W.InitBack (h.objs.size + 1) R) ⟨(h.push (PySem.W.kdv_tup rest)).push (PySem.HandSPX.excO C h.objs.size), g, d, t, os⟩) :
    codeAny (model prog w) A (Code.call (.ref C) ⟨rest, kw⟩) R ⟨h, g, d, t, os⟩ := by
  refine codeAny_of_tree ?_
  show wpAny _ _ (callAny (.ref C) ⟨rest, kw⟩) _ _ _
  refine wpAny_bind (m := load C) (wpAny_load' hC ?_)
  have ty : Shared.TypeIs ⟨h, g, d, t, os⟩ (.ref C) "type" := ⟨_, hC, rfl⟩
  refine wpAny_bind (m := specialOf (.ref C) (Str.ofString "__call__")) (wpAny_specialOf ty tc_lookup ?_)
  refine wpAny_bind (m := bindSpecial _ _) (wpAny_of_eq (tc_bind _) (wpAny_pure ?_))
  refine ⟨rfl, ?_⟩
  refine codeAny_call_builtin_at (Code.quiet_builtin _ (by decide +kernel)) entry_typeCall ?_
  show wpAny _ _ (checkBuiltinCall "type.__call__" ⟨.ref C :: rest, kw⟩) _ _ _
  rw [check_tc]
  refine wpAny_check_type_call_sub hC (type_call_ownK F hb hC hi hs hl (codeAny_mono hr fun r s' hq => ?_))
  cases r with
  | error er => exact hq
  | ok fl =>
    cases fl with
    | ret u => exact hq
    | next => exact hq
    | brk => exact hq
    | cont => exact hq
end
end Nv

namespace Nv
open PySem PySem.Spec PyProof.Rows L2

/-! own exceptions as values, made with any arguments -/
/-- what stands of an own error class: at C, its __init__ at fI -/
structure ErrC (K : PySem.W.Frag) (mg : Str → Option Value) (x : Str) (C fI : Addr) : Prop where
  gC : mg x = some (.ref C)
  T : OexC K C
  iC : PySem.W.findIn K (.ref C) "__init__" = some (some (.ref fI))
  tI : PySem.W.typeIn K (.ref fI) = some (.type "function")
  nv : PySem.W.NvCls K C
theorem ErrT.c {K : PySem.W.Frag} {mg : Str → Option Value} {x f : Str} {C fI : Addr} (T : ErrT K mg x f C fI) : ErrC K mg x C fI := ⟨T.gC, T.T, T.iC, T.tI, T.nv⟩
/-- keywords in the order ks, of which π makes the order of the parameters -/
def KwP (fd : FuncData) (ps ks : List Str) (n : Nat) (π : List Value → List Value) : Prop :=
  ∀ us ws : List Value, us.length = n → ws.length = ks.length → bindArgs fd ⟨us, ks.zip ws⟩ = pure (ps.zip (us ++ π ws))
/-- C(..) as a value -/
def tErrG (C : Addr) (sp : Sp) (π : List V → List V) (t : TA) : TE := fun σ H Q => t σ H fun vs H1 => ∀ a, H1 a = none → sp (.ref a :: π vs) (upd H1 a (exo a C none)) (fun w H2 => w = .non ∧ Q (.ref a) H2) (fun _ _ _ => False)
theorem e_errG {C : Addr} {sp : Sp} {π : List V → List V} {t : TA} {σ : L2.St} {H : Hp} {Q : VK} : tErrG C sp π t σ H Q = t σ H (fun vs H1 => ∀ a, H1 a = none → sp (.ref a :: π vs) (upd H1 a (exo a C none)) (fun w H2 => w = .non ∧ Q (.ref a) H2) (fun _ _ _ => False)) := rfl
section
variable {X : Cx} {x : Str} {C fI : Addr} {fd : FuncData} {ps ks : List Str} {sp : Sp} {e : Expr} {es : List Expr} {kws : List Keyword} {p pos : Pos} {t t2 : TA}
theorem run_err {pins : List (Addr × Obj)} {σ : L2.St} {H : Hp} {s : Shared} {Q : VK} {us us2 : List Value} {vs : List V} {kw : List (Str × Value)} (T : ErrC X.K X.mg x C fI) (F1 : FnOk X.prog X.w X.K X.mg X.base CX0 1 fI fd ps sp) (hr : Room 2 X.A)
    (hb : ∀ (s : Shared) (u : Value), X.K.In s.heap → BindsTo s fd ⟨u :: us, kw⟩ (ps.zip (u :: us2))) (I : Inv X pins σ H s) (r : Vals vs us2) (hus : us.length ≤ sizeLine)
    (h : ∀ a, H a = none → sp (.ref a :: vs) (upd H a (exo a C none)) (fun w H2 => w = .non ∧ Q (.ref a) H2) (fun _ _ _ => False)) :
    wpAny (model X.prog X.w) X.A (call (.ref C) us kw) (EP X pins σ Q) X.xe s := by
  obtain ⟨nm, q, N, bs, bm, sn, sub, ab, col, dd, k0, k1, k2, k3, k5, hC, hbm⟩ := T.T.cls
  obtain ⟨hp, g, dr, tk, os⟩ := s
  have hsz : hp.objs.size ≤ hp.objs.size + 1 := Nat.le_succ _
  have hn : H (hp.objs.size + 1) = none := I.hok.fresh hsz
  have kk : ∀ b o, hp.get? b = some o → ((hp.push (PySem.W.kdv_tup us)).push (PySem.HandSPX.excO C hp.objs.size)).get? b = some o := fun b o e => Heap.get?_push_of_some _ (Heap.get?_push_of_some _ e)
  have hget : ((hp.push (PySem.W.kdv_tup us)).push (PySem.HandSPX.excO C hp.objs.size)).get? (hp.objs.size + 1) = some (PySem.HandSPX.excO C hp.objs.size) := by heap_get
  have I2 : Inv X pins σ (upd H (hp.objs.size + 1) (exo (hp.objs.size + 1) C none)) ⟨(hp.push (PySem.W.kdv_tup us)).push (PySem.HandSPX.excO C hp.objs.size), g, dr, tk, os⟩ :=
    I.laid (t' := tk) (a := hp.objs.size + 1) (o := exo (hp.objs.size + 1) C none) (h' := (hp.push (PySem.W.kdv_tup us)).push (PySem.HandSPX.excO C hp.objs.size)) kk hsz (exo_ok hget)
  have r2 : Vals (V.ref (hp.objs.size + 1) :: vs) (Value.ref (hp.objs.size + 1) :: us2) := .cons rfl r
  refine wpAny_call (call_ownK F.excBase_ValueError (fun Y => PySem.HandSPX.refsVE_contains Y bm hbm) (I.kIn _ _ hC) (PySem.W.looks_findIn I.kIn T.iC) (fun self => PySem.W.bind_fn I.kIn self T.tI) hus
    (codeAny_mono (F1.run _ X.stack _ _ ⟨Value.ref (hp.objs.size + 1) :: us, kw⟩ (Value.ref (hp.objs.size + 1) :: us2) _ _ (fun _ _ _ => False) (hr.make C us kw) (I2.env0.make C us kw) (hb _ _ I2.kIn) r2 (h _ hn)) fun r s' hq' => ?_))
  cases r with
  | error er => exact pass0 pins σ _ _ er s' I2 hq'
  | ok fl =>
    cases fl with
    | ret u =>
      obtain ⟨w, H2, J, rv, ew, q2⟩ := I2.after hq'
      subst ew
      exact ⟨rv, .ref (hp.objs.size + 1), H2, J, rfl, q2⟩
    | next => exact False.elim hq'
    | brk => exact False.elim hq'
    | cont => exact False.elim hq'
theorem err_len {us : List Value} {vs : List V} {H : Hp} {Q : VK} {pins : List (Addr × Obj)} {σ : L2.St} {s : Shared} (F1 : FnOk X.prog X.w X.K X.mg X.base CX0 1 fI fd ps sp) (I : Inv X pins σ H s) (r : Vals vs us)
    (h : ∀ a, H a = none → sp (.ref a :: vs) (upd H a (exo a C none)) (fun w H2 => w = .non ∧ Q (.ref a) H2) (fun _ _ _ => False)) : us.length + 1 = ps.length := by
  rw [← r.length]
  exact F1.len _ _ _ _ (h (s.heap.objs.size + 1) (I.hok.fresh (Nat.le_succ _)))
/-- C(e, ..) -/
theorem pe_errP (T : ErrC X.K X.mg x C fI) (F1 : FnOk X.prog X.w X.K X.mg X.base CX0 1 fI fd ps sp) (b : Binds X.K fd ps []) (hr : Room 2 X.A) (hsz : ps.length ≤ 100) (ha : PA X (e :: es) t) (hg : Gl X x := by rfl)
    (hdb : (x == ("__debug__" : Str)) = false := by decide) (he : starEach (e :: es) X.env = (false, eval e X.env) :: starEach es X.env := by rfl) (hpl : (backTo pos (starEach es X.env)).any (·.1) = false := by rfl) :
    PE X (.Call (.Name x p) (e :: es) [] pos) (tErrG C sp (fun vs => vs) t) := by
  refine ⟨fun pins s σ H Q I h => ?_⟩
  refine wpAny_Call_Name_kw (ld_glob I hg T.gC ?_ hdb)
  refine PySem.W.callWith_K (h₀ := X.base) I.ok.mod.kin T.T.kC (thn (ha.run pos pins s σ H _ I h) fun us s1 ⟨vs, H1, I1, r, q⟩ => ⟨I1.kIn, ?_⟩) he hpl
  have ll := err_len F1 I1 r q
  have lz : us.length ≤ sizeLine := by
    rw [sizeLine_eq]
    omega
  refine run_err (us := us) (us2 := us) T F1 hr (fun s u z => ?_) I1 r lz q
  have := b s (u :: us) z (by rw [List.append_nil, List.length_cons, ll])
  rw [List.append_nil] at this
  exact this
/-- C(k=e, ..) -/
theorem pe_errK {π : List V → List V} {ρ : List Value → List Value} (T : ErrC X.K X.mg x C fI) (F1 : FnOk X.prog X.w X.K X.mg X.base CX0 1 fI fd ps sp) (b : KwP fd ps ks 1 ρ) (hlen : ps.length = ks.length + 1) (hπ : ∀ vs us, Vals vs us → Vals (π vs) (ρ us)) (hρ : ∀ us, (ρ us).length = us.length) (hr : Room 2 X.A) (ha : PK X kws t) (hg : Gl X x := by rfl)
    (hall : (backToKw pos (keywordEach kws X.env)).all (·.1.isSome) = true := by rfl) (hks : (backToKw pos (keywordEach kws X.env)).filterMap (·.1) = ks := by rfl)
    (hdb : (x == ("__debug__" : Str)) = false := by decide)
    (hpl : ((backTo pos (starEach [] X.env)).any (·.1) || (backToKw pos (keywordEach kws X.env)).any (·.1.isNone)) = false := by rfl) :
    PE X (.Call (.Name x p) [] kws pos) (tErrG C sp π t) := by
  refine ⟨fun pins s σ H Q I h => ?_⟩
  refine wpAny_Call_Name_kw (ld_glob I hg T.gC ?_ hdb)
  refine PySem.W.callWith_KW0 (h₀ := X.base) I.ok.mod.kin T.T.kC hall ?_ hpl
  refine thn (ha.run pos pins s σ H _ I h) ?_
  intro ws s2 ⟨zs, H2, I2, rz, q2⟩
  refine ⟨I2.kIn, ?_⟩
  rw [hks]
  have ll := err_len F1 I2 (hπ _ _ rz) q2
  rw [hρ] at ll
  refine run_err (us := []) (us2 := ρ ws) T F1 hr (fun s u z => .of_eq (b [u] ws rfl (by omega))) I2 (hπ _ _ rz) (by rw [sizeLine_eq]; decide) q2
/-- C(e, .., k=e2, ..) -/
theorem pe_errM {n : Nat} (T : ErrC X.K X.mg x C fI) (F1 : FnOk X.prog X.w X.K X.mg X.base CX0 1 fI fd ps sp) (b : KwP fd ps ks (n + 1) fun ws => ws) (hlen : ps.length = ks.length + 1 + n) (hn : (e :: es).length = n) (hn2 : n ≤ 100) (hr : Room 2 X.A) (ha : PA X (e :: es) t) (hk : PK X kws t2) (hg : Gl X x := by rfl)
    (hall : (backToKw pos (keywordEach kws X.env)).all (·.1.isSome) = true := by rfl) (hks : (backToKw pos (keywordEach kws X.env)).filterMap (·.1) = ks := by rfl)
    (hdb : (x == ("__debug__" : Str)) = false := by decide)
    (he : starEach (e :: es) X.env = (false, eval e X.env) :: starEach es X.env := by rfl)
    (hpl : ((backTo pos (starEach (e :: es) X.env)).any (·.1) || (backToKw pos (keywordEach kws X.env)).any (·.1.isNone)) = false := by rfl) :
    PE X (.Call (.Name x p) (e :: es) kws pos) (tErrG C sp (fun vs => vs) fun σ H Q => t σ H fun vs H1 => vs.length = n ∧ t2 σ H1 fun ws H2 => Q (vs ++ ws) H2) := by
  refine ⟨fun pins s σ H Q I h => ?_⟩
  refine wpAny_Call_Name_kw (ld_glob I hg T.gC ?_ hdb)
  refine PySem.W.callWith_KW (h₀ := X.base) I.ok.mod.kin T.T.kC hall ?_ hpl he
  refine thn (ha.run pos pins s σ H _ I h) ?_
  intro us s1 ⟨vs, H1, I1, r1, lv, h2⟩
  refine thn (hk.run pos pins s1 σ H1 _ I1 h2) ?_
  intro ws s2 ⟨zs, H2, I2, rz, q2⟩
  refine ⟨I2.kIn, ?_⟩
  rw [hks]
  have lu : us.length = n := by rw [← r1.length]; exact lv
  have rr : Vals (vs ++ zs) (us ++ ws) := Vals.append r1 rz
  have ll := err_len F1 I2 rr q2
  rw [List.length_append] at ll
  refine run_err (us := us) (us2 := us ++ ws) T F1 hr (fun s u z => ?_) I2 rr (by rw [lu, sizeLine_eq]; omega) q2
  exact .of_eq (b (u :: us) ws (by simp [lu]) (by omega))
end
end Nv

namespace Nv
open PySem PySem.Spec PyProof.Rows L2

/-! own exceptions as values: whose class they are, and what they keep -/
/-- an own exception of class C with the attributes fs: in the heap, or caught -/
def ExF (pn : List (Addr × Obj)) (H : Hp) (a C : Addr) (fs : List (Str × V)) : Prop :=
  (∃ d, H a = some (exo a C (some d)) ∧ H d = some (exd d fs)) ∨ (fs = [] ∧ H a = some (exo a C none)) ∨
  (∃ oe d vs, (a, oe) ∈ pn ∧ Zc (.ref C) (some d) oe ∧ oe.data = .fields vs ∧ H d = some (.xd fs)) ∨ (∃ oe vs, fs = [] ∧ (a, oe) ∈ pn ∧ Zc (.ref C) none oe ∧ oe.data = .fields vs)
theorem ExF.same {pn : List (Addr × Obj)} {H H' : Hp} {a C : Addr} {fs : List (Str × V)} (h : ExF pn H a C fs) (s : Same H H') : ExF pn H' a C fs := by
  rcases h with ⟨d, h1, h2⟩ | ⟨e, h1⟩ | ⟨oe, d, vs, h1, h2, h3, h4⟩ | ⟨oe, vs, h⟩
  · exact .inl ⟨d, s _ _ h1, s _ _ h2⟩
  · exact .inr (.inl ⟨e, s _ _ h1⟩)
  · exact .inr (.inr (.inl ⟨oe, d, vs, h1, h2, h3, s _ _ h4⟩))
  · exact .inr (.inr (.inr ⟨oe, vs, h⟩))
theorem exf_inst {X : Cx} {pins : List (Addr × Obj)} {σ : L2.St} {H : Hp} {s : Shared} {a C : Addr} {fs : List (Str × V)} (I : Inv X pins σ H s) (h : ExF X.pn H a C fs) :
    ∃ ox od, PySem.W.InstAt s.heap a ox C od ∧ ∀ n v, fs.lookup n = some v → ∃ o u, od = some o ∧ RelV v u ∧ PySem.W.lookIn n o = some (some u) := by
  have at_ns : ∀ {d : Addr} {mA : Str → Option Value}, s.heap.Ns1 d mA → (∀ f, RelO (fs.lookup f) (mA f)) → ∃ o, s.heap.get? d = some o ∧ ∀ n v, fs.lookup n = some v → ∃ o' u, some o = some o' ∧ RelV v u ∧ PySem.W.lookIn n o' = some (some u) := fun {d mA} ns rel => by
    obtain ⟨od, hod, lk⟩ := lookIn_ns ns
    refine ⟨od, hod, fun n v hl => ?_⟩
    have rn := rel n
    rw [hl] at rn
    obtain ⟨w, ew, rw_⟩ := rn.some_of
    exact ⟨od, w, rfl, rw_, by rw [lk n, ew]⟩
  rcases h with ⟨d, h1, h2⟩ | ⟨e, h1⟩ | ⟨oe, d, vs, h1, ⟨z1, z2⟩, h3, h4⟩ | ⟨oe, vs, e, h1, ⟨z1, z2⟩, h3⟩
  · obtain ⟨t1, ho⟩ := exo_at I.hok h1
    obtain ⟨mA, ns, rel⟩ := exd_at I.hok h2
    obtain ⟨o, go, lk⟩ := at_ns ns rel
    exact ⟨{ cls := .ref C, dict := some d, data := .fields #[.ref t1, .none, .none, .none, .bool false, .none] }, some o, ⟨ho, rfl, rfl, go⟩, lk⟩
  · obtain ⟨t1, ho⟩ := exo_at I.hok h1
    subst e
    exact ⟨{ cls := .ref C, dict := none, data := .fields #[.ref t1, .none, .none, .none, .bool false, .none] }, none, ⟨ho, rfl, rfl, trivial⟩, fun n v hl => by cases hl⟩
  · have P1 := I.pin (a, oe) (List.mem_append_left _ h1)
    obtain ⟨mA, ns, rel⟩ := I.hok _ _ h4
    obtain ⟨o, go, lk⟩ := at_ns ns rel
    refine ⟨oe, some o, ⟨P1.1, z1, ?_, ?_⟩, lk⟩
    · unfold PySem.W.notCls
      rw [h3]
    · rw [z2]
      exact go
  · have P1 := I.pin (a, oe) (List.mem_append_left _ h1)
    subst e
    refine ⟨oe, none, ⟨P1.1, z1, ?_, ?_⟩, fun n v hl => by cases hl⟩
    · unfold PySem.W.notCls
      rw [h3]
    · rw [z2]
      trivial
/-- is an own exception of a class, own or built-in? -/
def rIsiX (K : PySem.W.Frag) (pn : List (Addr × Obj)) : List V → Hp → VK → Prop := fun xs H Q => ∃ (a C : Addr) (fs : List (Str × V)) (c : V) (cv : Value) (b : Bool), xs = [.ref a, c] ∧ ExF pn H a C fs ∧ PySem.W.NvCls K C ∧ ClsV c cv ∧ PySem.W.kitOne K (.ref C) cv = some b ∧ Q (.bl b) H
theorem clsv_val {c : V} {cv u : Value} (h : ClsV c cv) (r : RelV c u) : u = cv := by
  cases h with
  | ty n => exact r
  | own C => exact r
theorem call_isiX {X : Cx} : CallR X (.builtin "isinstance") (rIsiX X.K X.pn) := by
  intro pins s σ H xs us Q I r h
  obtain ⟨a, C, fs, c, cv, b, rfl, ex, n, hc, e, q⟩ := h
  obtain ⟨u1, u2, rfl, r1, r2⟩ := vals2 r
  cases (show u1 = Value.ref a from r1)
  cases clsv_val hc r2
  obtain ⟨ox, od, J, _⟩ := exf_inst I ex
  exact PySem.W.kia_one (PySem.W.nv_kit n) I.kIn ⟨od, J⟩ e (fun z => nomatch z) fun tk => ⟨.bl b, H, I.tok tk, rfl, q⟩
/-- .. of one of some classes -/
def rIsiXT (K : PySem.W.Frag) (pn : List (Addr × Obj)) : List V → Hp → VK → Prop := fun xs H Q => ∃ (a C tp : Addr) (fs : List (Str × V)) (cs : List V) (us : List Value) (b : Bool), xs = [.ref a, .ref tp] ∧ ExF pn H a C fs ∧ PySem.W.NvCls K C ∧ H tp = some (.tup cs) ∧ Paired ClsV cs us ∧ PySem.W.kitAny K (.ref C) us = some b ∧ Q (.bl b) H
theorem call_isiXT {X : Cx} : CallR X (.builtin "isinstance") (rIsiXT X.K X.pn) := by
  intro pins s σ H xs us Q I r h
  obtain ⟨a, C, tp, fs, cs, ks, b, rfl, ex, n, ht, pr, e, q⟩ := h
  obtain ⟨u1, u2, rfl, r1, r2⟩ := vals2 r
  cases (show u1 = Value.ref a from r1)
  cases (show u2 = Value.ref tp from r2)
  obtain ⟨ox, od, J, _⟩ := exf_inst I ex
  obtain ⟨its, r3, ⟨o, e2, o1, m, o3⟩, hl2⟩ := I.tuple (.of ht)
  have es : its = ks := by
    have : ∀ {cs : List V} {ks its : List Value}, Paired ClsV cs ks → Vals cs its → its = ks := by
      intro cs
      induction cs with
      | nil =>
        intro ks its p v
        cases p
        cases v
        rfl
      | cons c cs ih =>
        intro ks its p v
        cases p with
        | cons p1 p2 =>
          cases v with
          | cons v1 v2 => rw [clsv_val p1 v1, ih p2 v2]
    exact this pr r3
  subst es
  obtain ⟨oc, od2, oda, os⟩ := o
  simp only at o1 o3
  subst o1
  subst o3
  exact PySem.W.kia_tup (PySem.W.nv_kit n) I.kIn ⟨od, J⟩ e2 e (fun z => nomatch z) fun tk => ⟨.bl b, H, I.tok tk, rfl, q⟩
/-- an attribute of an own exception -/
def tFldE (K : PySem.W.Frag) (pn : List (Addr × Obj)) (te : TE) (n : Str) : TE := fun σ H Q => te σ H fun x H1 => ∃ (a C : Addr) (fs : List (Str × V)) (v : V), x = .ref a ∧ PySem.W.NvCls K C ∧ PySem.W.findIn K (.ref C) n = some none ∧ ExF pn H1 a C fs ∧ fs.lookup n = some v ∧ Q v H1
theorem e_fldE {K : PySem.W.Frag} {pn : List (Addr × Obj)} {te : TE} {n : Str} {σ : L2.St} {H : Hp} {Q : VK} : tFldE K pn te n σ H Q = te σ H (fun x H1 => ∃ (a C : Addr) (fs : List (Str × V)) (v : V), x = .ref a ∧ PySem.W.NvCls K C ∧ PySem.W.findIn K (.ref C) n = some none ∧ ExF pn H1 a C fs ∧ fs.lookup n = some v ∧ Q v H1) := rfl
theorem pe_fldE {X : Cx} {e : Expr} {n : Str} {pos : Pos} {te : TE} (he : PE X e te) (hb : attributeBase e n X.env (eval e X.env) = eval e X.env := by rfl) : PE X (.Attribute e n pos) (tFldE X.K X.pn te n) := by
  refine ⟨fun pins s σ H Q I h => ?_⟩
  refine attr_of hb (thn (he.run pins s σ H _ I h) ?_)
  rintro u s1 ⟨v0, H1, I1, r, a, C, fs, v, rfl, nv, nf, ex, hl, q⟩
  cases (show u = Value.ref a from r)
  obtain ⟨ox, od, J, lk⟩ := exf_inst I1 ex
  obtain ⟨o, w, rfl, rw_, el⟩ := lk n v hl
  exact PySem.HandSPX.exc_get I1.kIn J nv.ga nv.gt nv.sub (PySem.W.findObj_own nv.dct nf rfl el) (handed_of rw_) ⟨v, H1, I1.tok _, rw_, q⟩

/-! classes of own exceptions: all are made below one, which is below ValueError -/
/-- C is an own error class called nm, right below U -/
structure ErrN (K : PySem.W.Frag) (U C : Addr) (nm : Str) : Prop where
  lk : ∃ q N bs sn sub ab col dd k0 k1 k2 k3 k5, K.lookup C = some (excClassObj nm q C N bs [.ref U, .type "ValueError", .type "Exception", .type "BaseException", .type "object"] true sn sub ab col dd k0 k1 k2 k3 k5 "ValueError.__new__")
  ty : PySem.W.typeIn K (.ref C) = some (.type "type")
theorem ErrN.cls {K : PySem.W.Frag} {U C : Addr} {nm : Str} (h : ErrN K U C nm) : ∃ cd, PySem.W.clsIn K C = some cd ∧ cd.name = nm ∧ cd.mro = [.ref C, .ref U, .type "ValueError", .type "Exception", .type "BaseException", .type "object"] := by
  obtain ⟨q, N, bs, sn, sub, ab, col, dd, k0, k1, k2, k3, k5, e⟩ := h.lk
  unfold PySem.W.clsIn
  rw [e]
  exact ⟨_, rfl, rfl, rfl⟩
theorem ErrN.mro {K : PySem.W.Frag} {U C : Addr} {nm : Str} (h : ErrN K U C nm) (v : Value) : PySem.W.subIn K (.ref C) v = some (([.ref C, .ref U, .type "ValueError", .type "Exception", .type "BaseException", .type "object"] : List Value).contains v) := by
  obtain ⟨cd, e, _, m⟩ := h.cls
  show PySem.W.mroIn K C v = _
  unfold PySem.W.mroIn
  rw [e]
  simp [m]
/-- names tell the classes apart -/
theorem ErrN.inj {K : PySem.W.Frag} {U C D : Addr} {n m : Str} (h : ErrN K U C n) (g : ErrN K U D m) (e : C = D) : n = m := by
  subst e
  obtain ⟨c1, e1, n1, _⟩ := h.cls
  obtain ⟨c2, e2, n2, _⟩ := g.cls
  rw [e1] at e2
  cases e2
  rw [← n1, ← n2]
theorem ErrN.one {K : PySem.W.Frag} {U C D : Addr} {n m : Str} (h : ErrN K U C n) (g : ErrN K U D m) (nu : D ≠ U) (nm : n = m → C = D) : PySem.W.kitOne K (.ref C) (.ref D) = some (decide (n = m)) := by
  by_cases e : C = D
  · have := h.inj g e
    subst e
    rw [decide_eq_true this]
    unfold PySem.W.kitOne
    rw [if_pos (by simp)]
  · rw [decide_eq_false fun q => e (nm q)]
    obtain ⟨cd, e1, _, _⟩ := g.cls
    unfold PySem.W.kitOne
    rw [if_neg (by simpa using e)]
    show (if ((PySem.W.clsIn K D).isSome && PySem.W.typeIn K (.ref D) == some (.type "type")) = true then PySem.W.subIn K (.ref C) (.ref D) else none) = _
    rw [e1, g.ty, if_pos (by rfl), h.mro]
    simp [Ne.symm e, nu]
theorem ErrN.below {K : PySem.W.Frag} {U C : Addr} {n : Str} (h : ErrN K U C n) (cu : (PySem.W.clsIn K U).isSome = true) (tu : PySem.W.typeIn K (.ref U) = some (.type "type")) : PySem.W.kitOne K (.ref C) (.ref U) = some true := by
  unfold PySem.W.kitOne
  split
  · rfl
  · show (if ((PySem.W.clsIn K U).isSome && PySem.W.typeIn K (.ref U) == some (.type "type")) = true then PySem.W.subIn K (.ref C) (.ref U) else none) = _
    rw [cu, tu, if_pos (by rfl), h.mro]
    simp
theorem ErrN.value {K : PySem.W.Frag} {U C : Addr} {n : Str} (h : ErrN K U C n) : PySem.W.kitOne K (.ref C) (.type "ValueError") = some true :=
  kit_type (by decide +kernel) (by
    rw [h.mro]
    simp)
end Nv

namespace Nv
open PySem PySem.Spec PyProof.Rows L2

/-! own exceptions that are raised, made with any arguments -/
/-- a new own exception, raised where nothing is handled: its context is None -/
theorem mk_endN {X : Cx} {pins : List (Addr × Obj)} {σ : L2.St} {H H2 : Hp} {Q : XK} {hp hp2 h2 : Heap} {g g2 : Array GenState} {dr dr2 : Drawn} {tk tk2 : Nat} {os os2 : OsState} {a C d : Addr} {fs : List (Str × V)} (T : Raises X (.ref C)) (I : Inv X pins σ H ⟨hp, g, dr, tk, os⟩) (le : hp.objs.size ≤ a) (kk : ∀ b o, hp.get? b = some o → hp2.get? b = some o)
    (hu : Un (frs X.stack) [] (upd H a (exo a C none)) H2 hp2 h2) (hk : HOk X.prog X.w H2 h2) (ho : os2 = os) (bare : AllBare g2) (e1 : H2 a = some (exo a C (some d))) (e2 : H2 d = some (exd d fs)) (e3 : H d = none) (q : Q (.ref C) (some d) (upd (del H2 a) d (.xd fs))) : L2N.MkP X pins σ Q (.ref a) ⟨h2, g2, dr2, tk2, os2⟩ := by
  obtain ⟨t, G, J, k, free, stands, gone⟩ := mk_end0 (d2 := dr2) (t2 := tk2) I le kk hu hk ho bare e1 e2 e3
  refine ⟨a, _, _, ⟨G, g2, dr2, tk2, os2⟩, _, .ref C, some d, rfl, J, k, free, stands, ⟨rfl, rfl, fun vs e => ?_⟩, rfl, rfl, gone, rfl, bare, T, q⟩
  cases e
  rfl
/-- raise C(..) -/
def tMkG (C : Addr) (sp : Sp) (π : List V → List V) (t : TA) : L2.St → Hp → XK → Prop := fun σ H Q => t σ H fun vs H1 => ∀ a, H1 a = none → sp (.ref a :: π vs) (upd H1 a (exo a C none)) (fun v H2 => v = .non ∧ ∃ d fs, H2 a = some (exo a C (some d)) ∧ H2 d = some (exd d fs) ∧ H1 d = none ∧ Q (.ref C) (some d) (upd (del H2 a) d (.xd fs))) (fun _ _ _ => False)
section
variable {X : Cx} {x : Str} {C fI : Addr} {fd : FuncData} {ps ks : List Str} {sp : Sp} {e : Expr} {es : List Expr} {kws : List Keyword} {p pos : Pos} {t t2 : TA}
theorem run_mk {pins : List (Addr × Obj)} {σ : L2.St} {H : Hp} {s : Shared} {Q : XK} {us us2 : List Value} {vs : List V} {kw : List (Str × Value)} (T : ErrC X.K X.mg x C fI) (F1 : FnOk X.prog X.w X.K X.mg X.base CX0 1 fI fd ps sp) (hr : Room 2 X.A)
    (hb : ∀ (s : Shared) (u : Value), X.K.In s.heap → BindsTo s fd ⟨u :: us, kw⟩ (ps.zip (u :: us2))) (I : Inv X pins σ H s) (r : Vals vs us2) (hus : us.length ≤ sizeLine)
    (h : ∀ a, H a = none → sp (.ref a :: vs) (upd H a (exo a C none)) (fun v H2 => v = .non ∧ ∃ d fs, H2 a = some (exo a C (some d)) ∧ H2 d = some (exd d fs) ∧ H d = none ∧ Q (.ref C) (some d) (upd (del H2 a) d (.xd fs))) (fun _ _ _ => False)) :
    wpAny (model X.prog X.w) X.A (call (.ref C) us kw) (L2N.MkP X pins σ Q) X.xe s := by
  obtain ⟨nm, q, N, bs, bm, sn, sub, ab, col, dd, k0, k1, k2, k3, k5, hC, hbm⟩ := T.T.cls
  obtain ⟨hp, g, dr, tk, os⟩ := s
  have hsz : hp.objs.size ≤ hp.objs.size + 1 := Nat.le_succ _
  have hn : H (hp.objs.size + 1) = none := I.hok.fresh hsz
  have kk : ∀ b o, hp.get? b = some o → ((hp.push (PySem.W.kdv_tup us)).push (PySem.HandSPX.excO C hp.objs.size)).get? b = some o := fun b o e => Heap.get?_push_of_some _ (Heap.get?_push_of_some _ e)
  have hget : ((hp.push (PySem.W.kdv_tup us)).push (PySem.HandSPX.excO C hp.objs.size)).get? (hp.objs.size + 1) = some (PySem.HandSPX.excO C hp.objs.size) := by heap_get
  have I2 : Inv X pins σ (upd H (hp.objs.size + 1) (exo (hp.objs.size + 1) C none)) ⟨(hp.push (PySem.W.kdv_tup us)).push (PySem.HandSPX.excO C hp.objs.size), g, dr, tk, os⟩ :=
    I.laid (t' := tk) (a := hp.objs.size + 1) (o := exo (hp.objs.size + 1) C none) (h' := (hp.push (PySem.W.kdv_tup us)).push (PySem.HandSPX.excO C hp.objs.size)) kk hsz (exo_ok hget)
  have r2 : Vals (V.ref (hp.objs.size + 1) :: vs) (Value.ref (hp.objs.size + 1) :: us2) := .cons rfl r
  refine wpAny_call (call_ownK F.excBase_ValueError (fun Y => PySem.HandSPX.refsVE_contains Y bm hbm) (I.kIn _ _ hC) (PySem.W.looks_findIn I.kIn T.iC) (fun self => PySem.W.bind_fn I.kIn self T.tI) hus
    (codeAny_mono (F1.run _ X.stack _ _ ⟨Value.ref (hp.objs.size + 1) :: us, kw⟩ (Value.ref (hp.objs.size + 1) :: us2) _ _ (fun _ _ _ => False) (hr.make C us kw) (I2.env0.make C us kw) (hb _ _ I2.kIn) r2 (h _ hn)) fun r s' hq' => ?_))
  cases r with
  | error er => exact (pass0 pins σ _ _ er s' I2 hq' : _)
  | ok fl =>
    cases fl with
    | ret u =>
      obtain ⟨v, H2, ho, hb2, hu, hk, rv, ev, dx, fs, e1, e2, e3, q2⟩ := hq'
      subst ev
      refine ⟨rv, ?_⟩
      obtain ⟨hp', g', dr', tk', os'⟩ := s'
      exact mk_endN (raises_own T.T.exC T.T.tyC) I hsz kk hu hk ho hb2 e1 e2 e3 q2
    | next => exact False.elim hq'
    | brk => exact False.elim hq'
    | cont => exact False.elim hq'
theorem mk_len {us : List Value} {vs : List V} {H : Hp} {Q : V → Hp → Prop} {pins : List (Addr × Obj)} {σ : L2.St} {s : Shared} (F1 : FnOk X.prog X.w X.K X.mg X.base CX0 1 fI fd ps sp) (I : Inv X pins σ H s) (r : Vals vs us)
    (h : ∀ a, H a = none → ∃ Qa : VK, sp (.ref a :: vs) (upd H a (exo a C none)) Qa (fun _ _ _ => False)) : us.length + 1 = ps.length := by
  rw [← r.length]
  obtain ⟨Qa, z⟩ := h (s.heap.objs.size + 1) (I.hok.fresh (Nat.le_succ _))
  exact F1.len _ _ _ _ z
/-- raise C(e, ..) -/
theorem pmk_errP (T : ErrC X.K X.mg x C fI) (F1 : FnOk X.prog X.w X.K X.mg X.base CX0 1 fI fd ps sp) (b : Binds X.K fd ps []) (hr : Room 2 X.A) (hsz : ps.length ≤ 100) (ha : PA X (e :: es) t) (hg : Gl X x := by rfl)
    (hdb : (x == ("__debug__" : Str)) = false := by decide) (he : starEach (e :: es) X.env = (false, eval e X.env) :: starEach es X.env := by rfl) (hpl : (backTo pos (starEach es X.env)).any (·.1) = false := by rfl) :
    L2N.PMk X (.Call (.Name x p) (e :: es) [] pos) (tMkG C sp (fun vs => vs) t) := by
  intro pins s σ H Q I h
  refine wpAny_Call_Name_kw (ld_glob I hg T.gC ?_ hdb)
  refine PySem.W.callWith_K (h₀ := X.base) I.ok.mod.kin T.T.kC (thn (ha.run pos pins s σ H _ I h) fun us s1 ⟨vs, H1, I1, r, q⟩ => ⟨I1.kIn, ?_⟩) he hpl
  have ll := mk_len (C := C) (Q := fun _ _ => True) F1 I1 r fun a n => ⟨_, q a n⟩
  have lz : us.length ≤ sizeLine := by
    rw [sizeLine_eq]
    omega
  refine run_mk (us := us) (us2 := us) T F1 hr (fun s u z => ?_) I1 r lz q
  have := b s (u :: us) z (by rw [List.append_nil, List.length_cons, ll])
  rw [List.append_nil] at this
  exact this
/-- raise C(k=e, ..) -/
theorem pmk_errK {π : List V → List V} {ρ : List Value → List Value} (T : ErrC X.K X.mg x C fI) (F1 : FnOk X.prog X.w X.K X.mg X.base CX0 1 fI fd ps sp) (b : KwP fd ps ks 1 ρ) (hlen : ps.length = ks.length + 1) (hπ : ∀ vs us, Vals vs us → Vals (π vs) (ρ us)) (hρ : ∀ us, (ρ us).length = us.length) (hr : Room 2 X.A) (ha : PK X kws t) (hg : Gl X x := by rfl)
    (hall : (backToKw pos (keywordEach kws X.env)).all (·.1.isSome) = true := by rfl) (hks : (backToKw pos (keywordEach kws X.env)).filterMap (·.1) = ks := by rfl)
    (hdb : (x == ("__debug__" : Str)) = false := by decide)
    (hpl : ((backTo pos (starEach [] X.env)).any (·.1) || (backToKw pos (keywordEach kws X.env)).any (·.1.isNone)) = false := by rfl) :
    L2N.PMk X (.Call (.Name x p) [] kws pos) (tMkG C sp π t) := by
  intro pins s σ H Q I h
  refine wpAny_Call_Name_kw (ld_glob I hg T.gC ?_ hdb)
  refine PySem.W.callWith_KW0 (h₀ := X.base) I.ok.mod.kin T.T.kC hall ?_ hpl
  refine thn (ha.run pos pins s σ H _ I h) ?_
  intro ws s2 ⟨zs, H2, I2, rz, q2⟩
  refine ⟨I2.kIn, ?_⟩
  rw [hks]
  have ll := mk_len (C := C) (Q := fun _ _ => True) F1 I2 (hπ _ _ rz) fun a n => ⟨_, q2 a n⟩
  rw [hρ] at ll
  exact run_mk (us := []) (us2 := ρ ws) T F1 hr (fun s u z => .of_eq (b [u] ws rfl (by omega))) I2 (hπ _ _ rz) (by rw [sizeLine_eq]; decide) q2
end
/-! the two orders of two keywords -/
theorem vals_rev : ∀ {vs : List V} {us : List Value}, Vals vs us → Vals vs.reverse us.reverse
  | _, _, .nil => .nil
  | _, _, .cons a r => by
    rw [List.reverse_cons, List.reverse_cons]
    exact Vals.append (vals_rev r) (.cons a .nil)
/-- an own error's __init__ that keeps two things -/
def spXI2 (K : PySem.W.Frag) (f1 f2 : Str) : Sp := fun vs H Q _ => ∃ (a C : Addr) (v1 v2 : V), vs = [.ref a, v1, v2] ∧ OexC K C ∧ PySem.W.findIn K (.ref C) f1 = some none ∧ PySem.W.findIn K (.ref C) f2 = some none ∧
  H a = some (exo a C none) ∧ ∀ dx, H dx = none → dx ≠ a → Q .non (upd (upd H a (exo a C (some dx))) dx (exd dx [(f2, v2), (f1, v1)]))
section
variable {P : Program} {w : World} {K : PySem.W.Frag} {mg : Str → Option Value} {base : Heap}
theorem ok_xi2 {qual f1 f2 : Str} {st : Stmt} {fI : Addr} {fd : FuncData} {p1 p2 p3 p4 p5 p6 p7 p8 : Pos} (F : Fun K "__init__" qual st fI fd) (S : FnScope ["self", f1, f2] ["self", f1, f2] (defScope st))
    (hb : defBody st = [.Assign [.Attribute (.Name "self" p1) f1 p2] (.Name f1 p3) p4, .Assign [.Attribute (.Name "self" p5) f2 p6] (.Name f2 p7) p8])
    (hd1 : (f1 == ("__debug__" : Str)) = false) (hc1 : (f1 == ("__classdict__" : Str)) = false) (hd2 : (f2 == ("__debug__" : Str)) = false) (hc2 : (f2 == ("__classdict__" : Str)) = false) :
    FnOk P w K mg base CX0 1 fI fd ["self", f1, f2] (spXI2 K f1 f2) := by
  refine F.ok S (fun vs H Q E h => ?_) (fun cdv A outer s H vs Q E hr h => ?_)
  · obtain ⟨a, C, v1, v2, rfl, _⟩ := h
    rfl
  · obtain ⟨a, C, v1, v2, rfl, T, hn1, hn2, he, q⟩ := h
    have v0 : ∀ f ∈ ([("self" : Str), f1, f2] : List Str), Vis (defScope st) f := fun f m => by
      rcases S.par f m with z | z
      · exact .inl z
      · exact .inr (.inl z)
    rw [hb]
    refine ⟨_, pss_cons (ps_ost (pe_var (i := 0) rfl (v0 "self" (by simp))) (pe_var (i := 1) rfl (v0 f1 (by simp)) hd1 hc1) rfl) (pss_one (ps_ost (pe_var (i := 0) rfl (v0 "self" (by simp))) (pe_var (i := 2) rfl (v0 f2 (by simp)) hd2 hc2) rfl)), ?_⟩
    refine ⟨_, rfl, _, rfl, a, C, rfl, T, hn1, .inl ⟨he, fun dx h1 h2 => ?_⟩⟩
    refine ⟨_, rfl, _, rfl, a, C, rfl, T, hn2, .inr ⟨dx, [(f1, v1)], upd_same, ?_, by simp, ?_⟩⟩
    · rw [upd_ne h2, upd_same]
    · have e : upd (upd (upd H dx (exd dx [(f1, v1)])) a (exo a C (some dx))) dx (exd dx [(f2, v2), (f1, v1)]) = upd (upd H a (exo a C (some dx))) dx (exd dx [(f2, v2), (f1, v1)]) := by
        funext b
        by_cases g : b = dx
        · subst g
          rw [upd_same, upd_same]
        · rw [upd_ne g, upd_ne g]
          by_cases g2 : b = a
          · subst g2
            rw [upd_same, upd_same]
          · rw [upd_ne g2, upd_ne g2, upd_ne g]
      rw [e]
      exact q dx h1 h2
end
end Nv

namespace Nv
open PySem PySem.Spec PyProof.Rows L2

/-! a def that is called within an except suite, is told of the caught exception, and lets nothing out -/
open L2H in
structure FnGP (P : Program) (w : World) (K : PySem.W.Frag) (mg : Str → Option Value) (base : Heap) (k : Nat)
    (f : Addr) (fd : FuncData) (ps : List Str) (sp : Addr × Obj → Sp) : Prop where
  len : ∀ p vs H Q E, sp p vs H Q E → vs.length = ps.length
  run : ∀ (A : Around) (outer : List Env) (s : Shared) (H : Hp) (args : Args) (us : List Value) (vs : List V) (Q : VK) (E : XK) (p : Addr × Obj),
    A.guards = some [] → Hot1 A p → RoomH k A → PinOk outer H s p → Env0 P w K mg base A outer s H → BindsTo s fd args (ps.zip us) → Vals vs us →
    sp p vs H Q E → codeAny (model P w) A (.call (.ref f) args) (CR CX0 outer P w H s Q E) s
open L2H in
theorem okGP {P : Program} {w : World} {K : PySem.W.Frag} {mg : Str → Option Value} {base : Heap} {k : Nat} {f : Addr} {fd : FuncData} {ps : List Str} {sp : Addr × Obj → Sp} {x qual : Str} {st : Stmt} {N : List Str}
    (F : Fun K x qual st f fd) (S : FnScope N ps (defScope st)) (len : ∀ p vs H Q E, sp p vs H Q E → vs.length = ps.length)
    (body : ∀ (cdv : Value) (A : Around) (outer : List Env) (s : Shared) (H : Hp) (vs : List V) (Q : VK) (E : XK) (p : Addr × Obj),
      A.guards = some [] → Hot1 A p → RoomH k (A.deeper (envOfC qual (defScope st) s.heap.objs.size f cdv)) → sp p vs H Q E →
      ∃ t, PSs (cxH CX0 P w K mg base N qual (defScope st) f cdv A outer s H E p) (defBody st) t ∧
        t { nx := fun _ H' => Q .non H', rt := Q } (start N vs) H) :
    FnGP P w K mg base (k + 1) f fd ps sp := by
  obtain ⟨oc, od, kV, doc, pm, an, cdv, ct, osl, rfl, lk, hcd⟩ := F.ex
  refine ⟨len, ?_⟩
  intro A outer s H args us vs Q E p hg hot hr pin e0 hb r hsp
  have hl := len _ _ _ _ _ hsp
  have stays : ∀ b o, base.get? b = some o → s.heap.get? b = some o := fun b o e => (e0.bs b o e).1
  have KX : K.In s.heap := e0.mod.kin.keeps stays
  have kinds : ∀ y ∈ ps.zip us, (defScope st).names.lookup y.1 = some .local ∨
      ((defScope st).names.lookup y.1 = some .cell ∧
        ((cellsFrom (s.heap.objs.size + 1) (defScope st).names []).lookup y.1).isSome = true) := by
    intro y hy
    rcases S.par y.1 (List.of_mem_zip (a := y.1) (b := y.2) hy).1 with q | q
    · exact Or.inl q
    · exact Or.inr ⟨q, PySem.W.cellsFrom_some _ _ _ (Or.inl q)⟩
  refine codeAny_call_function hr.depth (KX _ _ lk) rfl S.co S.gen rfl (PySem.W.codeRec_of KX hcd) (hb _ _ _ _ ?_)
  refine wpAny_newFunctionEnv_cells S.kind kinds ?_
  intro env he s1 x
  subst he
  refine ⟨(e0.mod.nolimit.keeps stays).keeps x.toInCall.keep, codeAny_func ?_⟩
  obtain ⟨t, ht, hq⟩ := body cdv A outer s H vs Q E p hg hot (hr.deeper _) hsp
  have I := inv_startH (CX := CX0) (E := E) S pin e0 hl r x
  refine wpAny_mono (ht.run [] s1 (start N vs) H _ I hq) ?_ (fun _ _ z => z)
  intro fl s' hs
  have fin : ∀ {σ' : L2.St} {H' : Hp} {v : V} {u : Value},
      Inv (cxH CX0 P w K mg base N qual (defScope st) f cdv A outer s H E p) [] σ' H' s' → RelV v u → Q v H' →
      CE outer P w H s Q u s' := fun {σ' H' v u} J rv q => ⟨v, H', J.os, J.bare, J.base, J.hok, rv, q⟩
  cases fl with
  | next => obtain ⟨_, _, J, q⟩ := hs; exact fin (v := V.non) (u := Value.none) J rfl q
  | ret u => obtain ⟨_, _, _, J, rv, q⟩ := hs; exact fin J rv q
  | brk => obtain ⟨_, _, _, q⟩ := hs; exact q.elim
  | cont => obtain ⟨_, _, _, q⟩ := hs; exact q.elim
open L2H in
theorem pe_cGP {X : Cx} {W : WX} {k : Nat} {f : Addr} {fd : FuncData} {ps : List Str} {sp : Addr × Obj → Sp} {x : Str} {q pos : Pos} {e : Expr} {es : List Expr} {t : TA} {p : Addr × Obj}
    (F : FnGP X.prog X.w X.K X.mg X.base k f fd ps sp) (b : Pos1 fd ps) (hG : X.A.guards = some []) (hot : Hot1 X.A p) (hr : RoomH k X.A) (hp : p ∈ X.pn)
    (hm : X.mg x = some (.ref f)) (hk : PySem.W.keepIn X.K (.ref f) = true) (ha : PA X (e :: es) t) (hg : Gl X x := by rfl)
    (hdb : (x == ("__debug__" : Str)) = false := by decide) (he : starEach (e :: es) X.env = (false, eval e X.env) :: starEach es X.env := by rfl)
    (hpl : (backTo pos (starEach es X.env)).any (·.1) = false := by rfl) : PE X (.Call (.Name x q) (e :: es) [] pos) (tCG (sp p) W t) := by
  constructor
  intro pins s σ H Q I h
  refine wpAny_Call_Name_kw (ld_glob I hg hm ?_ hdb)
  refine PySem.W.callWith_K (h₀ := X.base) I.ok.mod.kin hk (thn (ha.run pos pins s σ H _ I h) ?_) he hpl
  intro us s1 ⟨vs, H1, I1, r, h2⟩
  refine ⟨I1.kIn, ?_⟩
  have P1 := I1.pin p (List.mem_append_left _ hp)
  have hpin : PinOk X.stack H1 s1 p := ⟨P1.1, P1.2.1, fun hm => (List.mem_cons.mp (I1.stkSub p.1 hm)).elim P1.2.2.1 P1.2.2.2.1, P1.2.2.2.2⟩
  have hl : us.length = ps.length := by
    rw [← r.length]
    exact F.len _ _ _ _ _ h2
  refine wpAny_call (codeAny_mono (F.run X.A X.stack s1 H1 ⟨us, []⟩ us vs Q (WE W σ) p hG hot hr hpin I1.env0 (.of_eq (b _ hl)) r h2) ?_)
  intro r s' hq
  cases r with
  | error er => exact (pass0 pins σ _ _ er s' I1 hq)
  | ok fl =>
    cases fl with
    | ret u => exact I1.after hq
    | next => exact hq.elim
    | brk => exact hq.elim
    | cont => exact hq.elim
end Nv

namespace Nv
open PySem PySem.Spec PyProof.Rows L2

/-! an own exception without an __init__ of its own, made with nothing -/
section
variable {X : Cx} {x : Str} {C : Addr} {B newId initId : String} {bmB : List Value} {p pos : Pos}
theorem pe_err0 (F : ExcBaseFacts B newId initId bmB) (q : PySem.W.excIn X.K C bmB newId = true) (gC : X.mg x = some (.ref C)) (kC : PySem.W.keepIn X.K (.ref C) = true) (hg : Gl X x := by rfl) (hdb : (x == ("__debug__" : Str)) = false := by decide) :
    PE X (.Call (.Name x p) [] [] pos) (fun σ H Q => ∀ a, H a = none → Q (.ref a) (upd H a (exo a C none))) := by
  refine ⟨fun pins s σ H Q I h => ?_⟩
  refine wpAny_Call_Name_kw (ld_glob I hg gC ?_ hdb)
  refine PySem.W.callWith_K0 I.kIn kC ?_
  obtain ⟨bm, N, nm, qn, bs, hdct, sn, sub, ab, col, dd, k0, k1, k2, k3, k5, mN, hC, hN, hi, ot⟩ := exc_obj I.kIn q
  obtain ⟨hp, g, dr, tk, os⟩ := s
  refine wpAny_call_exc_subT F ot hC hN hi (fun h' e m => ?_)
  obtain ⟨t, ht, _, _⟩ := m.there
  exact ⟨.ref e, _, I.laidN m.keeps m.new (I.hok.gone m.new) (exo_ok ht), rfl, h e (I.hok.gone m.new)⟩
theorem pmk_err0 (F : ExcBaseFacts B newId initId bmB) (q : PySem.W.excIn X.K C bmB newId = true) (gC : X.mg x = some (.ref C)) (kC : PySem.W.keepIn X.K (.ref C) = true) (r : Raises X (.ref C)) (hg : Gl X x := by rfl) (hdb : (x == ("__debug__" : Str)) = false := by decide) :
    L2N.PMk X (.Call (.Name x p) [] [] pos) (fun _ H Q => Q (.ref C) none H) := by
  intro pins s σ H Q I h
  refine wpAny_Call_Name_kw (ld_glob I hg gC ?_ hdb)
  refine PySem.W.callWith_K0 I.kIn kC ?_
  obtain ⟨bm, N, nm, qn, bs, hdct, sn, sub, ab, col, dd, k0, k1, k2, k3, k5, mN, hC, hN, hi, ot⟩ := exc_obj I.kIn q
  obtain ⟨hp, g, dr, tk, os⟩ := s
  exact wpAny_call_exc_subT F ot hC hN hi (fun h' e m => L2N.mk_of I m r h (I.hok.gone m.new))
end
end Nv

namespace Nv
open PySem PySem.Spec PyProof.Rows L2

/-! xs != ys of equal lists that may hold dicts -/
theorem items_at {M : Model} {A : Around} {E : Value → Shared → Prop} {h : Heap} {g : Array GenState} {d : Drawn} {t : Nat} {os : OsState} {l : Addr} {items : Array Value} {n : Nat} {dd : Option Addr} {sl : Array (Option Value)} {Q : Array Value → Shared → Prop}
    (hl : h.get? l = some { cls := .type "list", dict := dd, data := .seq items n, slots := sl }) (q : Q items ⟨h, g, d, t, os⟩) : wpAny M A (Builtin.List.listItems (.ref l)) Q E ⟨h, g, d, t, os⟩ :=
  wpAny_bind (m := seqItems? (.ref l)) (wpAny_bind (m := load l) (wpAny_load' hl (wpAny_pure (wpAny_pure q))))
theorem ne_loop {prog : Program} {w : World} {l b : Addr} {items items2 : Array Value} {n n2 : Nat} {dd dd2 : Option Addr} {sl sl2 : Array (Option Value)} {A : Around} {R : Result → Shared → Prop} {s : Shared}
    (hl : s.heap.get? l = some { cls := .type "list", dict := dd, data := .seq items n, slots := sl }) (hb : s.heap.get? b = some { cls := .type "list", dict := dd2, data := .seq items2 n2, slots := sl2 }) (hs : items.size = items2.size)
    (he : ∀ (j : Nat) (h1 : j < items.size) (h2 : j < items2.size), SeqAt.EqP prog w A.in1 s items[j] items2[j] true) (hR : R (.ok (.ret (.bool false))) s) :
    ∀ (m j : Nat), j + m = items.size → codeAny (model prog w) A (Code.builtin "list.__eq__.loop" ⟨[.ref l, .ref b, rawInt (j : Int), rawInt 3], []⟩) R s := by
  obtain ⟨hp, g, d, t, os⟩ := s
  intro m
  induction m with
  | zero =>
    intro j hj
    refine codeAny_builtin MeetsSeq3.entry_eq_loop ?_
    rw [Around.under_plainId MeetsSeq3.plain_eq_loop]
    refine wpAny_bind (m := Builtin.List.listItems (.ref l)) (items_at hl ?_)
    refine wpAny_bind (m := Builtin.List.listItems (.ref b)) (items_at hb ?_)
    have e1 : items[(j : Int).toNat]? = none := by
      rw [Int.toNat_natCast]
      exact Array.getElem?_eq_none (by omega)
    have e2 : items2[(j : Int).toNat]? = none := by
      rw [Int.toNat_natCast]
      exact Array.getElem?_eq_none (by omega)
    rw [e1, e2]
    refine wpAny_bind (m := Builtin.List.listItems (.ref l)) (items_at hl ?_)
    refine wpAny_bind (m := Builtin.List.listItems (.ref b)) (items_at hb ?_)
    refine wpAny_pure ?_
    rw [hs]
    show R (.ok (.ret (.bool (items2.size != items2.size)))) _
    rw [bne_self_eq_false]
    exact hR
  | succ m ih =>
    intro j hj
    refine codeAny_builtin MeetsSeq3.entry_eq_loop ?_
    rw [Around.under_plainId MeetsSeq3.plain_eq_loop]
    refine wpAny_bind (m := Builtin.List.listItems (.ref l)) (items_at hl ?_)
    refine wpAny_bind (m := Builtin.List.listItems (.ref b)) (items_at hb ?_)
    have h1 : j < items.size := by omega
    have h2 : j < items2.size := by omega
    have e1 : items[(j : Int).toNat]? = some items[j] := by
      rw [Int.toNat_natCast]
      exact Array.getElem?_eq_getElem h1
    have e2 : items2[(j : Int).toNat]? = some items2[j] := by
      rw [Int.toNat_natCast]
      exact Array.getElem?_eq_getElem h2
    rw [e1, e2]
    refine wpAny_bind (m := eqBool _ _) (he j h1 h2 _ _ ?_)
    refine wpAny_ite_true rfl ?_
    refine wpAny_pure ⟨Code.quiet_builtin _ (by decide +kernel), ?_⟩
    exact ih (j + 1) (by omega)
theorem list_neIn {prog : Program} {w : World} {l b : Addr} {items items2 : Array Value} {n n2 : Nat} {dd dd2 : Option Addr} {sl sl2 : Array (Option Value)} (hs : items.size = items2.size) :
    MeetsIn prog w (Builtin.«list.__ne__» ⟨[.ref l, .ref b], []⟩) fun A R s =>
      s.heap.get? l = some { cls := .type "list", dict := dd, data := .seq items n, slots := sl } ∧ s.heap.get? b = some { cls := .type "list", dict := dd2, data := .seq items2 n2, slots := sl2 } ∧
      (∀ (j : Nat) (h1 : j < items.size) (h2 : j < items2.size), SeqAt.EqP prog w A.in1 s items[j] items2[j] true) ∧ R (.ok (.ret (.bool false))) s := by
  rintro A R s ⟨hl, hb, he, hR⟩
  have key := ne_loop hl hb hs he hR items.size 0 (by omega)
  obtain ⟨hp, g, d, t, os⟩ := s
  unfold Builtin.«list.__ne__»
  refine wpAny_bind (m := slotArgs "__ne__" 1 ⟨[.ref l, .ref b], []⟩) (wpAny_of_eq (show slotArgs "__ne__" 1 ⟨[.ref l, .ref b], []⟩ = pure (.ref l, [.ref b]) from rfl) ?_)
  refine wpAny_bind (m := isInstance (.ref b) (.type "list")) (wpAny_bind (m := typeOf (.ref b)) (wpAny_bind (wpAny_loadPart_at hb (wpAny_pure (wpAny_of_eq AutoSeq1.sub_list_list ?_)))))
  refine wpAny_ite_false rfl ?_
  refine wpAny_ite_true rfl ?_
  refine wpAny_bind (m := Builtin.List.listItems (.ref l)) (items_at hl ?_)
  refine wpAny_bind (m := Builtin.List.listItems (.ref b)) (items_at hb ?_)
  refine wpAny_ite_false (by rw [hs]; simp) ?_
  exact wpAny_pure ⟨Code.quiet_builtin _ (by decide +kernel), key⟩
theorem rc_ne_lists {prog : Program} {w : World} {A : Around} {s : Shared} {l b : Addr} {items items2 : Array Value} {E Q : Value → Shared → Prop} (hl : s.heap.IsList l items) (hb : s.heap.IsList b items2) (hs : items.size = items2.size) (hu : A.units < cLine)
    (he : ∀ (j : Nat) (h1 : j < items.size) (h2 : j < items2.size), SeqAt.EqP prog w A.in1 s items[j] items2[j] true) (hq : Q (.bool false) s) : wpAny (model prog w) A (richCompare .NotEq (.ref l) (.ref b)) Q E s := by
  obtain ⟨o1, e1, c1, n1, d1⟩ := hl
  obtain ⟨o2, e2, c2, n2, d2⟩ := hb
  obtain ⟨oc1, od1, oda1, os1⟩ := o1
  obtain ⟨oc2, od2, oda2, os2⟩ := o2
  simp only at c1 c2 d1 d2
  subst c1
  subst c2
  subst d1
  subst d2
  have t1 : s.TypeIs (.ref l) "list" := ⟨_, e1, rfl⟩
  have t2 : s.TypeIs (.ref b) "list" := ⟨_, e2, rfl⟩
  refine wpAny_richCompare_same_room t1 t2 F.slot_list_ne ?_ hu
  refine call_meetsIn F.slot_list_ne t1 F.entry_list_ne (F.args_list_ne_2 _ _) (list_neIn hs) ⟨e1, e2, he, ?_⟩
  exact ⟨nofun, hq⟩
/-- x != y, equal lists whose items are equal in turn, dicts among them -/
def rNeV (K : PySem.W.Frag) : R2 := fun x y H Q => ∃ n a b xs ys, n ≤ 60 ∧ x = .ref a ∧ y = .ref b ∧ SqL K H a xs ∧ SqL K H b ys ∧ Paired (EqV K H n) xs ys ∧ Q (.bl false) H
theorem op_neV {X : Cx} (hu : X.A.units + 64 < cLine) : OpR X (compareOp .NotEq) (rNeV X.K) := by
  intro pins s σ H x y v u Q I rx ry h
  obtain ⟨n, a, b, xs, ys, hn, rfl, rfl, ha, hb, hp, q⟩ := h
  cases (show v = Value.ref a from rx)
  cases (show u = Value.ref b from ry)
  obtain ⟨us, r1, p1, l1⟩ := I.list ha
  obtain ⟨ws, r2, p2, l2⟩ := I.list hb
  have el : xs.length = ys.length := hp.length
  have e1 := r1.length
  have e2 := r2.length
  refine rc_ne_lists p1.isList p2.isList (by rw [List.size_toArray, List.size_toArray]; omega) (by omega) (fun j h1 h2 => ?_) ⟨.bl false, H, I, rfl, q⟩
  have := items_run (P := X.prog) (w := X.w) (A := X.A.in1) (s := s) (F := EqV X.K H n) (fun x y v u e rx ry => eqV_run I n X.A.in1 (by show X.A.units + 1 + n < cLine; omega) x y v u e rx ry) hp r1 r2 j (by simpa using h1) (by simpa using h2)
  simpa using this
end Nv

namespace Nv
open PySem PySem.Spec PyProof.Rows L2

/-! xs[::-1], a list -/
def tBack (K : PySem.W.Frag) (te ts : TE) : TE := fun σ H Q => te σ H fun x H1 => ts σ H1 fun y H2 => y = .int (-1) ∧ ∃ a xs, x = .ref a ∧ SqL K H2 a xs ∧ ∀ q, H2 q = none → Q (.ref q) (upd H2 q (.lst xs.reverse))
theorem e_back {K : PySem.W.Frag} {te ts : TE} {σ : L2.St} {H : Hp} {Q : VK} : tBack K te ts σ H Q = te σ H (fun x H1 => ts σ H1 fun y H2 => y = .int (-1) ∧ ∃ a xs, x = .ref a ∧ SqL K H2 a xs ∧ ∀ q, H2 q = none → Q (.ref q) (upd H2 q (.lst xs.reverse))) := rfl
theorem pe_back {X : Cx} {e st : Expr} {te ts : TE} {pos p2 : Pos} (he : PE X e te) (hs : PE X st ts) (hp : evalPart (some st) X.env = eval st X.env := by rfl) : PE X (.Subscript e (.Slice none none (some st) p2) pos) (tBack X.K te ts) := by
  refine ⟨fun pins s σ H Q I h => ?_⟩
  refine Subscript_ (thn (he.run pins s σ H _ I h) ?_)
  rintro v s1 ⟨x, H1, I1, r1, q1⟩
  refine wpAny_Slice ?_
  rw [evalPart_none]
  refine wpAny_pure ?_
  rw [hp]
  refine wpAny_pure (thn (hs.run pins s1 σ H1 _ I1 q1) ?_)
  rintro u s2 ⟨y, H2, I2, r2, rfl, a, xs, rfl, ha, k⟩
  cases (show v = Value.ref a from r1)
  obtain ⟨t, rfl⟩ : ∃ t, u = Value.int (-1) t := r2
  obtain ⟨us, ru, pl, hl⟩ := I2.list ha
  obtain ⟨hp2, g, d, tk, os⟩ := s2
  have kk : ∀ b o, hp2.get? b = some o → (hp2.push { cls := Value.type "slice", data := Data.fields #[Value.none, Value.none, Value.int (-1) t] }).get? b = some o := fun b o e => Heap.get?_push_of_some _ e
  have I4 := I2.kept (t' := tk) kk
  obtain ⟨us4, ru4, pl4, hl4⟩ := I4.list ha
  have sz : us4.toArray.size ≤ sizeLine := by
    rw [List.size_toArray, ← ru4.length]
    exact hl4
  refine tail_any (Heap.IsList.typeIs pl4.isList) (Slot.lookup slot_list_getitem) ?_ rfl
  refine wpAny_getItem_list_slice pl4.isList (Heap.IsSliceOf.new hp2 _ _ _) .none .none (.int (-1) t) (by decide) ?_ sz
  rw [PySem.W.krv_pick]
  have hn : H2 (hp2.push { cls := Value.type "slice", data := Data.fields #[Value.none, Value.none, Value.int (-1) t] }).objs.size = none := I4.hok.fresh (Nat.le_refl _)
  have rr : Vals xs.reverse us4.reverse := vals_rev ru4
  refine ⟨.ref _, _, I4.laid (t' := tk) (fun b u e => Heap.get?_push_of_some _ e) (Nat.le_refl _) (o := .lst xs.reverse) ?_, rfl, k _ hn⟩
  refine ⟨by rw [List.length_reverse]; exact hl4, us4.reverse, 0, rr, Heap.get?_push_size _ rfl⟩
end Nv

namespace Nv
open PySem PySem.Spec PyProof.Rows L2

/-! many own error classes, each with one or two things that it keeps -/
theorem pe_imp {X : Cx} {e : Expr} {t t' : TE} (h : PE X e t) (i : ∀ σ H Q, t' σ H Q → t σ H Q) : PE X e t' := ⟨fun pins s σ H Q I q => h.run pins s σ H Q I (i _ _ _ q)⟩
theorem pa_imp {X : Cx} {es : List Expr} {t t' : TA} (h : PA X es t) (i : ∀ σ H Q, t' σ H Q → t σ H Q) : PA X es t' := ⟨fun pos pins s σ H Q I q => h.run pos pins s σ H Q I (i _ _ _ q)⟩
theorem pa_anyA {X : Cx} {es : List Expr} {t : TA} (h : PA X es t) : PA X es (fun σ H Q => ∃ R : List V → Hp → Prop, t σ H R ∧ ∀ vs H1, R vs H1 → Q vs H1) :=
  ⟨fun pos pins s σ H Q I ⟨R, q, k⟩ => thn (h.run pos pins s σ H R I q) fun us s1 ⟨vs, H1, I1, r, z⟩ => ⟨vs, H1, I1, r, k vs H1 z⟩⟩
theorem pk_anyA {X : Cx} {es : List Keyword} {t : TA} (h : PK X es t) : PK X es (fun σ H Q => ∃ R : List V → Hp → Prop, t σ H R ∧ ∀ vs H1, R vs H1 → Q vs H1) :=
  ⟨fun pos pins s σ H Q I ⟨R, q, k⟩ => thn (h.run pos pins s σ H R I q) fun us s1 ⟨vs, H1, I1, r, z⟩ => ⟨vs, H1, I1, r, k vs H1 z⟩⟩
/-- an own error class x at C, right below U, whose __init__ keeps f -/
structure E1 (K : PySem.W.Frag) (mg : Str → Option Value) (U : Addr) (x f : Str) (C : Addr) : Prop where
  c : ∃ fI fd, ErrC K mg x C fI ∧ (∀ (P : Program) (w : World) (base : Heap), FnOk P w K mg base CX0 1 fI fd ["self", f] (spXI K f)) ∧ Binds K fd ["self", f] [] ∧ KwP fd ["self", f] [f] 1 (fun ws => ws)
  nf : PySem.W.findIn K (.ref C) f = some none
  n : ErrN K U C x
/-- .. keeps f1 and f2 -/
structure E2 (K : PySem.W.Frag) (mg : Str → Option Value) (U : Addr) (x f1 f2 : Str) (C : Addr) : Prop where
  c : ∃ fI fd, ErrC K mg x C fI ∧ (∀ (P : Program) (w : World) (base : Heap), FnOk P w K mg base CX0 1 fI fd ["self", f1, f2] (spXI2 K f1 f2)) ∧ Binds K fd ["self", f1, f2] [] ∧
    KwP fd ["self", f1, f2] [f1, f2] 1 (fun ws => ws) ∧ KwP fd ["self", f1, f2] [f2, f1] 1 List.reverse ∧ KwP fd ["self", f1, f2] [f2] 2 (fun ws => ws)
  nf1 : PySem.W.findIn K (.ref C) f1 = some none
  nf2 : PySem.W.findIn K (.ref C) f2 = some none
  n : ErrN K U C x
section
variable {K : PySem.W.Frag} {mg : Str → Option Value} {U C : Addr} {x f f1 f2 : Str}
theorem E1.nv (E : E1 K mg U x f C) : PySem.W.NvCls K C := by
  obtain ⟨_, _, c, _⟩ := E.c
  exact c.nv
theorem E1.gC (E : E1 K mg U x f C) : mg x = some (.ref C) := by
  obtain ⟨_, _, c, _⟩ := E.c
  exact c.gC
theorem E2.nv (E : E2 K mg U x f1 f2 C) : PySem.W.NvCls K C := by
  obtain ⟨_, _, c, _⟩ := E.c
  exact c.nv
theorem E2.gC (E : E2 K mg U x f1 f2 C) : mg x = some (.ref C) := by
  obtain ⟨_, _, c, _⟩ := E.c
  exact c.gC
end
/-- C(e) -/
def tE1 (C : Addr) (f : Str) (te : TE) : TE := fun σ H Q => te σ H fun v H1 => ∀ a H2, Same H1 H2 → H1 a = none → ExF [] H2 a C [(f, v)] → Q (.ref a) H2
def tE2 (C : Addr) (f1 f2 : Str) (π : List V → List V) (t : TA) : TE := fun σ H Q => t σ H fun vs H1 => ∃ v1 v2, π vs = [v1, v2] ∧ ∀ a H2, Same H1 H2 → H1 a = none → ExF [] H2 a C [(f2, v2), (f1, v1)] → Q (.ref a) H2
theorem e_E1 {C : Addr} {f : Str} {te : TE} {σ : L2.St} {H : Hp} {Q : VK} : tE1 C f te σ H Q = te σ H (fun v H1 => ∀ a H2, Same H1 H2 → H1 a = none → ExF [] H2 a C [(f, v)] → Q (.ref a) H2) := rfl
theorem e_E2 {C : Addr} {f1 f2 : Str} {π : List V → List V} {t : TA} {σ : L2.St} {H : Hp} {Q : VK} : tE2 C f1 f2 π t σ H Q = t σ H (fun vs H1 => ∃ v1 v2, π vs = [v1, v2] ∧ ∀ a H2, Same H1 H2 → H1 a = none → ExF [] H2 a C [(f2, v2), (f1, v1)] → Q (.ref a) H2) := rfl
theorem made1 {H1 : Hp} {a dx C : Addr} {f : Str} {v : V} (na : H1 a = none) (h1 : upd H1 a (exo a C none) dx = none) (h2 : dx ≠ a) :
    Same H1 (upd (upd (upd H1 a (exo a C none)) dx (exd dx [(f, v)])) a (exo a C (some dx))) ∧ ExF [] (upd (upd (upd H1 a (exo a C none)) dx (exd dx [(f, v)])) a (exo a C (some dx))) a C [(f, v)] := by
  rw [upd_ne h2] at h1
  refine ⟨fun b o hb => ?_, .inl ⟨dx, upd_same, ?_⟩⟩
  · have nb := ne_of_none hb na
    have nd := ne_of_none hb h1
    rw [upd_ne nb, upd_ne nd, upd_ne nb]
    exact hb
  · rw [upd_ne h2, upd_same]
theorem made2 {H1 : Hp} {a dx C : Addr} {fs : List (Str × V)} (na : H1 a = none) (h1 : upd H1 a (exo a C none) dx = none) (h2 : dx ≠ a) :
    Same H1 (upd (upd (upd H1 a (exo a C none)) a (exo a C (some dx))) dx (exd dx fs)) ∧ ExF [] (upd (upd (upd H1 a (exo a C none)) a (exo a C (some dx))) dx (exd dx fs)) a C fs := by
  rw [upd_ne h2] at h1
  refine ⟨fun b o hb => ?_, .inl ⟨dx, ?_, upd_same⟩⟩
  · have nb := ne_of_none hb na
    have nd := ne_of_none hb h1
    rw [upd_ne nd, upd_ne nb, upd_ne nb]
    exact hb
  · rw [upd_ne (Ne.symm h2), upd_same]
section
variable {X : Cx} {x f f1 f2 : Str} {C U : Addr} {e e2 : Expr} {es : List Expr} {te : TE} {t t2 : TA} {p pos kpos kpos2 : Pos} {i : Nat} {L : List (Str × Addr)}
theorem pe_E1p (E : E1 X.K X.mg U x f C) (hr : Room 2 X.A) (he : PE X e te) (hg : Gl X x := by rfl)
    (hdb : (x == ("__debug__" : Str)) = false := by decide) (hs : starEach (e :: []) X.env = (false, eval e X.env) :: starEach [] X.env := by rfl) (hpl : (backTo pos (starEach [] X.env)).any (·.1) = false := by rfl) :
    PE X (.Call (.Name x p) [e] [] pos) (tE1 C f te) := by
  obtain ⟨fI, fd, T, F1, b, _⟩ := E.c
  refine pe_imp (pe_errP T (F1 X.prog X.w X.base) b hr (by show 2 ≤ 100; decide) (pa_any he hs) hg hdb hs hpl) ?_
  intro σ H Q h
  refine ⟨_, h, fun v H1 k a na => ⟨a, C, v, rfl, T.T, E.nf, upd_same, fun dx h1 h2 => ⟨rfl, ?_⟩⟩⟩
  obtain ⟨s, m⟩ := made1 (C := C) (f := f) (v := v) na h1 h2
  exact k a _ s na m
theorem pk_any1 {nm : Option Str} (he : PE X e te) : PK X [⟨nm, e, kpos⟩] (fun σ H Q => ∃ R : V → Hp → Prop, te σ H R ∧ ∀ v H1, R v H1 → Q [v] H1) := by
  constructor
  intro pos pins s σ H Q I ⟨R, h, k⟩
  have he2 : PE X e (fun σ' H' Q' => te σ' H' R ∧ ∀ v H1, R v H1 → Q' v H1) := by
    constructor
    intro pins s σ H Q I ⟨h1, h2⟩
    exact thn (he.run pins s σ H R I h1) fun u s1 ⟨v, H1, I1, r, q⟩ => ⟨v, H1, I1, r, h2 v H1 q⟩
  exact (pk_cons he2 pk_nil).run pos pins s σ H Q I ⟨h, fun v H1 q => k v H1 q⟩
theorem pe_E1k (E : E1 X.K X.mg U x f C) (hr : Room 2 X.A) (he : PE X e te) (hg : Gl X x := by rfl)
    (hall : (backToKw pos (keywordEach [⟨some f, e, kpos⟩] X.env)).all (·.1.isSome) = true := by rfl) (hks : (backToKw pos (keywordEach [⟨some f, e, kpos⟩] X.env)).filterMap (·.1) = [f] := by rfl)
    (hdb : (x == ("__debug__" : Str)) = false := by decide)
    (hpl : ((backTo pos (starEach [] X.env)).any (·.1) || (backToKw pos (keywordEach [⟨some f, e, kpos⟩] X.env)).any (·.1.isNone)) = false := by rfl) :
    PE X (.Call (.Name x p) [] [⟨some f, e, kpos⟩] pos) (tE1 C f te) := by
  obtain ⟨fI, fd, T, F1, b, kb⟩ := E.c
  refine pe_imp (pe_errK (π := fun vs => vs) (ρ := fun vs => vs) T (F1 X.prog X.w X.base) kb rfl (fun _ _ r => r) (fun _ => rfl) hr (pk_any1 he) hg hall hks hdb hpl) ?_
  intro σ H Q h
  refine ⟨_, h, fun v H1 k a na => ⟨a, C, v, rfl, T.T, E.nf, upd_same, fun dx h1 h2 => ⟨rfl, ?_⟩⟩⟩
  obtain ⟨s, m⟩ := made1 (C := C) (f := f) (v := v) na h1 h2
  exact k a _ s na m
theorem pe_E2p (E : E2 X.K X.mg U x f1 f2 C) (hr : Room 2 X.A) (ha : PA X (e :: es) t) (hg : Gl X x := by rfl)
    (hdb : (x == ("__debug__" : Str)) = false := by decide) (he : starEach (e :: es) X.env = (false, eval e X.env) :: starEach es X.env := by rfl) (hpl : (backTo pos (starEach es X.env)).any (·.1) = false := by rfl) :
    PE X (.Call (.Name x p) (e :: es) [] pos) (tE2 C f1 f2 (fun vs => vs) t) := by
  obtain ⟨fI, fd, T, F1, b, _⟩ := E.c
  refine pe_imp (pe_errP T (F1 X.prog X.w X.base) b hr (by show 3 ≤ 100; decide) (pa_anyA ha) hg hdb he hpl) ?_
  intro σ H Q h
  refine ⟨_, h, fun vs H1 ⟨v1, v2, ev, k⟩ a na => ⟨a, C, v1, v2, by rw [ev], T.T, E.nf1, E.nf2, upd_same, fun dx h1 h2 => ⟨rfl, ?_⟩⟩⟩
  obtain ⟨s, m⟩ := made2 (C := C) (fs := [(f2, v2), (f1, v1)]) na h1 h2
  exact k a _ s na m
theorem pe_E2k {kws : List Keyword} (E : E2 X.K X.mg U x f1 f2 C) (hr : Room 2 X.A) (hk : PK X kws t) (hg : Gl X x := by rfl)
    (hall : (backToKw pos (keywordEach kws X.env)).all (·.1.isSome) = true := by rfl) (hks : (backToKw pos (keywordEach kws X.env)).filterMap (·.1) = [f1, f2] := by rfl)
    (hdb : (x == ("__debug__" : Str)) = false := by decide)
    (hpl : ((backTo pos (starEach [] X.env)).any (·.1) || (backToKw pos (keywordEach kws X.env)).any (·.1.isNone)) = false := by rfl) :
    PE X (.Call (.Name x p) [] kws pos) (tE2 C f1 f2 (fun vs => vs) t) := by
  obtain ⟨fI, fd, T, F1, b, kb, _⟩ := E.c
  refine pe_imp (pe_errK (π := fun vs => vs) (ρ := fun vs => vs) T (F1 X.prog X.w X.base) kb rfl (fun _ _ r => r) (fun _ => rfl) hr (pk_anyA hk) hg hall hks hdb hpl) ?_
  intro σ H Q h
  refine ⟨_, h, fun vs H1 ⟨v1, v2, ev, k⟩ a na => ⟨a, C, v1, v2, by rw [ev], T.T, E.nf1, E.nf2, upd_same, fun dx h1 h2 => ⟨rfl, ?_⟩⟩⟩
  obtain ⟨s, m⟩ := made2 (C := C) (fs := [(f2, v2), (f1, v1)]) na h1 h2
  exact k a _ s na m
theorem pe_E2r {kws : List Keyword} (E : E2 X.K X.mg U x f1 f2 C) (hr : Room 2 X.A) (hk : PK X kws t) (hg : Gl X x := by rfl)
    (hall : (backToKw pos (keywordEach kws X.env)).all (·.1.isSome) = true := by rfl) (hks : (backToKw pos (keywordEach kws X.env)).filterMap (·.1) = [f2, f1] := by rfl)
    (hdb : (x == ("__debug__" : Str)) = false := by decide)
    (hpl : ((backTo pos (starEach [] X.env)).any (·.1) || (backToKw pos (keywordEach kws X.env)).any (·.1.isNone)) = false := by rfl) :
    PE X (.Call (.Name x p) [] kws pos) (tE2 C f1 f2 List.reverse t) := by
  obtain ⟨fI, fd, T, F1, b, _, kb, _⟩ := E.c
  refine pe_imp (pe_errK (π := List.reverse) (ρ := List.reverse) T (F1 X.prog X.w X.base) kb rfl (fun _ _ r => vals_rev r) (fun _ => by simp) hr (pk_anyA hk) hg hall hks hdb hpl) ?_
  intro σ H Q h
  refine ⟨_, h, fun vs H1 ⟨v1, v2, ev, k⟩ a na => ⟨a, C, v1, v2, by rw [ev], T.T, E.nf1, E.nf2, upd_same, fun dx h1 h2 => ⟨rfl, ?_⟩⟩⟩
  obtain ⟨s, m⟩ := made2 (C := C) (fs := [(f2, v2), (f1, v1)]) na h1 h2
  exact k a _ s na m
theorem pe_E2m (E : E2 X.K X.mg U x f1 f2 C) (hr : Room 2 X.A) (ha : PE X e (tVar i)) {j : Nat} (hk : PE X e2 (tVar j)) (hg : Gl X x := by rfl)
    (hall : (backToKw pos (keywordEach [⟨some f2, e2, kpos⟩] X.env)).all (·.1.isSome) = true := by rfl) (hks : (backToKw pos (keywordEach [⟨some f2, e2, kpos⟩] X.env)).filterMap (·.1) = [f2] := by rfl)
    (hdb : (x == ("__debug__" : Str)) = false := by decide)
    (he : starEach (e :: []) X.env = (false, eval e X.env) :: starEach [] X.env := by rfl)
    (hpl : ((backTo pos (starEach (e :: []) X.env)).any (·.1) || (backToKw pos (keywordEach [⟨some f2, e2, kpos⟩] X.env)).any (·.1.isNone)) = false := by rfl) :
    PE X (.Call (.Name x p) [e] [⟨some f2, e2, kpos⟩] pos) (tE2 C f1 f2 (fun vs => vs) (tCons (tVar i) (tCons (tVar j) tNil))) := by
  obtain ⟨fI, fd, T, F1, b, _, _, kb⟩ := E.c
  refine pe_imp (pe_errM (n := 1) T (F1 X.prog X.w X.base) kb rfl rfl (by decide) hr (pa_cons ha pa_nil he) (pk_cons hk pk_nil) hg hall hks hdb he hpl) ?_
  rintro σ H Q ⟨v1, g1, v2, g2, w1, w2, ev, k⟩
  cases ev
  refine ⟨v1, g1, rfl, v2, g2, fun a na => ⟨a, C, v1, v2, rfl, T.T, E.nf1, E.nf2, upd_same, fun dx h1 h2 => ⟨rfl, ?_⟩⟩⟩
  obtain ⟨s, m⟩ := made2 (C := C) (fs := [(f2, v2), (f1, v1)]) na h1 h2
  exact k a _ s na m
end
/-! displays of errors that keep one thing -/
def EsIn (H : Hp) (v : V) (L : List (Str × Addr)) (es : List V) : Prop := Paired (fun e (fc : Str × Addr) => ∃ a, e = V.ref a ∧ ExF [] H a fc.2 [(fc.1, v)]) es L
theorem paired_same {α β : Type} {R S : α → β → Prop} (h : ∀ a b, R a b → S a b) : ∀ {xs : List α} {ys : List β}, Paired R xs ys → Paired S xs ys
  | _, _, .nil => .nil
  | _, _, .cons a r => .cons (h _ _ a) (paired_same h r)
theorem paired_app {α β : Type} {R : α → β → Prop} : ∀ {xs : List α} {ys : List β} {xs2 : List α} {ys2 : List β}, Paired R xs ys → Paired R xs2 ys2 → Paired R (xs ++ xs2) (ys ++ ys2)
  | _, _, _, _, .nil, h => h
  | _, _, _, _, .cons a r, h => .cons a (paired_app r h)
theorem paired_at {α β : Type} {R : α → β → Prop} : ∀ {xs : List α} {ys : List β}, Paired R xs ys → ∀ (i : Nat) (y : β), ys[i]? = some y → ∃ x, xs[i]? = some x ∧ R x y
  | _, _, .nil, _, _, h => by simp at h
  | _, _, .cons a r, 0, y, h => by
    simp at h
    subst h
    exact ⟨_, rfl, a⟩
  | _, _, .cons a r, i + 1, y, h => by
    obtain ⟨x, hx, hr⟩ := paired_at r i y (by simpa using h)
    exact ⟨x, by simpa using hx, hr⟩
theorem EsIn.same {H H' : Hp} {v : V} {L : List (Str × Addr)} {es : List V} (h : EsIn H v L es) (s : Same H H') : EsIn H' v L es := paired_same (fun _ _ ⟨a, e, x⟩ => ⟨a, e, x.same s⟩) h
theorem EsIn.app {H : Hp} {v : V} {L L2 : List (Str × Addr)} {es es2 : List V} (h : EsIn H v L es) (g : EsIn H v L2 es2) : EsIn H v (L ++ L2) (es ++ es2) := paired_app h g
theorem EsIn.len {H : Hp} {v : V} {L : List (Str × Addr)} {es : List V} (h : EsIn H v L es) : es.length = L.length := Paired.length h
def tErrs (i : Nat) (L : List (Str × Addr)) : TA := fun σ H Q => ∃ v, σ[i]? = some (some v) ∧ ∀ es H2, Same H H2 → EsIn H2 v L es → Q es H2
theorem e_errs {i : Nat} {L : List (Str × Addr)} {σ : L2.St} {H : Hp} {Q : List V → Hp → Prop} : tErrs i L σ H Q = ∃ v, σ[i]? = some (some v) ∧ ∀ es H2, Same H H2 → EsIn H2 v L es → Q es H2 := rfl
section
variable {X : Cx} {x f m : Str} {C D U : Addr} {e : Expr} {es : List Expr} {t : TA} {p pos kpos : Pos} {i : Nat} {L : List (Str × Addr)}
theorem pa_E0 : PA X [] (tErrs i []) := pa_imp pa_nil fun σ H Q ⟨v, _, k⟩ => k [] H (Same.refl H) .nil
theorem pa_E1 (h : PE X e (tE1 C f (tVar i))) (r : PA X es (tErrs i L)) (hs : starEach (e :: es) X.env = (false, eval e X.env) :: starEach es X.env := by rfl) : PA X (e :: es) (tErrs i ((f, C) :: L)) :=
  pa_imp (pa_cons h r hs) fun σ H Q ⟨v, g, k⟩ => ⟨v, g, fun a H2 S na x => ⟨v, g, fun es H3 S3 z => k (.ref a :: es) H3 (S.trans S3) (.cons ⟨a, rfl, x.same S3⟩ z)⟩⟩

/-! of which classes? -/
/-- the classes, by name: their names are theirs alone -/
def tSorts (K : PySem.W.Frag) (pn : List (Addr × Obj)) (U : Addr) (i : Nat) (L : List (Str × Addr)) : TA := fun σ H Q => ∃ a C n fs, σ[i]? = some (some (.ref a)) ∧ ExF pn H a C fs ∧ PySem.W.NvCls K C ∧ ErrN K U C n ∧
  (∀ x ∈ L, n = x.1 → C = x.2) ∧ Q (L.map fun x => .bl (decide (n = x.1))) H
theorem e_sorts {K : PySem.W.Frag} {pn : List (Addr × Obj)} {U : Addr} {i : Nat} {L : List (Str × Addr)} {σ : L2.St} {H : Hp} {Q : List V → Hp → Prop} : tSorts K pn U i L σ H Q = ∃ a C n fs, σ[i]? = some (some (.ref a)) ∧ ExF pn H a C fs ∧ PySem.W.NvCls K C ∧ ErrN K U C n ∧
  (∀ x ∈ L, n = x.1 → C = x.2) ∧ Q (L.map fun x => .bl (decide (n = x.1))) H := rfl
theorem pa_s0 : PA X [] (tSorts X.K X.pn U i []) := pa_imp pa_nil fun σ H Q ⟨_, _, _, _, _, _, _, _, _, k⟩ => k
theorem pa_s1 (E : ErrN X.K U D m) (nu : D ≠ U) (h : PE X e (tCB (rIsiX X.K X.pn) (tCons (tVar i) (tCons (tC (.ref D)) tNil)))) (r : PA X es (tSorts X.K X.pn U i L)) (hs : starEach (e :: es) X.env = (false, eval e X.env) :: starEach es X.env := by rfl) :
    PA X (e :: es) (tSorts X.K X.pn U i ((m, D) :: L)) := by
  refine pa_imp (pa_cons h r hs) ?_
  rintro σ H Q ⟨a, C, n, fs, g, ex, nv, en, ne, k⟩
  exact ⟨.ref a, g, a, C, fs, .ref D, .ref D, decide (n = m), rfl, ex, nv, .own D, en.one E nu (ne (m, D) (by simp)), a, C, n, fs, g, ex, nv, en, fun x hx => ne x (by simp [hx]), k⟩
end
/-- one of some classes? -/
theorem kit_some {K : PySem.W.Frag} {U C : Addr} {n : Str} (en : ErrN K U C n) : ∀ {L : List (Str × Addr)}, (∀ x ∈ L, ErrN K U x.2 x.1 ∧ x.2 ≠ U ∧ (n = x.1 → C = x.2)) → PySem.W.kitAny K (.ref C) (L.map fun (x : Str × Addr) => Value.ref x.2) = some (decide (n ∈ L.map (fun (x : Str × Addr) => x.1)))
  | [], _ => by simp [PySem.W.kitAny]
  | x :: L, h => by
    obtain ⟨E, nu, ne⟩ := h x (by simp)
    have ih := kit_some en (L := L) fun y hy => h y (by simp [hy])
    show (match PySem.W.kitOne K (.ref C) (.ref x.2) with | some true => some true | some false => PySem.W.kitAny K (.ref C) (L.map fun (x : Str × Addr) => Value.ref x.2) | none => none) = _
    rw [en.one E nu ne]
    by_cases q : n = x.1
    · simp [q]
    · rw [decide_eq_false q]
      simp only [ih, List.map_cons, List.mem_cons, q, false_or]
theorem own_pairs : ∀ (L : List Addr), Paired ClsV (L.map V.ref) (L.map Value.ref)
  | [] => .nil
  | a :: L => .cons (.own a) (own_pairs L)
theorem r_isXT {K : PySem.W.Frag} {pn : List (Addr × Obj)} {H : Hp} {Q : VK} {a tp U C : Addr} {fs : List (Str × V)} {n : Str} (L : List (Str × Addr)) (ex : ExF pn H a C fs) (nv : PySem.W.NvCls K C) (en : ErrN K U C n) (ht : H tp = some (.tup ((L.map (·.2)).map V.ref)))
    (h : ∀ x ∈ L, ErrN K U x.2 x.1 ∧ x.2 ≠ U ∧ (n = x.1 → C = x.2)) (q : Q (.bl (decide (n ∈ L.map (·.1)))) H) : rIsiXT K pn [.ref a, .ref tp] H Q :=
  ⟨a, C, tp, fs, _, _, _, rfl, ex, nv, ht, own_pairs _, by rw [List.map_map]; exact kit_some en h, q⟩
theorem ExF.in {pn : List (Addr × Obj)} {H : Hp} {a C : Addr} {fs : List (Str × V)} (h : ExF [] H a C fs) : ExF pn H a C fs := by
  rcases h with h | h | ⟨oe, d, vs, h1, _⟩ | ⟨oe, vs, _, h1, _⟩
  · exact .inl h
  · exact .inr (.inl h)
  · simp at h1
  · simp at h1
end Nv

namespace Nv
open PySem PySem.Spec PyProof.Rows L2

/-! raise C(..), of the many own classes -/
theorem pmkN_imp {X : Cx} {e : Expr} {t t' : L2.St → Hp → XK → Prop} (h : L2N.PMk X e t) (i : ∀ σ H Q, t' σ H Q → t σ H Q) : L2N.PMk X e t' := fun pins s σ H Q I q => h pins s σ H Q I (i _ _ _ q)
theorem takes0N {X : Cx} : L2N.Takes X (fun _ _ _ _ => False) := fun u s' ⟨_, _, _, _, _, _, _, _, _, _, _, _, _, _, _, _, w⟩ => w.elim
def tMk1 (C : Addr) (f : Str) (te : TE) : L2.St → Hp → XK → Prop := fun σ H Q => te σ H fun v H1 => ∀ d H2, Same H1 H2 → H1 d = none → H2 d = some (.xd [(f, v)]) → Q (.ref C) (some d) H2
def tMk2 (C : Addr) (f1 f2 : Str) (π : List V → List V) (t : TA) : L2.St → Hp → XK → Prop := fun σ H Q => t σ H fun vs H1 => ∃ v1 v2, π vs = [v1, v2] ∧ ∀ d H2, Same H1 H2 → H1 d = none → H2 d = some (.xd [(f2, v2), (f1, v1)]) → Q (.ref C) (some d) H2
theorem e_mk1 {C : Addr} {f : Str} {te : TE} {σ : L2.St} {H : Hp} {Q : XK} : tMk1 C f te σ H Q = te σ H (fun v H1 => ∀ d H2, Same H1 H2 → H1 d = none → H2 d = some (.xd [(f, v)]) → Q (.ref C) (some d) H2) := rfl
theorem e_mk2 {C : Addr} {f1 f2 : Str} {π : List V → List V} {t : TA} {σ : L2.St} {H : Hp} {Q : XK} : tMk2 C f1 f2 π t σ H Q = t σ H (fun vs H1 => ∃ v1 v2, π vs = [v1, v2] ∧ ∀ d H2, Same H1 H2 → H1 d = none → H2 d = some (.xd [(f2, v2), (f1, v1)]) → Q (.ref C) (some d) H2) := rfl
theorem thrown {H1 H2 : Hp} {a dx : Addr} {fs : List (Str × V)} (s : Same H1 H2) (na : H1 a = none) (nd : H1 dx = none) : Same H1 (upd (del H2 a) dx (.xd fs)) := fun b o hb => by
  rw [upd_ne (ne_of_none hb nd), del_ne (ne_of_none hb na)]
  exact s _ _ hb
section
variable {X : Cx} {x f f1 f2 : Str} {C U : Addr} {e e2 : Expr} {es : List Expr} {te : TE} {t t2 : TA} {p pos kpos kpos2 : Pos} {i : Nat}
theorem pmk_E1p (E : E1 X.K X.mg U x f C) (hr : Room 2 X.A) (he : PE X e te) (hg : Gl X x := by rfl)
    (hdb : (x == ("__debug__" : Str)) = false := by decide) (hs : starEach (e :: []) X.env = (false, eval e X.env) :: starEach [] X.env := by rfl) (hpl : (backTo pos (starEach [] X.env)).any (·.1) = false := by rfl) :
    L2N.PMk X (.Call (.Name x p) [e] [] pos) (tMk1 C f te) := by
  obtain ⟨fI, fd, T, F1, b, _⟩ := E.c
  refine pmkN_imp (pmk_errP T (F1 X.prog X.w X.base) b hr (by show 2 ≤ 100; decide) (pa_any he hs) hg hdb hs hpl) ?_
  intro σ H Q h
  refine ⟨_, h, fun v H1 k a na => ⟨a, C, v, rfl, T.T, E.nf, upd_same, fun dx h1 h2 => ⟨rfl, dx, [(f, v)], upd_same, ?_, ?_, ?_⟩⟩⟩
  · rw [upd_ne h2, upd_same]
  · rw [upd_ne h2] at h1
    exact h1
  · have m := (made1 (C := C) (f := f) (v := v) na h1 h2).1
    rw [upd_ne h2] at h1
    exact k dx _ (thrown m na h1) h1 upd_same
theorem pmk_E1k (E : E1 X.K X.mg U x f C) (hr : Room 2 X.A) (he : PE X e te) (hg : Gl X x := by rfl)
    (hall : (backToKw pos (keywordEach [⟨some f, e, kpos⟩] X.env)).all (·.1.isSome) = true := by rfl) (hks : (backToKw pos (keywordEach [⟨some f, e, kpos⟩] X.env)).filterMap (·.1) = [f] := by rfl)
    (hdb : (x == ("__debug__" : Str)) = false := by decide)
    (hpl : ((backTo pos (starEach [] X.env)).any (·.1) || (backToKw pos (keywordEach [⟨some f, e, kpos⟩] X.env)).any (·.1.isNone)) = false := by rfl) :
    L2N.PMk X (.Call (.Name x p) [] [⟨some f, e, kpos⟩] pos) (tMk1 C f te) := by
  obtain ⟨fI, fd, T, F1, b, kb⟩ := E.c
  refine pmkN_imp (pmk_errK (π := fun vs => vs) (ρ := fun vs => vs) T (F1 X.prog X.w X.base) kb rfl (fun _ _ r => r) (fun _ => rfl) hr (pk_any1 he) hg hall hks hdb hpl) ?_
  intro σ H Q h
  refine ⟨_, h, fun v H1 k a na => ⟨a, C, v, rfl, T.T, E.nf, upd_same, fun dx h1 h2 => ⟨rfl, dx, [(f, v)], upd_same, ?_, ?_, ?_⟩⟩⟩
  · rw [upd_ne h2, upd_same]
  · rw [upd_ne h2] at h1
    exact h1
  · have m := (made1 (C := C) (f := f) (v := v) na h1 h2).1
    rw [upd_ne h2] at h1
    exact k dx _ (thrown m na h1) h1 upd_same
theorem pmk_E2p (E : E2 X.K X.mg U x f1 f2 C) (hr : Room 2 X.A) (ha : PA X (e :: es) t) (hg : Gl X x := by rfl)
    (hdb : (x == ("__debug__" : Str)) = false := by decide) (he : starEach (e :: es) X.env = (false, eval e X.env) :: starEach es X.env := by rfl) (hpl : (backTo pos (starEach es X.env)).any (·.1) = false := by rfl) :
    L2N.PMk X (.Call (.Name x p) (e :: es) [] pos) (tMk2 C f1 f2 (fun vs => vs) t) := by
  obtain ⟨fI, fd, T, F1, b, _⟩ := E.c
  refine pmkN_imp (pmk_errP T (F1 X.prog X.w X.base) b hr (by show 3 ≤ 100; decide) (pa_anyA ha) hg hdb he hpl) ?_
  intro σ H Q h
  refine ⟨_, h, fun vs H1 ⟨v1, v2, ev, k⟩ a na => ⟨a, C, v1, v2, by rw [ev], T.T, E.nf1, E.nf2, upd_same, fun dx h1 h2 => ⟨rfl, dx, [(f2, v2), (f1, v1)], ?_, upd_same, ?_, ?_⟩⟩⟩
  · rw [upd_ne (Ne.symm h2), upd_same]
  · rw [upd_ne h2] at h1
    exact h1
  · have m := (made2 (C := C) (fs := [(f2, v2), (f1, v1)]) na h1 h2).1
    rw [upd_ne h2] at h1
    exact k dx _ (thrown m na h1) h1 upd_same
theorem pmk_E2r {kws : List Keyword} (E : E2 X.K X.mg U x f1 f2 C) (hr : Room 2 X.A) (hk : PK X kws t) (hg : Gl X x := by rfl)
    (hall : (backToKw pos (keywordEach kws X.env)).all (·.1.isSome) = true := by rfl) (hks : (backToKw pos (keywordEach kws X.env)).filterMap (·.1) = [f2, f1] := by rfl)
    (hdb : (x == ("__debug__" : Str)) = false := by decide)
    (hpl : ((backTo pos (starEach [] X.env)).any (·.1) || (backToKw pos (keywordEach kws X.env)).any (·.1.isNone)) = false := by rfl) :
    L2N.PMk X (.Call (.Name x p) [] kws pos) (tMk2 C f1 f2 List.reverse t) := by
  obtain ⟨fI, fd, T, F1, b, _, kb, _⟩ := E.c
  refine pmkN_imp (pmk_errK (π := List.reverse) (ρ := List.reverse) T (F1 X.prog X.w X.base) kb rfl (fun _ _ r => vals_rev r) (fun _ => by simp) hr (pk_anyA hk) hg hall hks hdb hpl) ?_
  intro σ H Q h
  refine ⟨_, h, fun vs H1 ⟨v1, v2, ev, k⟩ a na => ⟨a, C, v1, v2, by rw [ev], T.T, E.nf1, E.nf2, upd_same, fun dx h1 h2 => ⟨rfl, dx, [(f2, v2), (f1, v1)], ?_, upd_same, ?_, ?_⟩⟩⟩
  · rw [upd_ne (Ne.symm h2), upd_same]
  · rw [upd_ne h2] at h1
    exact h1
  · have m := (made2 (C := C) (fs := [(f2, v2), (f1, v1)]) na h1 h2).1
    rw [upd_ne h2] at h1
    exact k dx _ (thrown m na h1) h1 upd_same
end
/-- what stands of the class above -/
structure UsE (K : PySem.W.Frag) (U : Addr) : Prop where
  cl : ∃ cd, PySem.W.clsIn K U = some cd ∧ cd.mro.length = 5
  ty : PySem.W.typeIn K (.ref U) = some (.type "type")
  eb : PySem.W.subIn K (.ref U) (.type "BaseException") = some true
  hd : PySem.W.hasDictIn K U = true
theorem ErrN.nu {K : PySem.W.Frag} {U C : Addr} {n : Str} (h : ErrN K U C n) (u : UsE K U) : C ≠ U := fun e => by
  subst e
  obtain ⟨c1, e1, l1⟩ := u.cl
  obtain ⟨c2, e2, _, m2⟩ := h.cls
  rw [e1] at e2
  cases e2
  rw [m2] at l1
  cases l1
theorem ErrN.exm {K : PySem.W.Frag} {U C : Addr} {n : Str} (h : ErrN K U C n) (u : UsE K U) : PySem.W.exmOne K (.ref C) (.ref U) = some true :=
  PySem.W.exm_ref u.eb u.hd u.ty (by rw [h.mro]; simp)
theorem ErrN.up {K : PySem.W.Frag} {U C : Addr} {n : Str} (h : ErrN K U C n) (u : UsE K U) : PySem.W.kitOne K (.ref C) (.ref U) = some true := by
  obtain ⟨c1, e1, _⟩ := u.cl
  exact h.below (by rw [e1]; rfl) u.ty
/-! a caught exception, handed on -/
/-- what is known of a caught exception -/
def ExC (H : Hp) (cls : Value) (d : Option Addr) (C : Addr) (fs : List (Str × V)) : Prop := cls = .ref C ∧ ((∃ dd, d = some dd ∧ H dd = some (.xd fs)) ∨ (d = none ∧ fs = []))
theorem ExC.ex {H : Hp} {cls : Value} {d : Option Addr} {C a : Addr} {oe : Obj} {fs : List (Str × V)} (h : ExC H cls d C fs) (z : Zc cls d oe) (f : ∃ vs, oe.data = .fields vs) : ExF [(a, oe)] H a C fs := by
  obtain ⟨rfl, h⟩ := h
  obtain ⟨vs, f⟩ := f
  rcases h with ⟨dd, rfl, h⟩ | ⟨rfl, rfl⟩
  · exact .inr (.inr (.inl ⟨oe, dd, vs, by simp, z, f, h⟩))
  · exact .inr (.inr (.inr ⟨oe, vs, rfl, by simp, z, f⟩))
theorem ExC.same {H H' : Hp} {cls : Value} {d : Option Addr} {C : Addr} {fs : List (Str × V)} (h : ExC H cls d C fs) (s : Same H H') : ExC H' cls d C fs := by
  obtain ⟨e, ⟨dd, e2, h⟩ | h⟩ := h
  · exact ⟨e, .inl ⟨dd, e2, s _ _ h⟩⟩
  · exact ⟨e, .inr h⟩
open L2H in
theorem pe_cGX {X : Cx} {W : WX} {k : Nat} {f : Addr} {fd : FuncData} {ps : List Str} {sp : Addr × Obj → Sp} {sp' : Sp} {x : Str} {q pos : Pos} {e : Expr} {es : List Expr} {t : TA} {p : Addr × Obj}
    (F : FnGP X.prog X.w X.K X.mg X.base k f fd ps sp) (hc : ∀ vs H Q E, sp' vs H Q E → sp p vs H Q E) (b : Pos1 fd ps) (hG : X.A.guards = some []) (hot : Hot1 X.A p) (hr : RoomH k X.A) (hp : p ∈ X.pn)
    (hm : X.mg x = some (.ref f)) (hk : PySem.W.keepIn X.K (.ref f) = true) (ha : PA X (e :: es) t) (hg : Gl X x := by rfl)
    (hdb : (x == ("__debug__" : Str)) = false := by decide) (he : starEach (e :: es) X.env = (false, eval e X.env) :: starEach es X.env := by rfl)
    (hpl : (backTo pos (starEach es X.env)).any (·.1) = false := by rfl) : PE X (.Call (.Name x q) (e :: es) [] pos) (tCG sp' W t) := by
  refine pe_imp (pe_cGP (W := W) F b hG hot hr hp hm hk (pa_anyA ha) hg hdb he hpl) ?_
  intro σ H Q h
  exact ⟨_, h, fun vs H1 r => hc _ _ _ _ r⟩
/-! x != y of equal lists, or of equal dicts of flat values -/
def rNeU (K : PySem.W.Frag) : R2 := fun x y H Q => rNeV K x y H Q ∨ rNeDA x y H Q
theorem op_neU {X : Cx} (hu : X.A.units + 64 < cLine) : OpR X (compareOp .NotEq) (rNeU X.K) := by
  intro pins s σ H x y v u Q I rx ry h
  rcases h with h | h
  · exact op_neV hu pins s σ H x y v u Q I rx ry h
  · exact op_ne_dictA (by omega) pins s σ H x y v u Q I rx ry h
theorem op_neUK {X : Cx} {K : PySem.W.Frag} (h : X.K = K) (hu : X.A.units + 64 < cLine) : OpR X (compareOp .NotEq) (rNeU K) := by
  subst h
  exact op_neU hu
end Nv

namespace Nv
open PySem PySem.Spec PyProof.Rows L2 L2H

/-! a comprehension while an exception is handled -/
/-- the block's context, which keeps what is pinned around it -/
abbrev hblk (X : Cx) (s : Shared) (H : Hp) (scope : Scope) (ce : Env) (fp : List Addr) : Cx := Cx.tr (X.blk s H scope ce fp) X.pn (fun _ _ => False)
theorem hblk_of {X : Cx} {s s' : Shared} {H H' : Hp} {scope : Scope} {ce : Env} {fp : List Addr} {σ : L2.St} (J : Inv (X.blk s H scope ce fp) [] σ H' s')
    (pin : ∀ q ∈ X.pn, s'.heap.get? q.1 = some q.2 ∧ H' q.1 = none ∧ q.1 ≠ ce.locals ∧ q.1 ∉ frs X.stack ∧ ∀ v, q.2.data ≠ .cell v) : Inv (hblk X s H scope ce fp) [] σ H' s' := Inv.toTry (Inv.pins_of J pin) _
section
variable {X : Cx} {elt tg iter : Expr} {ifs : List Expr} {scope : Scope} {own : List (Str × Nat)} {pos : Pos} {wi : TI} {g : TG} {tt : TT} {te : TE}
theorem pe_lcH (hot : HotC X) (nd : X.N.Nodup) (hi : PIH X tg iter wi) (ok : BlkOk X.N X.env.scope scope own)
    (hg : ∀ (s : Shared) (H : Hp) (C : Addr) (cl : List (Str × Addr)) (fp : List Addr), PG (hblk X s H scope (compEnvC scope cl C X.env) fp) tg g)
    (ht : ∀ (s : Shared) (H : Hp) (C : Addr) (cl : List (Str × Addr)) (fp : List Addr), PTs (hblk X s H scope (compEnvC scope cl C X.env) fp) ifs tt)
    (he : ∀ (s : Shared) (H : Hp) (C : Addr) (cl : List (Str × Addr)) (fp : List Addr), PE (hblk X s H scope (compEnvC scope cl C X.env) fp) elt te)
    (hs : ∀ x, foldedSetIterable iter X.env x = pure x := by intro _; rfl) :
    PE X (.ListComp elt [⟨tg, iter, ifs, 0⟩] scope pos) (tLc wi g tt te (own.map (·.2))) := by
  constructor
  intro pins s σ H Q I h
  rw [eval_ListComp]
  have cells : ∀ y ∈ scope.names, y.2 = .free → ∃ c, X.env.cells.lookup y.1 = some c := by
    intro y m e
    exact (ok.free y m e).elim (fun k => I.ok.has _ (.inl k)) (fun k => I.ok.has _ (.inr k))
  refine wpAny_comprehension_free (use := none) rfl hs (closure_ok cells) ok.kind (fun y m e => by rw [ok.uniq y m, e]) ?_
  refine thn (hi.run pins s σ H _ I h) fun xv sa ha => thn ha fun itv sb hb => ?_
  obtain ⟨it, fp, tn, J, Hb, rfl, Ib, T, stb, fb, turns⟩ := hb
  refine wpAny_newObj_type (newEnv_comp ?_) (by show 0 ≤ sizeLine; decide)
  have dn : Hb sb.heap.objs.size = none := Ib.hok.fresh (Nat.le_refl _)
  obtain ⟨W, ⟨mz, wz⟩, turn⟩ := turns _ dn
  generalize eD : sb.heap.objs.size = D at dn turn wz ⊢
  -- the list that grows
  have kp : ∀ b o, sb.heap.get? b = some o → (sb.heap.push { cls := .type "list", data := .seq ([] : List Value).toArray }).get? b = some o := fun b o e => Heap.get?_push_of_some _ e
  have Ic : Inv X pins σ (upd Hb D (.lst [])) { sb with heap := sb.heap.push { cls := .type "list", data := .seq ([] : List Value).toArray } } :=
    Ib.laid (t' := sb.toks) kp (Nat.le_of_eq eD) ⟨Nat.zero_le _, [], 0, .nil, by rw [← eD]; exact Heap.get?_push_size _ rfl⟩
  have small : ∀ b ∈ fp, b < sb.heap.objs.size := by
    intro b m
    obtain ⟨o, e, _⟩ := T.obj _ _ stb b m
    exact Heap.lt_size e
  have fc : ∀ b ∈ fp, FpOk X pins (upd Hb D (.lst [])) b ∧ b < (sb.heap.push { cls := .type "list", data := .seq ([] : List Value).toArray }).objs.size := by
    intro b m
    have lt := small b m
    refine ⟨⟨?_, (fb b m).2⟩, ?_⟩
    · rw [upd_ne (by rw [← eD]; exact Nat.ne_of_lt lt)]
      exact (fb b m).1
    · rw [Heap.size_push]
      exact Nat.lt_succ_of_lt lt
  have stc : tn 0 (sb.heap.push { cls := .type "list", data := .seq ([] : List Value).toArray }) := T.keep _ _ _ stb fun b _ o e => kp b o e
  generalize es3 : ({ sb with heap := sb.heap.push { cls := .type "list", data := .seq ([] : List Value).toArray } } : Shared) = sc at Ic ⊢
  have h3 : sc.heap = sb.heap.push { cls := .type "list", data := .seq ([] : List Value).toArray } := by rw [← es3]
  rw [← h3] at fc stc
  generalize eH : upd Hb D (.lst []) = Hc at Ic fc wz
  have Id := block_start Ic ok nd fc
  show codeAny _ _ (.compStart (.ListComp elt [⟨tg, iter, ifs, 0⟩] scope pos) 0 (.ref it) (.ref D) (compEnvC scope (cellsFrom (sc.heap.objs.size + 1) scope.names (cloFrom X.env.cells scope.names [])) sc.heap.objs.size X.env)) (compPost (model X.prog X.w) X.A X.xe none (EP X pins σ Q) (.ref D) sc.heap.objs.size) { sc with heap := pushCells (sc.heap.push { cls := .type "dict", data := .dict #[] }) scope.names }
  have eg := hg sc Hc sc.heap.objs.size (cellsFrom (sc.heap.objs.size + 1) scope.names (cloFrom X.env.cells scope.names [])) fp
  have et := ht sc Hc sc.heap.objs.size (cellsFrom (sc.heap.objs.size + 1) scope.names (cloFrom X.env.cells scope.names [])) fp
  have ee := he sc Hc sc.heap.objs.size (cellsFrom (sc.heap.objs.size + 1) scope.names (cloFrom X.env.cells scope.names [])) fp
  generalize ece : compEnvC scope (cellsFrom (sc.heap.objs.size + 1) scope.names (cloFrom X.env.cells scope.names [])) sc.heap.objs.size X.env = ce at Id eg et ee ⊢
  have loc : ce.locals = sc.heap.objs.size := by
    rw [← ece]
    rfl
  have kq : ∀ b o, sc.heap.get? b = some o → (pushCells (sc.heap.push { cls := .type "dict", data := .dict #[] }) scope.names).get? b = some o := fun b o e => pushCells_keeps _ _ _ _ (Heap.get?_push_of_some _ e)
  have std : tn 0 (pushCells (sc.heap.push { cls := .type "dict", data := .dict #[] }) scope.names) := T.keep _ _ _ stc fun b _ o e => kq b o e
  have P0 : ∀ q ∈ X.pn, sc.heap.get? q.1 = some q.2 ∧ Hc q.1 = none ∧ q.1 ≠ ce.locals ∧ q.1 ∉ frs X.stack ∧ ∀ v, q.2.data ≠ .cell v := by
    intro q m
    have P1 := Ic.pin q (List.mem_append_left _ m)
    refine ⟨P1.1, P1.2.1, ?_, fun hm => (List.mem_cons.mp (Ic.stkSub q.1 hm)).elim P1.2.2.1 P1.2.2.2.1, P1.2.2.2.2⟩
    rw [loc]
    exact Nat.ne_of_lt (Heap.lt_size P1.1)
  have Y0 : Inv (hblk X sc Hc scope ce fp) [] (wipe σ (own.map (·.2))) Hc { sc with heap := pushCells (sc.heap.push { cls := .type "dict", data := .dict #[] }) scope.names } :=
    hblk_of Id fun q m => ⟨kq _ _ (P0 q m).1, (P0 q m).2⟩
  have hotY : HotC (hblk X sc Hc scope ce fp) := by
    obtain ⟨q, h1, h2⟩ := hot
    exact ⟨q, h1, h2⟩
  have away : ∀ {σ' : L2.St} {H' : Hp} {s' : Shared}, Inv (hblk X sc Hc scope ce fp) [] σ' H' s' → (∀ b ∈ fp, H' b = none) → tn 0 sc.heap → ∀ b ∈ fp, FpOk (hblk X sc Hc scope ce fp) [] H' b := by
    intro σ' H' s' J' no _ b m
    refine ⟨no b m, (J'.ok.exf b m).1, J'.ok.exfs b m, .inl m, fun x c e => (J'.ok.exf b m).2 x c e, fun q hq => ?_⟩
    have hq' : q ∈ X.pn := by
      rcases List.mem_append.mp hq with z | z
      · exact z
      · exact absurd z (by simp)
    exact (fc b m).1.2.2.2.2.2 q (List.mem_append_left _ hq')
  generalize esd : ({ sc with heap := pushCells (sc.heap.push { cls := .type "dict", data := .dict #[] }) scope.names } : Shared) = sd at Y0 ⊢
  have std' : tn 0 sd.heap := by
    rw [← esd]
    exact std
  have fin : codeAny (model X.prog X.w) X.A (.compLoop (.ListComp elt [⟨tg, iter, ifs, 0⟩] scope pos) 0 (.ref it) (.ref D) ce) (compPost (model X.prog X.w) X.A X.xe none (EP X pins σ Q) (.ref D) sc.heap.objs.size) sd := by
    refine compLoop_any (fun m s' => ∃ i H', Inv (hblk X sc Hc scope ce fp) [] (wipe σ (own.map (·.2))) H' s' ∧ tn i s'.heap ∧ (∀ b ∈ fp, H' b = none) ∧ W i m H') ?_ mz ⟨0, Hc, Y0, std', fun b m => (fc b m).1.1, wz⟩
    rintro m se ⟨i, He, Ie, ste, noe, we⟩
    rcases turn i m He we with ⟨stop, last⟩ | ⟨go, Nx, less, step⟩
    · refine thnF (T.done (hblk X sc Hc scope ce fp) rfl rfl rfl hotY i [] se _ He (fun _ _ => False) Ie (away Ie noe stc) ste stop) ?_
      rintro r sf ⟨rfl, If⟩
      have Ig : Inv X pins σ He sf := Ic.call' (ch := fp) If.os If.base If.hok If.bare fun b m => ⟨(fc b m).1.2.2.2.1, (fc b m).1.2.1, (fc b m).1.2.2.2.2.1, (fc b m).1.2.2.2.2.2⟩
      have nC : He sc.heap.objs.size = none := by
        have z : He ce.locals = none := If.free
        rwa [loc] at z
      obtain ⟨mp, ns, _⟩ := If.loc
      have ns : sf.heap.Ns ce.locals mp := ns
      rw [loc] at ns
      refine ⟨mp, ns, fun hz same => ?_⟩
      obtain ⟨f0, f1, f2, f3, f4, f5⟩ := Ic.fpOk (Nat.le_refl _) nC
      exact ⟨.ref D, He, Ig.turned (t' := sf.toks) (fun b o nb e => (same.2 b nb).trans e) f0 f1 f3 f4 f5, rfl, last⟩
    · refine thnF (T.item (hblk X sc Hc scope ce fp) rfl rfl rfl hotY i [] se _ He (fun _ _ => False) Ie (away Ie noe stc) ste go) ?_
      rintro r sf ⟨u, rfl, hf⟩
      refine thnF hf ?_
      rintro _ sg ⟨x, Hg, Ig, rg, yg, stg, nog⟩
      have Ip := Ig.pinned (away Ig nog stc) (T.obj _ _ stg)
      refine thnF (eg.run _ sg _ Hg x u _ Ip rg (step x Hg yg)) ?_
      rintro _ sh ⟨σh, Hh, Ih, eh, qh⟩
      refine thnF (et.run _ sh σh Hh _ Ih qh) ?_
      rintro b sk ⟨Hk, Ik, qk⟩
      have next : ∀ {s' : Shared} {H' : Hp}, Inv (hblk X sc Hc scope ce fp) ([] ++ pinsAt fp sg.heap) σh H' s' → Nx H' → ∃ m', m' < m ∧ ∃ i H', Inv (hblk X sc Hc scope ce fp) [] (wipe σ (own.map (·.2))) H' s' ∧ tn i s'.heap ∧ (∀ b ∈ fp, H' b = none) ∧ W i m' H' := by
        intro s' H' I' nx
        obtain ⟨m', lt, w'⟩ := less H' nx
        have still : ∀ b ∈ fp, ∀ o, sg.heap.get? b = some o → s'.heap.get? b = some o ∧ H' b = none := by
          intro b mb o e
          have z := I'.pin (b, o) (List.mem_append_right _ (List.mem_append_right _ (mem_pinsAt mb e)))
          exact ⟨z.1, z.2.1⟩
        have ln : (wipe σ (own.map (·.2))).length = σh.length := by rw [← eh, wipe_length]
        refine ⟨m', lt, i + 1, H', Inv.weak (Inv.unpinned (pins := []) I') ln ?_, T.keep _ _ _ stg (fun b mb o e => (still b mb o e).1), ?_, w'⟩
        · intro j v e
          rw [← eh] at e
          exact (wipe_some e).1
        · intro b mb
          obtain ⟨o, e, _⟩ := T.obj _ _ stg b mb
          exact (still b mb o e).2
      cases b with
      | true =>
        rw [if_pos rfl] at qk ⊢
        refine thnF (ee.run _ sk σh Hk _ Ik qk) ?_
        rintro z sl ⟨yv, Hl, Il, rl, acc, dl, zl, nx⟩
        exact app_ok (X := hblk X sc Hc scope ce fp) Il dl zl rl fun sm Im => next Im nx
      | false =>
        rw [if_neg (by decide)] at qk ⊢
        exact next Ik qk
  exact codeAny_compStart_list fin (T.self X.A 0 _ _ _ std' fin)
end
theorem hotS {A : Around} {a : Addr} {oe : Obj} {cls : Value} {d : Option Addr} (h : A.handled = some (.ref a)) (hz : L2N.Zn cls d oe) (hf : ∃ vs, oe.data = .fields vs) : Hot1 A (a, oe) := by
  obtain ⟨vs, e⟩ := hf
  exact ⟨h, vs, e, hz.2.2 vs e⟩
/-! a comprehension over range(n) that takes the numbers that pass a test -/
def passI (f : Nat → Bool) (n : Nat) : List V := ((List.range n).filter f).map fun (i : Nat) => V.int (0 + (i : Int))
theorem passI_succ {f : Nat → Bool} {n : Nat} : passI f (n + 1) = if f n = true then passI f n ++ [V.int (0 + (n : Int))] else passI f n := by
  unfold passI
  rw [List.range_succ, List.filter_append, List.map_append]
  cases h : f n <;> simp [h]
theorem passI_len (f : Nat → Bool) (n : Nat) : (passI f n).length ≤ n := by
  unfold passI
  rw [List.length_map]
  exact Nat.le_trans (List.length_filter_le _ _) (by rw [List.length_range]; exact Nat.le_refl _)
theorem lc_pass {g : TG} {tt : TT} {te : TE} {vs : List Nat} {σ : L2.St} {H : Hp} {D : Addr} {Qd : Hp → Prop} {n : Nat} (f : Nat → Bool) (hD : H D = none) (hz : n ≤ sizeLine)
    (hs : ∀ (i : Nat) (Ha : Hp) (R : VK) (Rn : Hp → Prop), i < n → Same H Ha → (f i = true → ∀ H4, Same Ha H4 → R (.int (0 + (i : Int))) H4) → (f i = false → ∀ H4, Same Ha H4 → Rn H4) →
      g (.int (0 + (i : Int))) (wipe σ vs) Ha fun σ2 H2 => wipe σ2 vs = wipe σ vs ∧ tt σ2 H2 fun b H3 => if b = true then te σ2 H3 R else Rn H3)
    (hd : ∀ H', Same H H' → H' D = some (.lst (passI f n)) → Qd H') :
    ∃ W : Nat → Nat → Hp → Prop, (∃ m, W 0 m (upd H D (.lst []))) ∧ ∀ i m H, W i m H →
      ((Itr 0 n).stop i H ∧ Qd H) ∨ ((Itr 0 n).go i H ∧ ∃ Nx : Hp → Prop, (∀ H', Nx H' → ∃ m', m' < m ∧ W (i + 1) m' H') ∧ ∀ x H', (Itr 0 n).yld i H x H' → g x (wipe σ vs) H' fun σ2 H2 => wipe σ2 vs = wipe σ vs ∧ tt σ2 H2 fun b H3 =>
        if b = true then te σ2 H3 fun y H4 => ∃ acc, H4 D = some (.lst acc) ∧ acc.length < sizeLine ∧ Nx (upd H4 D (.lst (acc ++ [y]))) else Nx H3) := by
  refine ⟨fun i m Ha => i + m = n ∧ Ha D = some (.lst (passI f i)) ∧ Same H Ha, ⟨n, by omega, by rw [upd_same]; rfl, Same.new hD⟩, ?_⟩
  rintro i m Ha ⟨im, fD, S⟩
  by_cases hi : i < n
  · refine .inr ⟨hi, fun H' => H' D = some (.lst (passI f (i + 1))) ∧ Same H H', fun H' ⟨a, b⟩ => ⟨m - 1, by omega, by omega, a, b⟩, ?_⟩
    rintro x Hb ⟨rfl, rfl⟩
    refine hs i Hb _ _ hi S (fun hf H4 S4 => ?_) (fun hf H4 S4 => ⟨?_, S.trans S4⟩)
    · refine ⟨passI f i, S4 _ _ fD, Nat.lt_of_le_of_lt (passI_len f i) (by omega), ?_, fun b o hb => ?_⟩
      · rw [upd_same, passI_succ, if_pos hf]
      · rw [upd_ne (ne_of_none hb hD)]
        exact S4 _ _ (S _ _ hb)
    · rw [passI_succ, if_neg (by rw [hf]; decide)]
      exact S4 _ _ fD
  · have e : i = n := by omega
    subst e
    exact .inl ⟨Nat.le_refl _, hd Ha S fD⟩
end Nv

namespace Nv
open PySem PySem.Spec PyProof.Rows L2

/-! displays of data: what they make stands apart from all that stood -/
def NewD (H H2 : Hp) (v : V) (d : PyData) : Prop := ∃ Hs : Hp, (∀ a o, H a = some o → Hs a = none) ∧ (∀ a o, Hs a = some o → H2 a = some o) ∧ DV Hs v d
def NewDs (H H2 : Hp) (vs : List V) (ds : List PyData) : Prop := ∃ Hs : Hp, (∀ a o, H a = some o → Hs a = none) ∧ (∀ a o, Hs a = some o → H2 a = some o) ∧ DVs Hs vs ds
def tDat (d : PyData) : TE := fun _ H Q => ∀ v H2, Same H H2 → NewD H H2 v d → Q v H2
def tDats (ds : List PyData) : TA := fun _ H Q => ∀ vs H2, Same H H2 → NewDs H H2 vs ds → Q vs H2
theorem e_dat {d : PyData} {σ : L2.St} {H : Hp} {Q : VK} : tDat d σ H Q = ∀ v H2, Same H H2 → NewD H H2 v d → Q v H2 := rfl
theorem e_dats {ds : List PyData} {σ : L2.St} {H : Hp} {Q : List V → Hp → Prop} : tDats ds σ H Q = ∀ vs H2, Same H H2 → NewDs H H2 vs ds → Q vs H2 := rfl
def noHp : Hp := fun _ => none
theorem newD_flat {H : Hp} {v : V} {d : PyData} (h : DV noHp v d) : NewD H H v d := ⟨noHp, fun _ _ _ => rfl, (fun a o e => nomatch (show none = some o from e)), h⟩
section
variable {X : Cx} {e : Expr} {es : List Expr} {t : TE} {d : PyData} {ds : List PyData} {pos : Pos}
theorem pd_flat (v : V) (he : PE X e t) (h : DV noHp v d) (i : ∀ σ H (Q : VK), Q v H → t σ H Q) : PE X e (tDat d) := pe_imp he fun σ H Q k => i σ H Q (k v H (Same.refl H) (newD_flat h))
theorem pd_non {j p} : PE X (.Constant .none j p) (tDat .none) := pd_flat .non pe_non .non fun _ _ _ q => q
theorem pd_bl {b j p} : PE X (.Constant (.bool b) j p) (tDat (.bool b)) := pd_flat (.bl b) pe_bl (.bl b) fun _ _ _ q => q
theorem pd_int {i j p} : PE X (.Constant (.int i) j p) (tDat (.int i)) := pd_flat (.int i) pe_int (.int i) fun _ _ _ q => q
theorem pd_str {z j p} : PE X (.Constant (.str z) j p) (tDat (.str z)) := pd_flat (.str z) pe_str (.str z) fun _ _ _ q => q
theorem pds_nil : PA X [] (tDats []) := pa_imp pa_nil fun σ H Q k => k [] H (Same.refl H) ⟨noHp, fun _ _ _ => rfl, (fun a o e => nomatch (show none = some o from e)), .nil⟩
theorem pds_cons (he : PE X e (tDat d)) (hr : PA X es (tDats ds)) (hs : starEach (e :: es) X.env = (false, eval e X.env) :: starEach es X.env := by rfl) : PA X (e :: es) (tDats (d :: ds)) := by
  refine pa_imp (pa_cons he hr hs) ?_
  intro σ H Q k v H1 S1 ⟨A, a1, a2, a3⟩ vs H2 S2 ⟨B, b1, b2, b3⟩
  refine k (v :: vs) H2 (S1.trans S2) ⟨fun a => match A a with | some o => some o | none => B a, fun a o h => ?_, fun a o h => ?_, .cons (a3.mono fun a o h => by simp [h]) (b3.mono fun a o h => ?_)⟩
  · simp only [a1 a o h]
    exact b1 a o (S1 _ _ h)
  · cases e1 : A a with
    | none =>
      simp only [e1] at h
      exact b2 _ _ h
    | some u =>
      simp only [e1] at h
      cases h
      exact S2 _ _ (a2 _ _ e1)
  · cases e1 : A a with
    | none => exact h
    | some u =>
      have z := S2 _ _ (a2 _ _ e1)
      rw [b2 _ _ h] at z
      exact z.symm
theorem fresh_of {H H1 : Hp} {a : Addr} (S : Same H H1) (h : H1 a = none) : H a = none := by
  cases e : H a with
  | none => rfl
  | some o =>
    rw [S _ _ e] at h
    cases h
theorem newD_add {H H1 : Hp} {A : Hp} {p : Addr} {o : HO} (S : Same H H1) (a1 : ∀ a o, H a = some o → A a = none) (a2 : ∀ a o, A a = some o → H1 a = some o) (hp : H1 p = none) :
    (∀ a u, H a = some u → upd A p o a = none) ∧ (∀ a u, upd A p o a = some u → upd H1 p o a = some u) ∧ (∀ a u, A a = some u → upd A p o a = some u) := by
  have np : A p = none := by
    cases e : A p with
    | none => rfl
    | some u =>
      rw [a2 _ _ e] at hp
      cases hp
  refine ⟨fun a u h => ?_, fun a u h => ?_, fun a u h => ?_⟩
  · rw [upd_ne (ne_of_none h (fresh_of S hp))]
    exact a1 a u h
  · by_cases q : a = p
    · subst q
      rw [upd_same] at h ⊢
      exact h
    · rw [upd_ne q] at h ⊢
      exact a2 _ _ h
  · rw [upd_ne (ne_of_none h np)]
    exact h
theorem pd_lst (h : PA X es (tDats ds)) (hz : ds.length ≤ 1000 := by decide) : PE X (.List es pos) (tDat (.list ds)) := by
  refine pe_imp (pe_lst1 h) ?_
  intro σ H Q k vs H1 S ⟨A, a1, a2, a3⟩
  have sz : sizeLine = 16777216 := sizeLine_eq
  have := a3.len
  refine ⟨by omega, fun p hp np => ?_⟩
  obtain ⟨z1, z2, z3⟩ := newD_add (o := .lst vs) S a1 a2 hp
  exact k (.ref p) _ (S.trans (Same.new hp)) ⟨_, z1, z2, .lst upd_same np (a3.mono z3)⟩
theorem pd_tup {j : Nat} (h : PA X es (tDats ds)) (hz : ds.length ≤ 1000 := by decide) : PE X (.Tuple es j pos) (tDat (.tuple ds)) := by
  refine pe_imp (pe_tup h) ?_
  intro σ H Q k vs H1 S ⟨A, a1, a2, a3⟩
  have sz : sizeLine = 16777216 := sizeLine_eq
  have := a3.len
  refine ⟨by omega, fun p hp => ?_⟩
  obtain ⟨z1, z2, z3⟩ := newD_add (o := .tup vs) S a1 a2 hp
  exact k (.ref p) _ (S.trans (Same.new hp)) ⟨_, z1, z2, .tup upd_same (a3.mono z3)⟩
theorem pd_dct0 : PE X (.Dict [] [] pos) (tDat (.dict [])) := by
  refine pe_imp pe_dnewK ?_
  intro σ H Q k p hp
  obtain ⟨z1, z2, z3⟩ := newD_add (o := .dK []) (Same.refl H) (A := noHp) (fun _ _ _ => rfl) ((fun a o e => nomatch (show none = some o from e))) hp
  exact k (.ref p) _ (Same.new hp) ⟨_, z1, z2, .dct upd_same .nil⟩
def rDictP (K : PySem.W.Frag) : List V → Hp → VK → Prop := fun xs H Q => ∃ (a : Addr) (ps : List Addr) (kvs : List (Key × V)), xs = [.ref a] ∧ SqL K H a (ps.map V.ref) ∧ Paired (fun p kv => SqT K H p [kV kv.1, kv.2]) ps kvs ∧ ∀ p, H p = none → Q (.ref p) (upd H p (.dK (mergeK [] kvs)))
/-- dict([(k, e)]) -/
theorem pd_dict1 {z : Str} (h : PE X e (tCB (rDictP X.K) (tCons (tLst1 (tCons (tTup (tCons (tC (.str z)) (tCons (tDat d) tNil))) tNil)) tNil))) : PE X e (tDat (.dict [(.str z, d)])) := by
  refine pe_imp h ?_
  intro σ H Q k v H1 S ⟨A, a1, a2, a3⟩
  have sz : sizeLine = 16777216 := sizeLine_eq
  refine ⟨by rw [sz]; exact Nat.le_of_ble_eq_true rfl, fun p hp => ⟨by rw [sz]; exact Nat.le_of_ble_eq_true rfl, fun q hq nq => ?_⟩⟩
  have hp2 : upd (upd H1 p (.tup [.str z, v])) q (.lst [.ref p]) p = some (.tup [.str z, v]) := by
    have : p ≠ q := fun e => by
      rw [← e, upd_same] at hq
      cases hq
    rw [upd_ne this, upd_same]
  refine ⟨q, [p], [(.inr z, v)], rfl, .of upd_same, .cons (.of hp2) .nil, fun r hr => ?_⟩
  have S2 : Same H1 (upd (upd H1 p (.tup [.str z, v])) q (.lst [.ref p])) := (Same.new hp).trans (Same.new hq)
  obtain ⟨z1, z2, z3⟩ := newD_add (o := .dK [(.inr z, v)]) (S.trans S2) a1 (fun a o h => S2 _ _ (a2 _ _ h)) hr
  exact k (.ref r) _ (S.trans (S2.trans (Same.new hr))) ⟨_, z1, z2, .dct upd_same (.cons (a3.mono z3) .nil)⟩
end
theorem for_rngC {k : Int} {g : TG} {tb : TS} {D : Ends} {σ : L2.St} {H : Hp} (h0 : -2 ^ 62 ≤ k) (h1 : k < 2 ^ 62) (Pv : Nat → L2.St → Hp → Prop) (a : Pv 0 σ H)
    (b : ∀ (i : Nat) (σ : L2.St) (H : Hp), i < k.toNat → Pv i σ H → g (V.int (0 + (i : Int))) σ H fun σ2 H2 => tb { nx := Pv (i + 1), rt := D.rt, bk := D.nx, ct := Pv (i + 1) } σ2 H2)
    (c : ∀ (σ : L2.St) (H : Hp), Pv k.toNat σ H → D.nx σ H) : tFor (iRng1 (tCons (tC (V.int k)) tNil)) g tb D σ H :=
  ⟨k, rfl, h0, h1, for_range Pv a b c⟩
theorem pe_backK {X : Cx} {K : PySem.W.Frag} {e st : Expr} {te ts : TE} {pos p2 : Pos} (h : X.K = K) (he : PE X e te) (hs : PE X st ts) (hp : evalPart (some st) X.env = eval st X.env := by rfl) : PE X (.Subscript e (.Slice none none (some st) p2) pos) (tBack K te ts) := by
  subst h
  exact pe_back he hs hp
theorem UsE.of {K : PySem.W.Frag} {U N : Addr} {nm q : Str} {bs : List Value} {sn : List Str} {sub : List Value} {ab : Bool} {col : Option Bool} {dd : Option Addr} {k0 k1 k2 k3 k5 : Option Value}
    (l : K.lookup U = some (excClassObj nm q U N bs [.type "ValueError", .type "Exception", .type "BaseException", .type "object"] true sn sub ab col dd k0 k1 k2 k3 k5 "ValueError.__new__")) (ty : PySem.W.typeIn K (.ref U) = some (.type "type")) (eb : PySem.W.subIn K (.ref U) (.type "BaseException") = some true) (hd : PySem.W.hasDictIn K U = true) : UsE K U := by
  refine ⟨?_, ty, eb, hd⟩
  unfold PySem.W.clsIn
  rw [l]
  exact ⟨_, rfl, rfl⟩
theorem refs_U (U : Addr) : PySem.HandSPX.refsVE [.ref U, .type "ValueError", .type "Exception", .type "BaseException", .type "object"] = true := rfl
theorem ErrN.eb {K : PySem.W.Frag} {U C : Addr} {n : Str} (h : ErrN K U C n) : PySem.W.subIn K (.ref C) (.type "BaseException") = some true := by
  rw [h.mro]
  simp
theorem ErrN.mo {K : PySem.W.Frag} {U C : Addr} {n : Str} (h : ErrN K U C n) : PySem.W.mroIn K C (.type "object") = some true := by
  have := h.mro (.type "object")
  rw [show ([.ref C, .ref U, .type "ValueError", .type "Exception", .type "BaseException", .type "object"] : List Value).contains (.type "object") = true by simp] at this
  exact this
end Nv

namespace Nv
open PySem PySem.Spec PyProof.Rows L2

/-! defs that let errors out whose context is None -/
structure FnN (P : Program) (w : World) (K : PySem.W.Frag) (mg : Str → Option Value) (base : Heap) (k : Nat)
    (f : Addr) (fd : FuncData) (ps : List Str) (sp : Sp) : Prop where
  len : ∀ vs H Q E, sp vs H Q E → vs.length = ps.length
  run : ∀ (A : Around) (outer : List Env) (s : Shared) (H : Hp) (args : Args) (us : List Value) (vs : List V) (Q : VK) (E : XK),
    A.guards = some [] → Room k A → Env0 P w K mg base A outer s H → BindsTo s fd args (ps.zip us) → Vals vs us →
    sp vs H Q E → codeAny (model P w) A (.call (.ref f) args) (CR (L2N.CX P w) outer P w H s Q E) s
theorem fly_imp {B h : Heap} {l : List Env} {a : Addr} {cls : Value} {d : Option Addr} (f : HandSPX.FlyingZ B l a (L2N.Zn cls d) h) : HandSPX.FlyingZ B l a (Zc cls d) h := by
  obtain ⟨k1, k2, k3, oe, vs, T, oT, ts, he, hz, r⟩ := f
  exact ⟨k1, k2, k3, oe, vs, T, oT, ts, he, hz.zc, r⟩
theorem cx_imp {P : Program} {w : World} {outer : List Env} {H : Hp} {s s' : Shared} {E : XK} {u : Value} (c : L2N.CX P w outer H s E u s') : L2.CX P w outer H s E u s' := by
  obtain ⟨a, B, H', cls, d, e, fl, r⟩ := c
  exact ⟨a, B, H', cls, d, e, fly_imp fl, r⟩
section
variable {P : Program} {w : World} {K : PySem.W.Frag} {mg : Str → Option Value} {base : Heap} {k : Nat} {f : Addr} {fd : FuncData} {ps : List Str} {sp : Sp}
theorem FnN.g (F : FnN P w K mg base k f fd ps sp) : FnG P w K mg base k f fd ps sp :=
  ⟨F.len, fun A o s H a us vs Q E hg hr he hb hv hs => codeAny_mono (F.run A o s H a us vs Q E hg hr he hb hv hs) fun r s' q => by
    cases r with
    | error e => exact cx_imp q
    | ok fl => cases fl <;> exact q⟩
theorem FnN.mono {j : Nat} (F : FnN P w K mg base j f fd ps sp) (h : j ≤ k) : FnN P w K mg base k f fd ps sp :=
  ⟨F.len, fun A o s H a us vs Q E hg hr => F.run A o s H a us vs Q E hg (hr.mono h)⟩
/-- a def by its body -/
theorem okN {x qual : Str} {st : Stmt} {N : List Str} (F : Fun K x qual st f fd) (S : FnScope N ps (defScope st))
    (len : ∀ vs H Q E, sp vs H Q E → vs.length = ps.length)
    (body : ∀ (cdv : Value) (A : Around) (outer : List Env) (s : Shared) (H : Hp) (vs : List V) (Q : VK) (E : XK),
      A.guards = some [] → Room k (A.deeper (envOfC qual (defScope st) s.heap.objs.size f cdv)) → sp vs H Q E →
      ∃ t, PSs (cxOf (L2N.CX P w) P w K mg base N qual (defScope st) f cdv A outer s H E) (defBody st) t ∧
        t { nx := fun _ H' => Q .non H', rt := Q } (start N vs) H) :
    FnN P w K mg base (k + 1) f fd ps sp := by
  obtain ⟨oc, od, kV, doc, pm, an, cdv, ct, osl, rfl, lk, hcd⟩ := F.ex
  refine ⟨len, ?_⟩
  intro A outer s H args us vs Q E hg hr e0 hb r hsp
  have hl := len _ _ _ _ hsp
  have stays : ∀ b o, base.get? b = some o → s.heap.get? b = some o := fun b o e => (e0.bs b o e).1
  have KX : K.In s.heap := e0.mod.kin.keeps stays
  have kinds : ∀ y ∈ ps.zip us, (defScope st).names.lookup y.1 = some .local ∨
      ((defScope st).names.lookup y.1 = some .cell ∧
        ((cellsFrom (s.heap.objs.size + 1) (defScope st).names []).lookup y.1).isSome = true) := by
    intro y hy
    rcases S.par y.1 (List.of_mem_zip (a := y.1) (b := y.2) hy).1 with q | q
    · exact Or.inl q
    · exact Or.inr ⟨q, PySem.W.cellsFrom_some _ _ _ (Or.inl q)⟩
  refine codeAny_call_function hr.depth (KX _ _ lk) rfl S.co S.gen rfl (PySem.W.codeRec_of KX hcd) (hb _ _ _ _ ?_)
  refine wpAny_newFunctionEnv_cells S.kind kinds ?_
  intro env he s1 x
  subst he
  refine ⟨(e0.mod.nolimit.keeps stays).keeps x.toInCall.keep, codeAny_func ?_⟩
  obtain ⟨t, ht, hq⟩ := body cdv A outer s H vs Q E hg (hr.deeper _) hsp
  have I := inv_start (CX := L2N.CX P w) (E := E) S hr.hd e0 hl r x
  refine wpAny_mono (ht.run [] s1 (start N vs) H _ I hq) ?_ (fun _ _ z => z)
  intro fl s' hs
  have fin : ∀ {σ' : L2.St} {H' : Hp} {v : V} {u : Value},
      Inv (cxOf (L2N.CX P w) P w K mg base N qual (defScope st) f cdv A outer s H E) [] σ' H' s' → RelV v u → Q v H' →
      CE outer P w H s Q u s' := fun {σ' H' v u} J rv q => ⟨v, H', J.os, J.bare, J.base, J.hok, rv, q⟩
  cases fl with
  | next => obtain ⟨_, _, J, q⟩ := hs; exact fin (v := V.non) (u := Value.none) J rfl q
  | ret u => obtain ⟨_, _, _, J, rv, q⟩ := hs; exact fin J rv q
  | brk => obtain ⟨_, _, _, q⟩ := hs; exact q.elim
  | cont => obtain ⟨_, _, _, q⟩ := hs; exact q.elim
end
section
variable {X : Cx} {W : WX} {k : Nat} {f C : Addr} {fd : FuncData} {ps ks : List Str} {sp : Sp} {x m : Str} {p pos apos : Pos} {e o : Expr} {es : List Expr} {kws : List Keyword} {ta : TE} {t : TA}
theorem runN {pins : List (Addr × Obj)} {σ : L2.St} {H : Hp} {s : Shared} {Q : VK} {us us2 : List Value} {vs : List V} {kw : List (Str × Value)}
    (F : FnN X.prog X.w X.K X.mg X.base k f fd ps sp) (tk : L2N.Takes X W) (hG : X.A.guards = some []) (hr : Room k X.A)
    (hb : BindsTo s fd ⟨us, kw⟩ (ps.zip us2)) (I : Inv X pins σ H s) (r : Vals vs us2) (h : sp vs H Q (WE W σ)) :
    wpAny (model X.prog X.w) X.A (call (.ref f) us kw) (EP X pins σ Q) X.xe s := by
  refine wpAny_call (codeAny_mono (F.run X.A X.stack s H ⟨us, kw⟩ us2 vs Q (WE W σ) hG hr I.env0 hb r h) ?_)
  intro r s' hq
  cases r with
  | error er => exact L2N.passAt tk σ pins H s er s' I hq
  | ok fl =>
    cases fl with
    | ret u => exact I.after hq
    | next => exact hq.elim
    | brk => exact hq.elim
    | cont => exact hq.elim
theorem run_makeN {pins : List (Addr × Obj)} {σ : L2.St} {H : Hp} {s : Shared} {Q : VK} {us us2 : List Value} {vs : List V} {kw : List (Str × Value)} (M : Mk X.K C f) (F : FnN X.prog X.w X.K X.mg X.base k f fd ps sp) (tk : L2N.Takes X W) (hG : X.A.guards = some []) (hr : Room (k + 1) X.A)
    (hb : ∀ (s : Shared) (u : Value), X.K.In s.heap → BindsTo s fd ⟨u :: us, kw⟩ (ps.zip (u :: us2))) (I : Inv X pins σ H s) (r : Vals vs us2)
    (h : ∀ x dx, H x = none → H dx = none → dx ≠ x → sp (.ref x :: vs) (upd (upd H dx (.own x)) x (.ins C dx [])) (fun v H2 => v = .non ∧ Q (.ref x) H2) (WE W σ)) :
    wpAny (model X.prog X.w) X.A (call (.ref C) us kw) (EP X pins σ Q) X.xe s := by
  have hq := h (s.heap.objs.size + 1) s.heap.objs.size (I.hok.fresh (Nat.le_succ _)) (I.hok.fresh (Nat.le_refl _)) (Nat.ne_of_lt (Nat.lt_succ_self _))
  have I2 := Inv.made (C := C) I
  have r2 : Vals (V.ref (s.heap.objs.size + 1) :: vs) (Value.ref (s.heap.objs.size + 1) :: us2) := .cons rfl r
  refine wpAny_call (make_map (f := f) I.kIn M.makes M.init (beq_iff_eq.mp M.fn) (codeAny_mono (F.run _ X.stack _ _ ⟨Value.ref (s.heap.objs.size + 1) :: us, kw⟩ (Value.ref (s.heap.objs.size + 1) :: us2) _ _ (WE W σ) (under_guards.trans hG) (hr.make C us kw)
    (I2.env0.make C us kw) (hb _ _ I2.kIn) r2 hq) fun r s' hq' => ?_))
  cases r with
  | error er => exact L2N.passAt tk σ pins _ _ er s' I2 hq'
  | ok fl =>
    cases fl with
    | ret u =>
      obtain ⟨v, H', I3, rv, ev, q3⟩ := I2.after hq'
      subst ev
      exact ⟨rv, ⟨V.ref (s.heap.objs.size + 1), H', I3, rfl, q3⟩⟩
    | next => exact False.elim hq'
    | brk => exact False.elim hq'
    | cont => exact False.elim hq'
theorem pe_makeN (M : Mk X.K C f) (F : FnN X.prog X.w X.K X.mg X.base k f fd ps sp) (b : Binds X.K fd ps []) (tk : L2N.Takes X W) (hG : X.A.guards = some []) (hr : Room (k + 1) X.A) (hg : Gl X x) (hm : X.mg x = some (.ref C))
    (ha : PA X (e :: es) t) (hdb : (x == ("__debug__" : Str)) = false := by decide) (he : starEach (e :: es) X.env = (false, eval e X.env) :: starEach es X.env := by rfl) (hpl : (backTo pos (starEach es X.env)).any (·.1) = false := by rfl) :
    PE X (.Call (.Name x p) (e :: es) [] pos) (tMakeG C sp W t) := by
  refine ⟨fun pins s σ H Q I h => ?_⟩
  refine wpAny_Call_Name_kw (ld_glob I hg hm ?_ hdb)
  refine PySem.W.callWith_K (h₀ := X.base) I.ok.mod.kin M.kp (thn (ha.run pos pins s σ H _ I h) fun us s1 ⟨vs, H1, I1, r, q⟩ => ⟨I1.kIn, ?_⟩) he hpl
  have hl := lenM F.g r (q (s1.heap.objs.size + 1) s1.heap.objs.size (I1.hok.fresh (Nat.le_succ _)) (I1.hok.fresh (Nat.le_refl _)) (Nat.ne_of_lt (Nat.lt_succ_self _)))
  refine run_makeN (us2 := us) M F tk hG hr (fun s u z => ?_) I1 r q
  have := b s (u :: us) z (by simpa using hl)
  simpa using this
end
end Nv

namespace Nv
open PySem PySem.Spec PyProof.Rows L2

/-! own __eq__ and __contains__ asked by ==, !=, in, not in -/
section
variable {X : Cx} {k : Nat} {f C : Addr} {fd : FuncData} {ps : List Str} {sp : Sp}
/-- an own def, called with the context's room -/
theorem run_own {A : Around} {pins : List (Addr × Obj)} {σ : L2.St} {H : Hp} {s : Shared} {us : List Value} {vs : List V} {Q : VK} {R : Value → Shared → Prop} (F : FnG X.prog X.w X.K X.mg X.base k f fd ps sp) (b : Pos1 fd ps) (hG : A.guards = some []) (hr : Room k A) (hfr : A.frames = X.A.frames)
    (I : Inv X pins σ H s) (rv : Vals vs us) (hsp : sp vs H Q (fun _ _ _ => False)) (q : ∀ v u s', RelV v u → (∃ H', Inv X pins σ H' s' ∧ Q v H') → R u s') : wpAny (model X.prog X.w) A (call (.ref f) us) R X.xe s := by
  have e0 : Env0 X.prog X.w X.K X.mg X.base A X.stack s H := by
    have e := I.env0
    exact ⟨by rw [hfr]; exact e.frames, e.mod, e.bs, e.bsz, e.funs, e.frf, e.hok, e.bare⟩
  have hlen : us.length = ps.length := by
    rw [← rv.length]
    exact F.len _ _ _ _ hsp
  refine wpAny_call (codeAny_mono (F.run A X.stack s H ⟨us, []⟩ us vs Q (fun _ _ _ => False) hG hr e0 (.of_eq (b _ hlen)) rv hsp) fun r s' hq => ?_)
  cases r with
  | error er =>
    obtain ⟨_, _, _, _, _, _, _, _, _, _, _, _, z⟩ := hq
    exact z.elim
  | ok fl =>
    cases fl with
    | ret u =>
      obtain ⟨v, H', J', rv', q'⟩ := I.after hq
      exact q v u s' rv' ⟨H', J', q'⟩
    | next => exact hq.elim
    | brk => exact hq.elim
    | cont => exact hq.elim
def rInO (C : Addr) (sp : Sp) (neg : Bool) : R2 := fun x y H Q => ∃ (a dx : Addr) (fs : List (Str × V)), y = .ref a ∧ H a = some (.ins C dx fs) ∧ sp [.ref a, x] H (fun v H1 => ∃ b, v = .bl b ∧ Q (.bl (b != neg)) H1) (fun _ _ _ => False)
theorem contains_own (F : FnG X.prog X.w X.K X.mg X.base k f fd ps sp) (b : Pos1 fd ps) (hG : X.A.guards = some []) (hr : Room k X.A) (hl : PySem.W.findIn X.K (.ref C) "__contains__" = some (some (.ref f))) (hf : PySem.W.typeIn X.K (.ref f) = some (.type "function"))
    {pins : List (Addr × Obj)} {s : Shared} {σ : L2.St} {H : Hp} {x : V} {u : Value} {a dx : Addr} {fs : List (Str × V)} {Q : VK} {R : Bool → Shared → Prop} (I : Inv X pins σ H s) (ha : H a = some (.ins C dx fs)) (rx : RelV x u) (hsp : sp [.ref a, x] H (fun v H1 => ∃ b, v = .bl b ∧ Q (.bl b) H1) (fun _ _ _ => False))
    (q : ∀ (b : Bool) s' H', Inv X pins σ H' s' → Q (.bl b) H' → R b s') : wpAny (model X.prog X.w) X.A (contains (.ref a) u) R X.xe s := by
  obtain ⟨mA, J, _⟩ := ins_get I.hok ha
  obtain ⟨od, J, _⟩ := J.look
  unfold contains
  refine wpAny_holding ?_
  have e1 : stdlibNamesSay? (.ref a) u = none := by
    cases u <;> rfl
  rw [e1]
  dsimp only
  unfold specialOf
  refine wpAny_bind (wpAny_bind (J.type.here ((PySem.W.looks_findIn I.kIn hl).here ?_)))
  rw [show ((some (Value.ref f) : Option Value) == some Value.none) = false from rfl]
  simp only [Bool.false_eq_true, if_false]
  unfold callSpecialUnlessNone? specialOf
  refine wpAny_bind (wpAny_bind (wpAny_bind (J.type.here ((PySem.W.looks_findIn I.kIn hl).here ?_))))
  refine wpAny_holding ?_
  refine wpAny_bind ((PySem.W.bind_fn I.kIn _ hf).here ?_)
  simp only []
  rw [show (Value.ref f == Value.none) = false from rfl]
  simp only [Bool.false_eq_true, if_false]
  refine wpAny_bind (run_own (us := [.ref a, u]) (vs := [.ref a, x]) F b hG hr rfl I (.cons rfl (.cons rx .nil)) hsp ?_)
  rintro v u' s' rv ⟨H', I', b, rfl, qq⟩
  obtain rfl : u' = Value.bool b := rv
  exact wpAny_pure (wpAny_truthy_bool (q b s' H' I' qq))
theorem op_inO (F : FnG X.prog X.w X.K X.mg X.base k f fd ps sp) (b : Pos1 fd ps) (hG : X.A.guards = some []) (hr : Room k X.A) (hl : PySem.W.findIn X.K (.ref C) "__contains__" = some (some (.ref f))) (hf : PySem.W.typeIn X.K (.ref f) = some (.type "function")) : OpR X (compareOp .In) (rInO C sp false) := by
  intro pins s σ H x y v u Q I rx ry h
  obtain ⟨a, dx, fs, rfl, ha, hsp⟩ := h
  obtain rfl : u = Value.ref a := ry
  show wpAny _ _ (do let r ← contains (.ref a) v; return Value.bool r) _ _ _
  refine wpAny_bind (contains_own (Q := fun v H1 => ∃ b, v = .bl b ∧ Q (.bl b) H1) F b hG hr hl hf I ha rx ?_ ?_)
  · have : (fun v H1 => ∃ b, v = V.bl b ∧ Q (.bl (b != false)) H1) = (fun v H1 => ∃ b, v = V.bl b ∧ ∃ b', V.bl b = V.bl b' ∧ Q (.bl b') H1) := by
      funext v H1
      exact propext ⟨fun ⟨b, e, q⟩ => ⟨b, e, b, rfl, by cases b <;> exact q⟩, fun ⟨b, e, b', e', q⟩ => ⟨b, e, by cases e'; cases b <;> exact q⟩⟩
    rw [this] at hsp
    exact hsp
  · rintro b s' H' I' ⟨b', e, q⟩
    cases e
    exact wpAny_pure ⟨.bl b, H', I', rfl, q⟩
theorem op_notInO (F : FnG X.prog X.w X.K X.mg X.base k f fd ps sp) (b : Pos1 fd ps) (hG : X.A.guards = some []) (hr : Room k X.A) (hl : PySem.W.findIn X.K (.ref C) "__contains__" = some (some (.ref f))) (hf : PySem.W.typeIn X.K (.ref f) = some (.type "function")) : OpR X (compareOp .NotIn) (rInO C sp true) := by
  intro pins s σ H x y v u Q I rx ry h
  obtain ⟨a, dx, fs, rfl, ha, hsp⟩ := h
  obtain rfl : u = Value.ref a := ry
  show wpAny _ _ (do let r ← contains (.ref a) v; return Value.bool (!r)) _ _ _
  refine wpAny_bind (contains_own (Q := fun v H1 => ∃ b, v = .bl b ∧ Q (.bl (!b)) H1) F b hG hr hl hf I ha rx ?_ ?_)
  · have : (fun v H1 => ∃ b, v = V.bl b ∧ Q (.bl (b != true)) H1) = (fun v H1 => ∃ b, v = V.bl b ∧ ∃ b', V.bl b = V.bl b' ∧ Q (.bl (!b')) H1) := by
      funext v H1
      exact propext ⟨fun ⟨b, e, q⟩ => ⟨b, e, b, rfl, by cases b <;> exact q⟩, fun ⟨b, e, b', e', q⟩ => ⟨b, e, by cases e'; cases b <;> exact q⟩⟩
    rw [this] at hsp
    exact hsp
  · rintro b s' H' I' ⟨b', e, q⟩
    cases e
    exact wpAny_pure ⟨.bl (!b), H', I', rfl, q⟩
/-- a == b of two instances of a class with an own __eq__ -/
def rEqO (C : Addr) (sp : Sp) (neg : Bool) : R2 := fun x y H Q => ∃ (a b dx dy : Addr) (fs gs : List (Str × V)), x = .ref a ∧ y = .ref b ∧ H a = some (.ins C dx fs) ∧ H b = some (.ins C dy gs) ∧ sp [.ref a, .ref b] H (fun v H1 => ∃ b, v = .bl b ∧ Q (.bl (b != neg)) H1) (fun _ _ _ => False)
theorem op_eqO (F : FnG X.prog X.w X.K X.mg X.base k f fd ps sp) (b : Pos1 fd ps) (hG : X.A.guards = some []) (hr : Room k X.A) (hl : PySem.W.findIn X.K (.ref C) "__eq__" = some (some (.ref f))) (hf : PySem.W.isFn X.K (.ref f) = true) : OpR X (compareOp .Eq) (rEqO C sp false) := by
  intro pins s σ H x y v u Q I rx ry h
  obtain ⟨a, c, dx, dy, fs, gs, rfl, rfl, ha, hc, hsp⟩ := h
  obtain rfl : v = Value.ref a := rx
  obtain rfl : u = Value.ref c := ry
  obtain ⟨mA, J, _⟩ := ins_get I.hok ha
  obtain ⟨mB, J', _⟩ := ins_get I.hok hc
  obtain ⟨od, J, _⟩ := J.look
  obtain ⟨od', J', _⟩ := J'.look
  obtain ⟨m, hF⟩ := I.fr
  show wpAny _ _ (richCompare .Eq (.ref a) (.ref c)) _ _ _
  refine PySem.W.cmp_K (op := .Eq) (tb := .ref C) (by have := hr.un; omega) hF I.ok.mod.kin J J'.type (by simp [PySem.W.notFirst]) hl hf ?_
  refine run_own (us := [.ref a, .ref c]) (vs := [.ref a, .ref c]) F b hG hr rfl I (.cons rfl (.cons rfl .nil)) hsp ?_
  rintro v u' s' rv ⟨H', I', b, rfl, qq⟩
  obtain rfl : u' = Value.bool b := rv
  exact ⟨.bl b, H', I', rfl, by cases b <;> exact qq⟩
/-- the inherited __ne__, bound -/
theorem bound_ne {M : Model} {A : Around} {E : Value → Shared → Prop} {s : Shared} {K : PySem.W.Frag} {x C : Addr} {ox : Obj} {od : Option Obj} {args : List Value} {R : Option Value → Shared → Prop} (KI : K.In s.heap) (I : PySem.W.InstAt s.heap x ox C od)
    (hs : PySem.W.findIn K (.ref C) "__ne__" = some (some (.builtin "object.__ne__"))) (h : wpAny M A (call (.builtin "object.__ne__") (.ref x :: args)) (fun v => R (some v)) E s) : wpAny M A (callSpecialIfBound? (.ref x) "__ne__" args) R E s := by
  unfold callSpecialIfBound? bindSpecialIfBound? specialOf
  refine wpAny_holding (wpAny_bind ?_)
  refine wpAny_bind (wpAny_bind (I.type.here ((PySem.W.looks_findIn KI hs).here ?_)))
  have end_ : wpAny M A (call (.builtin "object.__ne__") ([.ref x] ++ args) >>= fun v => pure (some v)) R E s := wpAny_bind (wpAny_mono h (fun _ _ z => wpAny_pure z) fun _ _ z => z)
  refine wpAny_bind (wpAny_askSetting (wpAny_ite ?_))
  split
  · exact wpAny_bind (wpAny_of_eq (F.cmp_object.ne.bind _) (wpAny_pure (by exact end_)))
  · exact wpAny_tryCatch (wpAny_bind (wpAny_of_eq (F.cmp_object.ne.bind _) (wpAny_pure (by exact end_))))
theorem op_neO (F : FnG X.prog X.w X.K X.mg X.base k f fd ps sp) (b : Pos1 fd ps) (hG : X.A.guards = some []) (hr : Room (k + 1) X.A) (hl : PySem.W.findIn X.K (.ref C) "__eq__" = some (some (.ref f))) (hf : PySem.W.isFn X.K (.ref f) = true)
    (hn : PySem.W.findIn X.K (.ref C) "__ne__" = some (some (.builtin "object.__ne__"))) (ho : PySem.W.mroIn X.K C (.type "object") = some true) : OpR X (compareOp .NotEq) (rEqO C sp true) := by
  intro pins s σ H x y v u Q I rx ry h
  obtain ⟨a, c, dx, dy, fs, gs, rfl, rfl, ha, hc, hsp⟩ := h
  obtain rfl : v = Value.ref a := rx
  obtain rfl : u = Value.ref c := ry
  obtain ⟨mA, J, _⟩ := ins_get I.hok ha
  obtain ⟨mB, J', _⟩ := ins_get I.hok hc
  obtain ⟨od, J, _⟩ := J.look
  obtain ⟨od', J', _⟩ := J'.look
  have un := hr.un
  have asked : wpAny (model X.prog X.w) X.A (tryCompare (.ref a) "__ne__" (.ref c)) (fun r s' => ∃ v, r = some v ∧ EP X pins σ Q v s') X.xe s := by
    unfold tryCompare
    refine wpAny_bind (bound_ne I.kIn J hn (wpAny_call (codeAny_call_builtin PySem.F.cmp_object.ne.plain PySem.F.cmpEntry_ne (PySem.W.check_slot PySem.F.cmpKind_ne PySem.F.cmpSplit_ne (J.type.andThen (PySem.W.looks_mroIn I.kIn ho)) (PySem.F.cmpArgs_ne _ _) ?_))))
    unfold Builtin.«object.__ne__»
    refine wpAny_bind (m := slotArgs "__ne__" 1 _) (wpAny_of_eq (show slotArgs "__ne__" 1 ⟨[.ref a, .ref c], []⟩ = pure (.ref a, [.ref c]) from rfl) ?_)
    refine wpAny_bind (wpAny_cRoomFor (by show X.A.units + 1 < cLine; omega) ?_)
    refine wpAny_bind (m := callSpecialIfBound? (.ref a) (Str.ofString "__eq__") [.ref c]) (PySem.W.ifBound_K I.kIn J hl hf ?_)
    refine run_own (A := X.A.in1) (us := [.ref a, .ref c]) (vs := [.ref a, .ref c]) F b hG hr.in1 rfl I (.cons rfl (.cons rfl .nil)) hsp ?_
    rintro v u' s' rv ⟨H', I', b, rfl, qq⟩
    obtain rfl : u' = Value.bool b := rv
    refine wpAny_bind (wpAny_truthy_bool ?_)
    refine wpAny_pure ?_
    exact wpAny_pure ⟨.bool (!b), rfl, .bl (!b), H', I', rfl, by cases b <;> exact qq⟩
  show wpAny _ _ (richCompare .NotEq (.ref a) (.ref c)) _ _ _
  unfold richCompare
  simp only [oneThing_ref, cmpInfo_NotEq]
  refine wpAny_holding (wpAny_bind (wpAny_cRoomFor (by omega) ?_))
  refine wpAny_bind (J.type.here (wpAny_bind (J'.type.here ?_)))
  rw [show (Value.ref C != Value.ref C) = false from by simp]
  simp only [Bool.false_eq_true, if_false]
  refine wpAny_bind (wpAny_pure ?_)
  simp only [Bool.false_eq_true, if_false]
  refine wpAny_bind (wpAny_mono asked (fun r s' z => ?_) fun _ _ z => z)
  obtain ⟨v, rfl, z⟩ := z
  exact wpAny_pure z
end
end Nv

namespace Nv
open PySem PySem.Spec PyProof.Rows L2 L2H

/-! try .. except (A, B, C): what is caught has no context -/
theorem frames_keep {B h h' : Heap} (k : ∀ b o, h.get? b = some o → h'.get? b = some o) {l : List Env} (z : h.FunFrames B l) : h'.FunFrames B l := Heap.FunFrames.of_keeps (fun b o e _ => ⟨o, k b o e, rfl⟩) z
theorem fly_keep {B h h' : Heap} {l : List Env} {a : Addr} {Z : Obj → Prop} (k : ∀ b o, h.get? b = some o → h'.get? b = some o) (f : HandSPX.FlyingZ B l a Z h) : HandSPX.FlyingZ B l a Z h' := by
  obtain ⟨k1, k2, k3, oe, vs, T, oT, ts, he, hz, hd, h1, hT, hne, hT2, r⟩ := f
  exact ⟨fun b o e => k _ _ (k1 b o e), k2, frames_keep k k3, oe, vs, T, oT, ts, k _ _ he, hz, hd, h1, hT, hne, k _ _ hT2, r⟩
def wTup (K : PySem.W.Frag) (cs : List Value) (ts : Addr → Value → Option Addr → TS) (Wout : WX) (D : Ends) : WX := fun cls d σ H =>
  ∃ b, PySem.W.exmAny K cls cs = some b ∧ (b = true → ∀ a, H a = none → ts a cls d D σ H) ∧ (b = false → Wout cls d σ H)
section
variable {X : Cx} {x1 x2 x3 : Str} {c1 c2 c3 : Value} {body suite : List Stmt} {b₀ : Stmt} {p1 p2 p3 tp pos' pos : Pos} {j : Nat} {tb : WX → TS} {ts : Addr → Value → Option Addr → TS} {Wout : WX}
theorem ps_try_tup3 (hs : X.stack = X.env :: X.outer) (hf : X.env.frame = some X.env.locals) (n1 : Names X x1 c1) (n2 : Names X x2 c2) (n3 : Names X x3 c3) (hpa : ∀ hd : Option Value, PassesOwnAt (model X.prog X.w) (X.A.mark hd) X.A X.env X.xe) (tk : L2.Takes X Wout)
    (hb : ∀ (W : WX) (pn : List (Addr × Obj)) (xe : Value → Shared → Prop), L2N.Takes (X.tr pn xe) W → PassesOwn (model X.prog X.w) X.A X.env xe → PSs (X.tr pn xe) body (tb W))
    (hsu : ∀ (a : Addr) (oe : Obj) (cls : Value) (d : Option Addr) (pn : List (Addr × Obj)), L2N.Zn cls d oe → (∃ vs, oe.data = .fields vs) → L2.Takes (suiteX X a ((a, oe) :: pn)) Wout → HotC (suiteX X a ((a, oe) :: pn)) → PSs (suiteX X a ((a, oe) :: pn)) (b₀ :: suite) (ts a cls d)) :
    PS X (.Try body [.ExceptHandler (some (.Tuple [.Name x1 p1, .Name x2 p2, .Name x3 p3] j tp)) none (b₀ :: suite) pos'] [] [] pos) (fun D σ H => tb (wTup X.K [c1, c2, c3] ts Wout D) D σ H) := by
  constructor
  intro pins s σ H D I h
  have ok := I.ok
  have hfr : X.A.frames = some (X.env :: X.outer) := by rw [ok.frames, hs]
  refine wpAny_Try_except ?_
  have run := (hb (wTup X.K [c1, c2, c3] ts Wout D) (X.pn ++ pins) (fun e s₁ => wpAny (model X.prog X.w) X.A (noteFrame e X.env) (fun _ s₂ => wpAny (model X.prog X.w) X.A (setFlight e none) (fun _ s₃ =>
    wpAny (model X.prog X.w) X.A (handleBy e X.env [.ExceptHandler (some (.Tuple [.Name x1 p1, .Name x2 p2, .Name x3 p3] j tp)) none (b₀ :: suite) pos']) (SP X pins D) X.xe s₃) X.xe s₂) X.xe s₁) ?_ PassesOwn.looking).run [] s σ H D (I.toTry _) h
  · refine wpAny_mono run ?_ (fun e s1 he => he)
    intro f s1 hsp
    cases f with
    | next =>
      obtain ⟨σ', H', J', q⟩ := hsp
      exact wpAny_execs_nil ⟨σ', H', J'.ofTry ok, q⟩
    | brk =>
      obtain ⟨σ', H', J', q⟩ := hsp
      exact ⟨σ', H', J'.ofTry ok, q⟩
    | cont =>
      obtain ⟨σ', H', J', q⟩ := hsp
      exact ⟨σ', H', J'.ofTry ok, q⟩
    | ret u =>
      obtain ⟨v, σ', H', J', r, q⟩ := hsp
      exact ⟨v, σ', H', J'.ofTry ok, r, q⟩
  · intro u s' xx
    obtain ⟨a, B, sI, pins', σ', H', cls, d, rfl, J', nb, up, sky, na, os, ag, b, any, hyes, hno⟩ := xx
    have J : Inv X pins σ' H' sI := J'.ofTry ok
    have sky' : Sky B (X.env :: X.outer) a (L2N.Zn cls d) X.env.locals s'.heap := by
      rw [← hs]
      exact sky
    show wpAny (model X.prog X.w) X.A (noteFrame (.ref a) X.env) _ _ _
    refine L2N.Sky.land L2N.Zn.steady hfr hf sky' ?_
    intro h3 fl3 up3
    have J3 : Inv X pins σ' H' { s' with heap := h3 } := J.landed nb fl3.1 (up.trans up3) os ag
    obtain ⟨oe3, vs3, he3, hz3, hd3⟩ := fl3.there
    have nfr := field_not_frame fl3.2.2.1 he3 hd3
    have nL : a ≠ X.env.locals := fun z => nfr (List.mem_filterMap.mpr ⟨X.env, List.mem_cons_self, by rw [hf, z]⟩)
    have nF : a ∉ X.fs := by
      intro hm
      obtain ⟨e, he, q⟩ := List.mem_filterMap.mp hm
      exact nfr (List.mem_filterMap.mpr ⟨e, List.mem_cons_of_mem _ he, q⟩)
    have S3 := J3.suite he3 hd3 na nL nF
    refine wpAny_handleBy_cons (codeAny_handlers_test ?_) (by intro q; cases q)
    have test : ∀ {x : Str} {c : Value} {p : Pos} {Q : Value → Shared → Prop} {E : Value → Shared → Prop}, Names X x c → Q c { s' with heap := h3 } →
        wpAny (model X.prog X.w) (X.A.mark (some (.ref a))) (eval (.Name x p) X.env) Q E { s' with heap := h3 } := by
      intro x c p Q E nm q
      obtain ⟨hg, hdbg, hm | ⟨hm, hv, hnn⟩⟩ := nm
      · exact ld_glob (X := X.suite a ((a, oe3) :: (X.pn ++ pins))) S3 hg hm q hdbg
      · exact ld_blt (X := X.suite a ((a, oe3) :: (X.pn ++ pins))) S3 hg hm hv q hnn hdbg
    refine wpAny_Tuple_spliced ?_
    refine Calls.spliced_cons (test n1 ?_)
    refine Calls.spliced_cons (test n2 ?_)
    refine Calls.spliced_cons (test n3 ?_)
    refine Calls.spliced_nil ⟨by rw [sizeLine_eq]; exact Nat.le_of_ble_eq_true rfl, ?_⟩
    have kp : ∀ b o, h3.get? b = some o → (h3.push { cls := .type "tuple", data := .seq [c1, c2, c3].toArray }).get? b = some o := fun b o e => Heap.get?_push_of_some _ e
    have hp : (h3.push { cls := .type "tuple", data := .seq [c1, c2, c3].toArray }).get? h3.objs.size = some { cls := .type "tuple", data := .seq [c1, c2, c3].toArray } := Heap.get?_push_size _ rfl
    generalize h3.push { cls := .type "tuple", data := .seq [c1, c2, c3].toArray } = h5 at kp hp ⊢
    have fl5 := fly_keep kp fl3
    have up5 : s'.heap.UpToSlots h5 := up3.trans (Heap.UpToSlots.of_keeps kp)
    have J5 : Inv X pins σ' H' { s' with heap := h5 } := J.landed nb fl5.1 (up.trans up5) os ag
    have LT : PySem.W.Looks (model X.prog X.w) h5 (typeOf (.ref a)) cls := fun A Q E s k q => wpAny_typeOf_ref (k _ _ (kp _ _ he3)) (by rw [hz3.1]; exact q)
    have LM := PySem.W.exm_tup3 (M := model X.prog X.w) J5.kIn LT hp any
    refine LM.here ?_
    cases b with
    | false =>
      show wpAny _ X.A (handleBy (.ref a) X.env []) _ _ _
      refine wpAny_handleBy_nil ?_
      obtain ⟨_, _, _, oe, vs, T, oT, _, he, hz, hd, h1, _⟩ := id fl5
      unfold PySem.passOn
      refine wpAny_bind (wpAny_field he hd h1 ?_)
      rw [if_neg (show ¬ ((Value.ref T == Value.none) = true) from by simp)]
      have fin : wpAny (model X.prog X.w) X.A (setFlight (.ref a) X.env.frame) (fun _ s4 => wpAny (model X.prog X.w) X.A (throw (.ref a) : Sem Flow) (SP X pins D) X.xe s4) X.xe { s' with heap := h5 } := by
        rw [hf]
        refine HandSPX.setFlight_upZ (fly_imp fl5) ?_
        intro h4 hh4 up4
        refine wpAny_throw (tk _ _ ?_)
        exact ⟨a, B, sI, pins, σ', H', cls, d, rfl, J, nb, (up.trans up5).trans up4, .inr (.inr (by rw [hs]; exact hh4)), na, os, ag, hno rfl⟩
      first
        | exact wpAny_bind (wpAny_pure (wpAny_bind fin))
        | exact wpAny_bind fin
    | true =>
      refine codeAny_handlers_suite ?_
      refine HandSPX.lands_againZ fl5 ?_
      intro h4 fl4 up4
      have J4 : Inv X pins σ' H' { s' with heap := h4 } := J.landed nb fl4.1 ((up.trans up5).trans up4) os ag
      obtain ⟨oe4, vs4, he4, hz4, hd4⟩ := fl4.there
      have S4 := J4.suite he4 hd4 na nL nF
      have tkS : L2.Takes (suiteX X a ((a, oe4) :: (X.pn ++ pins))) Wout := by
        rintro u2 s2 ⟨a2, B2, sI2, pn2, σ2, H2, cls2, d2, e2, I2, nb2, up2, sky2, r2⟩
        exact tk u2 s2 ⟨a2, B2, sI2, pins, σ2, H2, cls2, d2, e2, unsuiteX I2 ok, nb2, up2, sky2, r2⟩
      have hot : HotC (suiteX X a ((a, oe4) :: (X.pn ++ pins))) := ⟨(a, oe4), ⟨rfl, vs4, hd4, hz4.2.2 vs4 hd4⟩, List.mem_cons_self⟩
      refine wpAny_mono ((hsu a oe4 cls d (X.pn ++ pins) hz4 ⟨_, hd4⟩ tkS hot).run [] _ _ H' _ (suiteX_of S4) (hyes rfl a na)) ?_ (fun e6 s6 z => hpa (some (.ref a)) e6 s6 z)
      intro f s6 hsp
      cases f with
      | ret u =>
        obtain ⟨v6, σ6, H6, S6, r6, q6⟩ := hsp
        exact ⟨_, _, _, unsuiteX S6 ok, r6, q6⟩
      | next =>
        obtain ⟨σ6, H6, S6, q6⟩ := hsp
        exact ⟨_, _, unsuiteX S6 ok, q6⟩
      | brk =>
        obtain ⟨σ6, H6, S6, q6⟩ := hsp
        exact ⟨_, _, unsuiteX S6 ok, q6⟩
      | cont =>
        obtain ⟨σ6, H6, S6, q6⟩ := hsp
        exact ⟨_, _, unsuiteX S6 ok, q6⟩
end
/-! raise X(e) from None, X an own class with an __init__ that keeps one thing -/
open L2H in
theorem ok_xiH {P : Program} {w : World} {K : PySem.W.Frag} {mg : Str → Option Value} {base : Heap} {qual f : Str} {st : Stmt} {fI : Addr} {fd : FuncData} {p1 p2 p3 p4 : Pos} (F : Fun K "__init__" qual st fI fd) (S : FnScope ["self", f] ["self", f] (defScope st))
    (hb : defBody st = [.Assign [.Attribute (.Name "self" p1) f p2] (.Name f p3) p4]) (hd : (f == ("__debug__" : Str)) = false) (hcd : (f == ("__classdict__" : Str)) = false) :
    FnH P w K mg base CX0 1 fI fd ["self", f] (spXI K f) := by
  obtain ⟨oc, od, kV, doc, pm, an, cdv, ct, osl, rfl, lk, hc⟩ := F.ex
  refine fn_ofH lk hc S (fun vs H Q E h => ?_) (fun A outer s H vs Q E p hot hr h => ?_)
  · obtain ⟨a, C, v, rfl, _⟩ := h
    rfl
  · obtain ⟨a, C, v, rfl, T, hn, he, q⟩ := h
    have v0 : Vis (defScope st) "self" := by
      rcases S.par "self" (by simp) with z | z
      · exact .inl z
      · exact .inr (.inl z)
    have v1 : Vis (defScope st) f := by
      rcases S.par f (by simp) with z | z
      · exact .inl z
      · exact .inr (.inl z)
    rw [hb]
    refine ⟨_, pss_one (ps_ost (pe_var (i := 0) rfl v0) (pe_var (i := 1) rfl v1 hd hcd) rfl), ?_⟩
    exact ⟨_, rfl, _, rfl, a, C, rfl, T, hn, .inl ⟨he, fun dx h1 h2 => q dx h1 h2⟩⟩
/-- .. as a fact of its class -/
structure EH (K : PySem.W.Frag) (mg : Str → Option Value) (x f : Str) (C : Addr) : Prop where
  c : ∃ fI fd, ErrC K mg x C fI ∧ (∀ (P : Program) (w : World) (base : Heap), L2H.FnH P w K mg base CX0 1 fI fd ["self", f] (spXI K f)) ∧ Binds K fd ["self", f] []
  nf : PySem.W.findIn K (.ref C) f = some none
section
open L2H
variable {X : Cx} {W : WX} {x f : Str} {C U : Addr} {e : Expr} {te : TE} {p pos cpos rpos : Pos} {j : Nat}
theorem pmk5_imp {t t' : L2.St → Hp → XK → Prop} (h : PMk5 X e t) (i : ∀ σ H Q, t' σ H Q → t σ H Q) : PMk5 X e t' := fun pins s σ H Q I q => h pins s σ H Q I (i _ _ _ q)
theorem pmk5_E1 (E : EH X.K X.mg x f C) (hr : RoomH 2 X.A) (hot : HotC X) (he : PE X e te) (hg : Gl X x := by rfl)
    (hdb : (x == ("__debug__" : Str)) = false := by decide) (hs : starEach (e :: []) X.env = (false, eval e X.env) :: starEach [] X.env := by rfl) (hpl : (backTo pos (starEach [] X.env)).any (·.1) = false := by rfl) :
    PMk5 X (.Call (.Name x p) [e] [] pos) (tMk1 C f te) := by
  obtain ⟨fI, fd, T, F1, b⟩ := E.c
  refine pmk5_imp (pmk5_oexH (CX := CX0) T.T T.iC T.tI (F1 X.prog X.w X.base) hr hot b pass0 hg T.gC (pa_any he hs) hdb hs hpl) ?_
  intro σ H Q h
  refine ⟨_, h, fun v H1 k => ⟨by show 1 ≤ 1000; decide, fun a na => ?_⟩⟩
  refine ⟨a, C, v, rfl, T.T, E.nf, upd_same, fun dx h1 h2 => ⟨rfl, dx, [(f, v)], upd_same, ?_, ?_, ?_⟩⟩
  · rw [upd_ne h2, upd_same]
  · rw [upd_ne h2] at h1
    exact h1
  · have m := (made1 (C := C) (f := f) (v := v) na h1 h2).1
    rw [upd_ne h2] at h1
    exact k dx _ (thrown m na h1) h1 upd_same
theorem E1.xf {K : PySem.W.Frag} {mg : Str → Option Value} (E : E1 K mg U x f C) : XfC K C := ⟨E.nv.ga, E.nv.gt, E.nv.sub, E.nv.dct⟩
end
/-- L2's Takes, from one that asks for no context -/
theorem takes_weak {X : Cx} {W : WX} (t : L2.Takes X W) : L2N.Takes X W := fun u s' ⟨a, B, sI, pins, σ, H, cls, d, e, I, nb, up, sky, r⟩ => by
  refine t u s' ⟨a, B, sI, pins, σ, H, cls, d, e, I, nb, up, ?_, r⟩
  rcases sky with ⟨k1, k2, k3, oe, vs, he, hz, q⟩ | f | ⟨k1, k2, k3, oe, vs, T, oT, ts, he, hz, q⟩
  · exact .inl ⟨k1, k2, k3, oe, vs, he, hz.zc, q⟩
  · exact .inr (.inl (fly_imp f))
  · exact .inr (.inr ⟨k1, k2, k3, oe, vs, T, oT, ts, he, hz.zc, q⟩)
theorem pmk_weak {X : Cx} {e : Expr} {t : L2.St → Hp → XK → Prop} (h : L2N.PMk X e t) : L2.PMk X e t := fun pins s σ H Q I q => thn (h pins s σ H Q I q) fun u s' ⟨a, oe, vs, sI, H', cls, d, e, J, k, hne, ha, hz, r⟩ => ⟨a, oe, vs, sI, H', cls, d, e, J, k, hne, ha, hz.zc, r⟩
end Nv

namespace Nv
open PySem PySem.Spec PyProof.Rows L2

/-! dicts with keys, asked by in and not in -/
def rInK (neg : Bool) : R2 := fun x y H Q => ∃ a o, y = .ref a ∧ DGet H a x o ∧ Q (.bl (o.isSome != neg)) H
theorem op_inK {X : Cx} (hu : X.A.units + 1 < cLine) : OpR X (compareOp .In) (rInK false) := by
  intro pins s σ H x y v u Q I rx ry h
  obtain ⟨a, o, rfl, g, q⟩ := h
  obtain rfl : u = Value.ref a := ry
  exact d_in hu I g rx fun s3 I3 => ⟨.bl o.isSome, H, I3, rfl, by cases o <;> exact q⟩
theorem op_notInK {X : Cx} (hu : X.A.units + 1 < cLine) : OpR X (compareOp .NotIn) (rInK true) := by
  intro pins s σ H x y v u Q I rx ry h
  obtain ⟨a, o, rfl, g, q⟩ := h
  obtain rfl : u = Value.ref a := ry
  exact d_notIn hu I g rx fun s3 I3 => ⟨.bl (!o.isSome), H, I3, rfl, by cases o <;> exact q⟩
theorem e_dget {td ty : TE} {σ : L2.St} {H : Hp} {Q : VK} : tDGet td ty σ H Q = td σ H (fun x H1 => ty σ H1 fun y H2 => ∃ a v, x = .ref a ∧ DGet H2 a y (some v) ∧ Q v H2) := rfl
/-! a op b op c op d -/
def tChain3 (r r' r'' : R2) (ta tb tc td : TE) : TE := fun σ H Q => ta σ H fun x H1 => tb σ H1 fun y H2 => r x y H2 fun z H3 => ∃ k, z = .bl k ∧
  (if k = true then tc σ H3 fun w H4 => r' y w H4 fun z2 H5 => ∃ k2, z2 = .bl k2 ∧ (if k2 = true then td σ H5 fun w2 H6 => r'' w w2 H6 Q else Q (.bl false) H5) else Q (.bl false) H3)
theorem e_chain3 {r r' r'' : R2} {ta tb tc td : TE} {σ : L2.St} {H : Hp} {Q : VK} : tChain3 r r' r'' ta tb tc td σ H Q = ta σ H (fun x H1 => tb σ H1 fun y H2 => r x y H2 fun z H3 => ∃ k, z = .bl k ∧
  (if k = true then tc σ H3 fun w H4 => r' y w H4 fun z2 H5 => ∃ k2, z2 = .bl k2 ∧ (if k2 = true then td σ H5 fun w2 H6 => r'' w w2 H6 Q else Q (.bl false) H5) else Q (.bl false) H3)) := rfl
theorem pe_chain3 {X : Cx} {a b c d : Expr} {ta tb tc td : TE} {pos : Pos} {op op' op'' : CmpOp} {r r' r'' : R2} (h1 : OpR X (compareOp op) r) (h2 : OpR X (compareOp op') r') (h3 : OpR X (compareOp op'') r'') (ha : PE X a ta) (hb : PE X b tb) (hc : PE X c tc) (hd : PE X d td)
    (hm : lastMarks [op, op', op''] [b, c, d] = false := by with_unfolding_all rfl) : PE X (.Compare a [op, op', op''] [b, c, d] pos) (tChain3 r r' r'' ta tb tc td) := by
  refine ⟨fun pins s σ H Q I h => ?_⟩
  refine Compare_chain (thn (ha.run pins s σ H _ I h) fun v s1 ⟨x, H1, I1, r1, q1⟩ => chain_link (thn (hb.run pins s1 σ H1 _ I1 q1) fun u s2 ⟨y, H2, I2, r2, q2⟩ =>
    thn (h1 pins s2 σ H2 x y v u _ I2 r1 r2 q2) fun e s3 ⟨z, H3, I3, r3, k, ek, q3⟩ => ?_)) hm
  subst ek
  cases r3
  refine wpAny_truthy_bool ?_
  cases k with
  | false => exact ite_ff ⟨.bl false, H3, I3, rfl, q3⟩
  | true =>
    refine ite_tt (chain_link (thn (hc.run pins s3 σ H3 _ I3 q3) fun w' s4 ⟨z', H4, I4, r4, q4⟩ => thn (h2 pins s4 σ H4 y z' u w' _ I4 r2 r4 q4) fun e5 s5 ⟨z5, H5, I5, r5, k5, ek5, q5⟩ => ?_))
    subst ek5
    cases r5
    refine wpAny_truthy_bool ?_
    cases k5 with
    | false => exact ite_ff ⟨.bl false, H5, I5, rfl, q5⟩
    | true => exact ite_tt (chain_last (thn (hd.run pins s5 σ H5 _ I5 q5) fun w6 s6 ⟨z6, H6, I6, r6, q6⟩ => h3 pins s6 σ H6 z' z6 w' w6 Q I6 r4 r6 q6))
theorem op_ltTK {X : Cx} {K : PySem.W.Frag} (h : X.K = K) (hu : X.A.units < cLine) : OpR X (compareOp .Lt) (rLtT K) := by
  subst h
  exact op_ltT hu
theorem op_leTK {X : Cx} {K : PySem.W.Frag} (h : X.K = K) (hu : X.A.units < cLine) : OpR X (compareOp .LtE) (rLeT K) := by
  subst h
  exact op_leT hu
theorem units1 {A : Around} (h : A.units + 64 < cLine) : A.units < cLine := by omega
end Nv

namespace Nv
open PySem PySem.Spec PyProof.Rows L2

section
variable {J : It} {n : Nat} {G : Hp → Prop} {Y : Nat → Hp → V → Hp → Prop} {g : TG} {te : TE} {vs : List Nat} {σ : L2.St} {H : Hp} {D : Addr} {Qd : Hp → Prop}
/-- a comprehension whose items are new objects -/
theorem lc_ref (w : Walk J n G Y) (Pv : Nat → HO → Prop) (hD : H D = none) (hz : n ≤ sizeLine) (hG : ∀ H', Same H H' → G H')
    (hs : ∀ i x Ha Hb (R : VK), i < n → Same H Ha → Y i Ha x Hb → (∀ b o H4, Same Ha H4 → Ha b = none → H4 b = some o → Pv i o → R (.ref b) H4) → g x (wipe σ vs) Hb fun σ2 H2 => wipe σ2 vs = wipe σ vs ∧ te σ2 H2 R)
    (hd : ∀ (bs : List Addr) H', bs.length = n → bs.Nodup → (∀ b ∈ bs, H b = none ∧ b ≠ D) → (∀ (j : Nat) (b : Addr), bs[j]? = some b → ∃ o, H' b = some o ∧ Pv j o) → Same H H' → H' D = some (.lst (bs.map V.ref)) → Qd H') :
    ∃ W : Nat → Nat → Hp → Prop, (∃ m, W 0 m (upd H D (.lst []))) ∧ ∀ i m H, W i m H →
      (J.stop i H ∧ Qd H) ∨ (J.go i H ∧ ∃ Nx : Hp → Prop, (∀ H', Nx H' → ∃ m', m' < m ∧ W (i + 1) m' H') ∧ ∀ x H', J.yld i H x H' → g x (wipe σ vs) H' fun σ2 H2 => wipe σ2 vs = wipe σ vs ∧ tYes σ2 H2 fun b H3 =>
        if b = true then te σ2 H3 fun y H4 => ∃ acc, H4 D = some (.lst acc) ∧ acc.length < sizeLine ∧ Nx (upd H4 D (.lst (acc ++ [y]))) else Nx H3) := by
  let C : Nat → Hp → Prop := fun i H' => ∃ bs : List Addr, bs.length = i ∧ bs.Nodup ∧ (∀ b ∈ bs, H b = none ∧ b ≠ D) ∧ (∀ (j : Nat) (b : Addr), bs[j]? = some b → ∃ o, H' b = some o ∧ Pv j o) ∧ Same H H' ∧ H' D = some (.lst (bs.map V.ref))
  refine lc_it w C ⟨[], rfl, List.nodup_nil, by simp, by simp, Same.new hD, upd_same⟩ (fun i H' _ ⟨_, _, _, _, _, S, _⟩ => hG H' S) ?_ ?_
  · rintro i x Ha Hb hi ⟨bs, lb, nd, off, ps, S, fD⟩ y
    have key := hs i x Ha Hb (fun v' H4 => ∃ acc, H4 D = some (.lst acc) ∧ acc.length < sizeLine ∧ C (i + 1) (upd H4 D (.lst (acc ++ [v'])))) hi S y ?_
    · have e : (fun (σ2 : L2.St) (H2 : Hp) => wipe σ2 vs = wipe σ vs ∧ tYes σ2 H2 fun b H3 => if b = true then te σ2 H3 fun y H4 => ∃ acc, H4 D = some (.lst acc) ∧ acc.length < sizeLine ∧ C (i + 1) (upd H4 D (.lst (acc ++ [y]))) else C (i + 1) H3)
          = fun σ2 H2 => wipe σ2 vs = wipe σ vs ∧ te σ2 H2 fun v' H4 => ∃ acc, H4 D = some (.lst acc) ∧ acc.length < sizeLine ∧ C (i + 1) (upd H4 D (.lst (acc ++ [v']))) := by
        funext σ2 H2
        rw [e_tyes, if_pos rfl]
      show g x (wipe σ vs) Hb fun σ2 H2 => wipe σ2 vs = wipe σ vs ∧ tYes σ2 H2 fun b H3 => if b = true then te σ2 H3 fun y H4 => ∃ acc, H4 D = some (.lst acc) ∧ acc.length < sizeLine ∧ C (i + 1) (upd H4 D (.lst (acc ++ [y]))) else C (i + 1) H3
      rw [e]
      exact key
    · intro b o H4 S4 nb hb pv
      have bD : b ≠ D := fun e => by
        rw [e, fD] at nb
        cases nb
      have oth : ∀ c ∈ bs, c ≠ b := fun c hc e => by
        obtain ⟨j, hj⟩ := List.mem_iff_getElem?.mp hc
        obtain ⟨u, hu, _⟩ := ps j c hj
        rw [e, nb] at hu
        cases hu
      refine ⟨_, S4 _ _ fD, by rw [List.length_map]; omega, bs ++ [b], by rw [List.length_append, lb]; rfl, ?_, ?_, ?_, ?_, ?_⟩
      · rw [List.nodup_append]
        refine ⟨nd, by simp, ?_⟩
        intro c hc d hd e
        simp at hd
        exact oth c hc (e.trans hd)
      · intro c hc
        rcases List.mem_append.mp hc with hc | hc
        · exact off c hc
        · simp at hc
          subst hc
          refine ⟨?_, bD⟩
          cases q : H c with
          | none => rfl
          | some u =>
            rw [S _ _ q] at nb
            cases nb
      · intro j c hc
        by_cases hj : j < bs.length
        · rw [List.getElem?_append_left hj] at hc
          obtain ⟨u, hu, pu⟩ := ps j c hc
          have cD := (off c (List.mem_of_getElem? hc)).2
          exact ⟨u, by rw [upd_ne cD]; exact S4 _ _ hu, pu⟩
        · have : j = bs.length := by
            have := (List.getElem?_eq_some_iff.mp hc).1
            simp at this
            omega
          subst this
          rw [List.getElem?_concat_length] at hc
          cases hc
          exact ⟨o, by rw [upd_ne bD]; exact hb, by rw [lb]; exact pv⟩
      · intro a u ha
        rw [upd_ne (ne_of_none ha hD)]
        exact S4 _ _ (S _ _ ha)
      · rw [upd_same, List.map_append]
        rfl
  · rintro H' ⟨bs, lb, nd, off, ps, S, fD⟩
    exact hd bs H' lb nd off ps S fD
end
theorem cr_sortedIK {X : Cx} {K : PySem.W.Frag} (h : X.K = K) : CallR X (.builtin "sorted") (rSortedI K) := by
  subst h
  exact cr_sortedI
end Nv

namespace Nv
open PySem PySem.Spec PyProof.Rows L2

/-- all but lists stands -/
def SameT (H H' : Hp) : Prop := ∀ b o, (∀ xs, o ≠ .lst xs) → H b = some o → H' b = some o
theorem Same.t {H H' : Hp} (S : Same H H') : SameT H H' := fun b o _ h => S b o h
section
variable {J : It} {n : Nat} {G : Hp → Prop} {Y : Nat → Hp → V → Hp → Prop} {g : TG} {te : TE} {vs : List Nat} {σ : L2.St} {H : Hp} {D : Addr} {Qd : Hp → Prop}
/-- a comprehension whose items stand in a relation that no list bears -/
theorem lc_rel (w : Walk J n G Y) (Rl : Hp → Nat → V → Prop) (mono : ∀ H H' i v, SameT H H' → Rl H i v → Rl H' i v) (hD : H D = none) (hz : n ≤ sizeLine) (hG : ∀ H', Same H H' → G H')
    (hs : ∀ i x Ha Hb (R : VK), i < n → Same H Ha → Y i Ha x Hb → (∀ v H4, Same Ha H4 → Rl H4 i v → R v H4) → g x (wipe σ vs) Hb fun σ2 H2 => wipe σ2 vs = wipe σ vs ∧ te σ2 H2 R)
    (hd : ∀ acc H', Same H H' → acc.length = n → H' D = some (.lst acc) → (∀ (j : Nat) v, acc[j]? = some v → Rl H' j v) → Qd H') :
    ∃ W : Nat → Nat → Hp → Prop, (∃ m, W 0 m (upd H D (.lst []))) ∧ ∀ i m H, W i m H →
      (J.stop i H ∧ Qd H) ∨ (J.go i H ∧ ∃ Nx : Hp → Prop, (∀ H', Nx H' → ∃ m', m' < m ∧ W (i + 1) m' H') ∧ ∀ x H', J.yld i H x H' → g x (wipe σ vs) H' fun σ2 H2 => wipe σ2 vs = wipe σ vs ∧ tYes σ2 H2 fun b H3 =>
        if b = true then te σ2 H3 fun y H4 => ∃ acc, H4 D = some (.lst acc) ∧ acc.length < sizeLine ∧ Nx (upd H4 D (.lst (acc ++ [y]))) else Nx H3) := by
  let C : Nat → Hp → Prop := fun i H' => ∃ acc : List V, acc.length = i ∧ (∀ (j : Nat) v, acc[j]? = some v → Rl H' j v) ∧ Same H H' ∧ H' D = some (.lst acc)
  refine lc_it w C ⟨[], rfl, by simp, Same.new hD, upd_same⟩ (fun i H' _ ⟨_, _, _, S, _⟩ => hG H' S) ?_ ?_
  · rintro i x Ha Hb hi ⟨acc, la, ps, S, fD⟩ y
    have key := hs i x Ha Hb (fun v' H4 => ∃ acc, H4 D = some (.lst acc) ∧ acc.length < sizeLine ∧ C (i + 1) (upd H4 D (.lst (acc ++ [v'])))) hi S y ?_
    · have e : (fun (σ2 : L2.St) (H2 : Hp) => wipe σ2 vs = wipe σ vs ∧ tYes σ2 H2 fun b H3 => if b = true then te σ2 H3 fun y H4 => ∃ acc, H4 D = some (.lst acc) ∧ acc.length < sizeLine ∧ C (i + 1) (upd H4 D (.lst (acc ++ [y]))) else C (i + 1) H3)
          = fun σ2 H2 => wipe σ2 vs = wipe σ vs ∧ te σ2 H2 fun v' H4 => ∃ acc, H4 D = some (.lst acc) ∧ acc.length < sizeLine ∧ C (i + 1) (upd H4 D (.lst (acc ++ [v']))) := by
        funext σ2 H2
        rw [e_tyes, if_pos rfl]
      show g x (wipe σ vs) Hb fun σ2 H2 => wipe σ2 vs = wipe σ vs ∧ tYes σ2 H2 fun b H3 => if b = true then te σ2 H3 fun y H4 => ∃ acc, H4 D = some (.lst acc) ∧ acc.length < sizeLine ∧ C (i + 1) (upd H4 D (.lst (acc ++ [y]))) else C (i + 1) H3
      rw [e]
      exact key
    · intro v H4 S4 rl
      have up : SameT H4 (upd H4 D (.lst (acc ++ [v]))) := fun b o no hb => by
        by_cases e : b = D
        · subst e
          rw [S4 _ _ fD] at hb
          cases hb
          exact absurd rfl (no _)
        · rw [upd_ne e]
          exact hb
      refine ⟨acc, S4 _ _ fD, by omega, acc ++ [v], by rw [List.length_append, la]; rfl, ?_, ?_, upd_same⟩
      · intro j u hu
        by_cases hj : j < acc.length
        · rw [List.getElem?_append_left hj] at hu
          exact mono _ _ _ _ up (mono _ _ _ _ (Same.t S4) (ps j u hu))
        · have : j = acc.length := by
            have := (List.getElem?_eq_some_iff.mp hu).1
            simp at this
            omega
          subst this
          rw [List.getElem?_concat_length] at hu
          cases hu
          rw [la]
          exact mono _ _ _ _ up rl
      · intro a u ha
        rw [upd_ne (ne_of_none ha hD)]
        exact S4 _ _ (S _ _ ha)
  · rintro H' ⟨acc, la, ps, S, fD⟩
    exact hd acc H' S la fD ps
end
end Nv

namespace Nv
open PySem PySem.Spec PyProof.Rows L2

/-- objects of this class tell their class -/
structure TyI (K : PySem.W.Frag) (C : Addr) : Prop where
  ha : PySem.W.findIn K (.ref C) "__class__" = some (some (.builtin "object.__class__"))
  hn : PySem.W.specialIn K (.builtin "object.__class__") "__get__" = some (some (.builtin "getset_descriptor.__get__"))
  htk : PySem.W.takesIn K (.builtin "object.__class__") = some true
  hm : PySem.W.mroIn K C (.type "object") = some true
theorem r_isiI {K : PySem.W.Frag} {C D dx a : Addr} {fs : List (Str × V)} {H : Hp} {Q : VK} {b : Bool} (t : TyI K C) (cl : Cls K C) (e : H a = some (.ins C dx fs)) (k : PySem.W.kitOne K (.ref C) (.ref D) = some b) (q : Q (.bl b) H) : rIsiA K [.ref a, .ref D] H Q :=
  .inl ⟨.ref a, .ref D, .ref C, .ref D, b, rfl, .own D, .base (.ins e cl t.ha t.hn t.htk t.hm), k, q⟩
theorem r_isiIT {K : PySem.W.Frag} {C dx a : Addr} {T : String} {fs : List (Str × V)} {H : Hp} {Q : VK} {b : Bool} (t : TyI K C) (cl : Cls K C) (e : H a = some (.ins C dx fs)) (k : PySem.W.kitOne K (.ref C) (.type T) = some b) (q : Q (.bl b) H) : rIsiA K [.ref a, .ty T] H Q :=
  .inl ⟨.ref a, .ty T, .ref C, .type T, b, rfl, .ty T, .base (.ins e cl t.ha t.hn t.htk t.hm), k, q⟩
/-! pairs of small numbers, as data -/
def pD (p : Nat × Nat) : PyData := .tuple [.int (p.1 : Int), .int (p.2 : Int)]
theorem eqv_int (a b : Int) : PyData.eqv (.int a) (.int b) = decide (a = b) := by
  simp only [PyData.eqv]
  rw [Bool.eq_iff_iff, beq_iff_eq, decide_eq_true_eq]
theorem eqv_pD (p q : Nat × Nat) : PyData.eqv (pD p) (pD q) = decide (p = q) := by
  obtain ⟨a, b⟩ := p
  obtain ⟨c, d⟩ := q
  unfold pD
  simp only [PyData.eqv, PyData.eqvAll, Bool.and_true]
  rw [Bool.eq_iff_iff, Bool.and_eq_true, beq_iff_eq, beq_iff_eq, decide_eq_true_eq, Prod.mk.injEq]
  omega
theorem eqv_pDs : ∀ ps qs : List (Nat × Nat), PyData.eqvAll (ps.map pD) (qs.map pD) = decide (ps = qs)
  | [], [] => by simp [PyData.eqvAll]
  | [], _ :: _ => by simp [PyData.eqvAll]
  | _ :: _, [] => by simp [PyData.eqvAll]
  | x :: xs, y :: ys => by
    rw [List.map_cons, List.map_cons, PyData.eqvAll, eqv_pD x y, eqv_pDs xs ys, ← Bool.decide_and]
    exact decide_eq_decide.mpr (by rw [List.cons.injEq])
theorem Ft.pD {p : Nat × Nat} (h1 : p.1 ≤ 10 ^ 9) (h2 : p.2 ≤ 10 ^ 9) : Ft 144 1 (Nv.pD p) :=
  Ft.le (Ft.tuple (D := 0) (Fts.cons (Ft.int (by omega)) (Fts.cons (Ft.int (by omega)) (Fts.nil (W := 0))))) (by decide) (by decide)
theorem Fts.pDs : ∀ {ps : List (Nat × Nat)}, (∀ p ∈ ps, p.1 ≤ 10 ^ 9 ∧ p.2 ≤ 10 ^ 9) → Fts (145 * ps.length) 1 (ps.map Nv.pD)
  | [], _ => Fts.nil
  | p :: r, h => by
    have ih := Fts.pDs (ps := r) fun x hx => h x (by simp [hx])
    refine (Fts.cons (Ft.pD (h p (by simp)).1 (h p (by simp)).2) ih).le ?_ (Nat.le_refl _)
    rw [List.length_cons]
    omega
theorem shaped_pDs {ps : List (Nat × Nat)} (h : ∀ p ∈ ps, p.1 ≤ 10 ^ 9 ∧ p.2 ≤ 10 ^ 9) : SeqAt.shaped (.tuple (ps.map pD)) = true := by
  have f := Ft.tuple (Fts.pDs h)
  unfold SeqAt.shaped
  have := f.s.p
  rw [f.c, Bool.true_and, decide_eq_true_eq]
  omega
end Nv

namespace Nv
open PySem PySem.Spec PyProof.Rows L2

/-! a tuple of which it is told that it has no attributes; its count -/
def Tp (H : Hp) (a : Addr) (xs : List V) : Prop := ∃ o : Obj, H a = some (.frz o (.tup xs)) ∧ o.dict = none
theorem Tp.seq {K : PySem.W.Frag} {H : Hp} {a : Addr} {xs : List V} (h : Tp H a xs) : SqT K H a xs := by
  obtain ⟨o, h, _⟩ := h
  exact .inl (.inr ⟨o, h⟩)
theorem Tp.mono {H H' : Hp} {a : Addr} {xs : List V} (S : Same H H') (h : Tp H a xs) : Tp H' a xs := by
  obtain ⟨o, h, d⟩ := h
  exact ⟨o, S _ _ h, d⟩
section
variable {X : Cx}
theorem call_tuple_frz : CallR X (.type "tuple") (fun xs H Q => ∃ p ys, xs = [.ref p] ∧ SqL X.K H p ys ∧ ∀ l H', H l = none → Same H H' → Tp H' l ys → Q (.ref l) H') := by
  intro pins s σ H xs us Q I r h
  obtain ⟨p, ys, rfl, hq, q⟩ := h
  obtain ⟨u, rfl, rx⟩ := vals1 r
  cases rx
  obtain ⟨its, rr, pl, hz⟩ := I.list hq
  have len := rr.length
  refine call_tuple_list pl.isList (fun g kp => ?_) (by simp only [List.size_toArray] <;> omega)
  have J : Inv X pins σ H { s with heap := g } := I.kept (t' := s.toks) kp
  have nx := J.hok.fresh (a := g.objs.size) (Nat.le_refl _)
  let ob : Obj := { cls := .type "tuple", data := .seq its.toArray }
  have J2 : Inv X pins σ (upd H g.objs.size (.frz ob (.tup ys))) { s with heap := g.push ob } :=
    J.laid (t' := s.toks) (fun b o e => Heap.get?_push_of_some _ e) (Nat.le_refl _)
      (show ObjOk X.prog X.w _ _ _ (.frz ob (.tup ys)) from ⟨Heap.get?_push_size _ rfl, hz, its, rr, IsTup.new _ _⟩)
  exact ⟨.ref g.objs.size, _, J2, rfl, q _ _ nx (Same.new nx) ⟨ob, upd_same, rfl⟩⟩
theorem call_tuple_ofK {K : PySem.W.Frag} (h : X.K = K) : CallR X (.type "tuple") (fun xs H Q => ∃ p ys, xs = [.ref p] ∧ ((SqL K H p ys ∧ ∀ l, H l = none → Q (.ref l) (upd H l (.tup ys))) ∨ (SqT K H p ys ∧ Q (.ref p) H))) := by
  subst h
  exact call_tuple_of
theorem mt_tcount : MtR X "tuple.count" (fun x xs H Q => ∃ (p : Addr) (ns : List Int) (k : Int), x = .ref p ∧ xs = [.int k] ∧ Tp H p (ns.map V.int) ∧ Q (.int (ns.count k : Nat)) H) := by
  intro pins s σ H x xs v us Q I rx rs h
  obtain ⟨p, ns, k, rfl, rfl, hq, q⟩ := h
  cases rx
  obtain ⟨u, rfl, t, rfl⟩ := vals1 rs
  obtain ⟨its, rv, pl, hz⟩ := I.tuple (hq.seq (K := X.K))
  obtain ⟨⟨cls, dd, dt, sl⟩, ho, hc, n, hd⟩ := pl
  simp only at hc hd
  subst hc hd
  have hi := ints_of_vals rv
  have ec : its.toArray.toList.countP (eqk k) = ns.count k := eqk_count hi
  refine call_meets PySem.F.slot_tuple_count ⟨_, ho, rfl⟩ PySem.F.entry_tuple_count (PySem.F.args_tuple_count_2 _ _) (SeqAt.tuple_countAt p its.toArray n dd sl (.int k t) (eqk k)) ⟨ho, ?_, ?_⟩
  · exact fun y hy => (eqk_gives hi y (by simpa using hy)).at _ _
  · refine ⟨.int (ns.count k : Nat), H, I.tok _, ⟨s.toks, ?_⟩, q⟩
    rw [ec]
theorem op_inDK {K : PySem.W.Frag} (h : X.K = K) (hu : X.A.units + 65 < cLine) : OpR X (compareOp .In) (rInD K) := by
  subst h
  exact op_inD hu
theorem op_notInDK {K : PySem.W.Frag} (h : X.K = K) (hu : X.A.units + 65 < cLine) : OpR X (compareOp .NotIn) (rNotInD K) := by
  subst h
  exact op_notInD hu
theorem units65 {k : Nat} {A : Around} (r : Room k A) : A.units + 65 < cLine := by
  have := r.un
  omega
def tBMT (r : V → List V → Hp → VK → Prop) (to : TE) (t : TA) : TE := fun σ H Q => to σ H fun x H1 => (∃ a xs, x = .ref a ∧ Tp H1 a xs) ∧ t σ H1 fun xs H2 => r x xs H2 Q
theorem pe_bmT {o e : Expr} {es : List Expr} {to : TE} {t : TA} {name : Str} {apos cpos : Pos} {id : String} {r : V → List V → Hp → VK → Prop} (slot : Slot "tuple" name id) (hty : typeOf (.builtin id) = pure (.type "method_descriptor")) (hm : MtR X id r) (ho : PE X o to) (ha : PA X (e :: es) t)
    (hbase : attributeBase o name X.env (eval o X.env) = eval o X.env := by rfl)
    (hfew : ((backTo cpos (starEach (e :: es) X.env)).all (fun x => !x.1) && (backToKw cpos (keywordEach [] X.env)).all (fun x => x.1.isSome)
      && decide ((e :: es).length + ([] : List Keyword).length + (if ([] : List Keyword).isEmpty then 0 else 1) < 30)) = true := by rfl)
    (hline : (apos.endLine == cpos.line) = true := by rfl) (hs : starEach (e :: es) X.env = (false, eval e X.env) :: starEach es X.env := by rfl) (hplain : (backTo cpos (starEach es X.env)).any (·.1) = false := by rfl) :
    PE X (.Call (.Attribute o name apos) (e :: es) [] cpos) (tBMT r to t) := by
  constructor
  intro pins s σ H Q I h
  refine wpAny_Call_method_late hbase hfew hline rfl (thn (ho.run pins s σ H _ I h) fun v s1 ⟨x, H1, I1, r1, ⟨a, xs, ex, ob, hob, hdn⟩, q1⟩ => ?_)
  subst ex
  cases r1
  obtain ⟨g1, _, its, rv, pl⟩ := I1.hok a _ hob
  obtain ⟨ob2, g2, hc, _⟩ := pl
  rw [g1] at g2
  cases g2
  refine ⟨"tuple", id, PySem.F.plainAttrs_tuple, slot, hty, ⟨ob, g1, hc⟩, fun b e => ?_, ?_⟩
  · cases e
    exact ⟨ob, g1, hdn⟩
  have hA := ha.run cpos pins s1 σ H1 _ I1 q1
  rw [hs] at hA ⊢
  exact Calls.callWith_builtin (by show (false || (backTo cpos (starEach es X.env)).any (·.1)) = false; rw [hplain] <;> rfl) (Calls.evalArgs_plain (thn hA fun us s2 ⟨vs, H2, I2, r2, q2⟩ => hm pins s2 σ H2 (.ref a) vs (.ref a) us Q I2 rfl r2 q2))
end
theorem kit_typ {K : PySem.W.Frag} {C : Addr} {T : String} {b : Bool} (m : PySem.W.kitMeta T = true) (h : PySem.W.subIn K (.ref C) (.type T) = some b) : PySem.W.kitOne K (.ref C) (.type T) = some b := by
  unfold PySem.W.kitOne PySem.W.kitCls
  rw [if_neg (by intro e; cases (beq_iff_eq.mp e))]
  show (if PySem.W.kitMeta T = true then _ else _) = _
  rw [if_pos m]
  exact h
/-- a comprehension with a test, whose items are known ahead -/
theorem sel_list {α β : Type} (f : α → Option β) (l : List α) : (List.range l.length).filterMap (fun i => (l[i]?).bind f) = l.filterMap f := by
  have : ∀ k, k ≤ l.length → (List.range k).filterMap (fun i => (l[i]?).bind f) = (l.take k).filterMap f := by
    intro k
    induction k with
    | zero => intro _; rfl
    | succ k ih =>
      intro hk
      rw [List.range_succ, List.filterMap_append, ih (by omega), List.take_add_one, List.filterMap_append]
      have e := List.getElem?_eq_getElem (l := l) (i := k) (by omega)
      cases hf : f l[k] <;> simp [e, hf]
  have h := this l.length (Nat.le_refl _)
  rwa [List.take_length] at h
theorem lc_sel {J : It} {n : Nat} {G : Hp → Prop} {Y : Nat → Hp → V → Hp → Prop} {g : TG} {tt : TT} {te : TE} {vs : List Nat} {σ : L2.St} {H : Hp} {D : Addr} {Qd : Hp → Prop} (w : Walk J n G Y) (ys : Nat → Option V) (hD : H D = none) (hz : n ≤ sizeLine) (hG : ∀ H', Same H H' → G H')
    (hs : ∀ i x Ha Hb (R : VK) (Rn : Hp → Prop), i < n → Same H Ha → Y i Ha x Hb → (∀ v, ys i = some v → ∀ H4, Same Ha H4 → R v H4) → (ys i = none → ∀ H4, Same Ha H4 → Rn H4) →
      g x (wipe σ vs) Hb fun σ2 H2 => wipe σ2 vs = wipe σ vs ∧ tt σ2 H2 fun b H3 => if b = true then te σ2 H3 R else Rn H3)
    (hd : ∀ H', Same H H' → H' D = some (.lst ((List.range n).filterMap ys)) → Qd H') :
    ∃ W : Nat → Nat → Hp → Prop, (∃ m, W 0 m (upd H D (.lst []))) ∧ ∀ i m H, W i m H →
      (J.stop i H ∧ Qd H) ∨ (J.go i H ∧ ∃ Nx : Hp → Prop, (∀ H', Nx H' → ∃ m', m' < m ∧ W (i + 1) m' H') ∧ ∀ x H', J.yld i H x H' → g x (wipe σ vs) H' fun σ2 H2 => wipe σ2 vs = wipe σ vs ∧ tt σ2 H2 fun b H3 =>
        if b = true then te σ2 H3 fun y H4 => ∃ acc, H4 D = some (.lst acc) ∧ acc.length < sizeLine ∧ Nx (upd H4 D (.lst (acc ++ [y]))) else Nx H3) := by
  refine lc_it w (fun i H' => H' D = some (.lst ((List.range i).filterMap ys)) ∧ Same H H') ⟨upd_same, Same.new hD⟩ (fun i H' _ p => hG H' p.2) ?_ ?_
  · rintro i x Ha Hb hi ⟨f, S⟩ y
    have step : (List.range (i + 1)).filterMap ys = (List.range i).filterMap ys ++ (ys i).toList := by
      cases h : ys i <;> simp [List.range_succ, List.filterMap_append, h]
    refine hs i x Ha Hb _ (fun H3 => H3 D = some (.lst ((List.range (i + 1)).filterMap ys)) ∧ Same H H3) hi S y ?_ ?_
    · intro v hv H4 S4
      refine ⟨_, S4 _ _ f, ?_, ?_, fun a u ha => ?_⟩
      · have := List.length_filterMap_le ys (List.range i)
        rw [List.length_range] at this
        omega
      · rw [upd_same, step, hv]
        rfl
      · rw [upd_ne (ne_of_none ha hD)]
        exact S4 _ _ (S _ _ ha)
    · intro hv H4 S4
      rw [step, hv]
      exact ⟨by rw [S4 _ _ f]; simp, S.trans S4⟩
  · rintro H' ⟨f, S⟩
    exact hd H' S f
end Nv

namespace Nv
open PySem PySem.Spec PyProof.Rows L2

theorem call_list_newK {X : Cx} {K : PySem.W.Frag} (h : X.K = K) : CallR X (.type "list") (fun xs H Q => ∃ (src : Addr) (items : List V), xs = [.ref src] ∧ (SqL K H src items ∨ SqT K H src items) ∧
    ∀ l, H l = none → l ≠ sysModules → Q (.ref l) (upd H l (.lst items))) := by
  subst h
  exact call_list_new
end Nv

namespace Nv
open PySem PySem.Spec PyProof.Rows L2

/-! sets of tuples of ints that a comprehension makes -/
/-- what the set at D holds after the tuple t, of the numbers k, came in -/
structure Came (t : Addr) (k : List Int) (old new : List (Addr × List Int)) : Prop where
  had : k ∈ old.map (·.2) → new = old
  new_ : k ∉ old.map (·.2) → new.Perm ((t, k) :: old)
section
variable {X : Cx} {pins : List (Addr × Obj)} {σ : L2.St} {H : Hp} {s : Shared}
theorem addT_ok {E Q : Value → Shared → Prop} {D t : Addr} {k : List Int} {old : List (Addr × List Int)} (J : Inv X pins σ H s) (eD : H D = some (SetTO X.prog X.w D old)) (each : ∀ p ∈ old, SqT X.K H p.1 (p.2.map V.int))
    (et : SqT X.K H t (k.map V.int)) (few : old.length + 1 < 64) (un : X.A.in1.units < cLine) (then_ : ∀ new st, Came t k old new → Inv X pins σ (upd H D (SetTO X.prog X.w D new)) st → Q .none st) :
    wpAny (model X.prog X.w) X.A (call (.builtin "set.add") [.ref D, .ref t]) Q E s := by
  obtain ⟨bare, _, _⟩ := J.hok D _ eD
  obtain ⟨es, ep, tb, full⟩ := SetT0.full bare fun p hp => J.isT (each p hp)
  obtain ⟨ob, obAt, obEx, obDt⟩ := full.ob
  have ty : s.TypeIs (.ref D) "set" := ⟨ob, obAt, obEx.1⟩
  have isT := J.isT et
  apply wpAny_call_entry F.slot_set_add ty F.entry_set_add ?_ (F.args_set_add_2 _ _)
  unfold Builtin.«set.add» Builtin.Frozenset.oneOther
  simp only [List.isEmpty_nil, bind_assoc]
  unfold Builtin.Frozenset.addrOf setAdd
  apply wpAny_bind
  apply wpAny_pure
  try dsimp only
  apply wpAny_bind
  apply wpAny_pure
  try dsimp only
  apply wpAny_bind
  apply wpAny_holding
  apply wpAny_bind
  apply wpAny_pyHash_tuple un isT
  refine add_at (s := { s with toks := s.toks + (k.length + 1) }) full isT un few fun b h' new es' ep' tb' same full' c1 c2 => ?_
  apply wpAny_pure
  refine ⟨_, rfl, then_ new _ ⟨c1, c2⟩ ?_⟩
  obtain ⟨ob', obAt', _⟩ := full'.ob
  exact J.write (e := D) (t' := s.toks + (k.length + 1)) (by rw [eD]; trivial) (.inl rfl) (fun b u nb hu => (same.2 b nb).trans hu) ⟨ob', obAt'⟩ (setTO_new full'.t0)
/-- {elt for target in iter if ..}, each elt a tuple of ints; D the new set -/
def tScT (P : Program) (w : World) (K : PySem.W.Frag) (wi : TI) (g : TG) (tt : TT) (te : TE) (vs : List Nat) : TE := fun σ H Q => wi σ H fun J G0 => ∀ D, G0 D = none →
  ∃ W : Nat → Nat → Hp → Prop, (∃ m, W 0 m (upd G0 D (SetTO P w D []))) ∧ ∀ i m G, W i m G → (J.stop i G ∧ Q (.ref D) G) ∨ (J.go i G ∧ ∃ Nx : Hp → Prop, (∀ G', Nx G' → ∃ m', m' < m ∧ W (i + 1) m' G') ∧
    ∀ x G', J.yld i G x G' → g x (wipe σ vs) G' fun σ2 G2 => wipe σ2 vs = wipe σ vs ∧ tt σ2 G2 fun b G3 => if b = true then te σ2 G3 fun y G4 => ∃ (t : Addr) (k : List Int) (old : List (Addr × List Int)), y = .ref t ∧ SqT K G4 t (k.map V.int) ∧
      G4 D = some (SetTO P w D old) ∧ (∀ p ∈ old, SqT K G4 p.1 (p.2.map V.int)) ∧ old.length + 1 < 64 ∧ ∀ new, Came t k old new → Nx (upd G4 D (SetTO P w D new)) else Nx G3)
theorem pe_scT {elt tg iter : Expr} {ifs : List Expr} {scope : Scope} {own : List (PySem.Str × Nat)} {pos : Pos} {wi : TI} {g : TG} {tt : TT} {te : TE} (calm : X.calm = true) (un : X.A.in1.units < cLine) (ndN : X.N.Nodup) (pi : PI X tg iter wi) (blk : BlkOk X.N X.env.scope scope own)
    (pg : ∀ (s : Shared) (H : Hp) (C : Addr) (cl : List (PySem.Str × Addr)) (fp : List Addr), PG (X.blk s H scope (compEnvC scope cl C X.env) fp) tg g)
    (pt : ∀ (s : Shared) (H : Hp) (C : Addr) (cl : List (PySem.Str × Addr)) (fp : List Addr), PTs (X.blk s H scope (compEnvC scope cl C X.env) fp) ifs tt)
    (pe : ∀ (s : Shared) (H : Hp) (C : Addr) (cl : List (PySem.Str × Addr)) (fp : List Addr), PE (X.blk s H scope (compEnvC scope cl C X.env) fp) elt te)
    (hs : ∀ x, foldedSetIterable iter X.env x = pure x := by intro _; rfl) : PE X (.SetComp elt [⟨tg, iter, ifs, 0⟩] scope pos) (tScT X.prog X.w X.K wi g tt te (own.map (·.2))) := by
  constructor
  intro pins s0 σ H Q I0 asked
  have cells : ∀ y ∈ scope.names, y.2 = .free → ∃ c, X.env.cells.lookup y.1 = some c := by
    intro y my fy
    exact (blk.free y my fy).elim (fun z => I0.ok.has _ (.inl z)) fun z => I0.ok.has _ (.inr z)
  rw [PpSet.eval_SetComp]
  refine wpAny_comprehension_free rfl hs (closure_ok cells) blk.kind (fun y my fy => by rw [blk.uniq y my, fy]) (thn (pi.run pins s0 σ H _ I0 asked) fun _ sA got => thn got fun _ sB got2 => ?_)
  obtain ⟨iterA, fp, stAt, J, HB, rfl, IB, T, atB, freeB, rest⟩ := got2
  refine PpSet.newSet_ok (newEnv_comp ?_)
  obtain ⟨D, eD⟩ : ∃ D, sB.heap.objs.size = D := ⟨_, rfl⟩
  obtain ⟨W, ⟨m0, start⟩, each⟩ := rest D (IB.hok.fresh (Nat.le_of_eq eD))
  have nD : HB D = none := IB.hok.fresh (Nat.le_of_eq eD)
  -- the empty set stands
  obtain ⟨sC, eC⟩ : ∃ sC : Shared, { sB with heap := sB.heap.push { cls := .type "set", dict := none, data := .set #[] 0 (.fresh 0 0 (!X.w.params.followText "set-order")) } } = sC := ⟨_, rfl⟩
  have hpC : sC.heap = sB.heap.push { cls := .type "set", dict := none, data := .set #[] 0 (.fresh 0 0 (!X.w.params.followText "set-order")) } := by rw [← eC]
  obtain ⟨HC, eHC⟩ : ∃ HC, upd HB D (SetTO X.prog X.w D []) = HC := ⟨_, rfl⟩
  have IC : Inv X pins σ HC sC := by
    rw [← eC, ← eHC]
    have fresh := setTR_fresh (P := X.prog) (w := X.w) (Heap.get?_push_size sB.heap (o := { cls := .type "set", dict := none, data := .set #[] 0 (.fresh 0 0 (!X.w.params.followText "set-order")) }) rfl)
    rw [eD] at fresh
    exact IB.laid (t' := sB.toks) (fun b o e => Heap.get?_push_of_some _ e) (Nat.le_of_eq eD) (setTO_new fresh.t0)
  have szB : ∀ b ∈ fp, b < sB.heap.objs.size := by
    intro b mb
    obtain ⟨_, gb, _⟩ := T.obj _ _ atB b mb
    exact Heap.lt_size gb
  have freeC : ∀ b ∈ fp, FpOk X pins HC b ∧ b < sC.heap.objs.size := by
    intro b mb
    have less := szB b mb
    have off : HC b = HB b := by
      rw [← eHC]
      exact upd_ne (Nat.ne_of_lt (eD ▸ less))
    exact ⟨⟨off.trans (freeB b mb).1, (freeB b mb).2⟩, by rw [hpC, Heap.size_push]; exact Nat.lt_succ_of_lt less⟩
  have startC : W 0 m0 HC := by
    rw [← eHC]
    exact start
  have atC : stAt 0 sC.heap := T.keep _ _ _ atB fun b _ o e => by
    rw [hpC]
    exact Heap.get?_push_of_some _ e
  have ID := block_start IC blk ndN freeC
  have g1 := pg sC HC sC.heap.objs.size (cellsFrom (sC.heap.objs.size + 1) scope.names (cloFrom X.env.cells scope.names [])) fp
  have t1 := pt sC HC sC.heap.objs.size (cellsFrom (sC.heap.objs.size + 1) scope.names (cloFrom X.env.cells scope.names [])) fp
  have e1 := pe sC HC sC.heap.objs.size (cellsFrom (sC.heap.objs.size + 1) scope.names (cloFrom X.env.cells scope.names [])) fp
  have bareC : ∀ b ∈ fp, HC b = none := fun b mb => (freeC b mb).1.1
  rw [eC, eD]
  show codeAny _ _ (.compStart _ 0 (.ref iterA) (.ref D) (compEnvC scope (cellsFrom (sC.heap.objs.size + 1) scope.names (cloFrom X.env.cells scope.names [])) sC.heap.objs.size X.env)) (compPost (model X.prog X.w) X.A X.xe none (EP X pins σ Q) (.ref D) sC.heap.objs.size) _
  generalize ce0 : compEnvC scope (cellsFrom (sC.heap.objs.size + 1) scope.names (cloFrom X.env.cells scope.names [])) sC.heap.objs.size X.env = ce at ID g1 t1 e1 ⊢
  have locC : ce.locals = sC.heap.objs.size := by
    rw [← ce0]
    rfl
  obtain ⟨sD, eSD⟩ : ∃ sD : Shared, { sC with heap := pushCells (sC.heap.push { cls := .type "dict", data := .dict #[] }) scope.names } = sD := ⟨_, rfl⟩
  rw [eSD] at ID ⊢
  have atD : stAt 0 sD.heap := T.keep _ _ _ atC fun b _ o e => by
    rw [← eSD]
    exact pushCells_keeps _ _ _ _ (Heap.get?_push_of_some _ e)
  -- what stands apart for the walk
  have apart : ∀ {σ' : L2.St} {G : Hp} {st : Shared}, Inv (X.blk sC HC scope ce fp) [] σ' G st → (∀ b ∈ fp, G b = none) → ∀ b ∈ fp, FpOk (X.blk sC HC scope ce fp) [] G b := by
    intro σ' G st IG none_ b mb
    exact ⟨none_ b mb, (IG.ok.exf b mb).1, IG.ok.exfs b mb, .inl mb, fun x c e => (IG.ok.exf b mb).2 x c e, fun p hp => by simp at hp⟩
  have run : codeAny (model X.prog X.w) X.A (.compLoop (.SetComp elt [⟨tg, iter, ifs, 0⟩] scope pos) 0 (.ref iterA) (.ref D) ce) (compPost (model X.prog X.w) X.A X.xe none (EP X pins σ Q) (.ref D) sC.heap.objs.size) sD := by
    apply PpSet.compLoopS_any (fun n st => ∃ i G, Inv (X.blk sC HC scope ce fp) [] (wipe σ (own.map (·.2))) G st ∧ stAt i st.heap ∧ (∀ b ∈ fp, G b = none) ∧ W i n G) ?_ m0 ⟨0, HC, ID, atD, bareC, startC⟩
    rintro n sE ⟨i, GE, IE, atE, bareE, wE⟩
    rcases each i n GE wE with ⟨halt, fin⟩ | ⟨goes, Nx, down, turn⟩
    · apply thnF (T.done (X.blk sC HC scope ce fp) rfl rfl rfl calm i [] sE _ GE (fun _ _ => False) IE (apart IE bareE) atE halt)
      rintro r sF ⟨rfl, IF⟩
      have IG : Inv X pins σ GE sF := IC.call' (ch := fp) IF.os IF.base IF.hok IF.bare fun b mb => by
        obtain ⟨⟨_, q1, q2, q3, q4, q5⟩, _⟩ := freeC b mb
        exact ⟨q3, q1, q4, q5⟩
      have freeL : GE sC.heap.objs.size = none := by
        rw [← locC]
        exact IF.free
      obtain ⟨m, ns, _⟩ := IF.loc
      have ns' : sF.heap.Ns sC.heap.objs.size m := by
        rw [← locC]
        exact ns
      obtain ⟨f0, f1, f2, f3, f4, f5⟩ := IC.fpOk (Nat.le_refl _) freeL
      exact ⟨m, ns', fun h'' same => ⟨.ref D, GE, IG.turned (t' := sF.toks) (fun b o nb e => (same.2 b nb).trans e) f0 f1 f3 f4 f5, rfl, fin⟩⟩
    · apply thnF (T.item (X.blk sC HC scope ce fp) rfl rfl rfl calm i [] sE _ GE (fun _ _ => False) IE (apart IE bareE) atE goes)
      rintro r sF ⟨u, rfl, got3⟩
      refine thnF got3 fun _ sG ⟨x, GG, IG, rx, yx, atG, bareG⟩ => ?_
      have pinned := IG.pinned (apart IG bareG) (T.obj _ _ atG)
      refine thnF (g1.run _ sG _ GG x u _ pinned rx (turn x GG yx)) fun _ sH ⟨σ8, GH, IH, sameW, q8⟩ => ?_
      refine thnF (t1.run _ sH σ8 GH _ IH q8) fun b sI ⟨GI, II, q9⟩ => ?_
      have again : ∀ {st : Shared} {G : Hp}, Inv (X.blk sC HC scope ce fp) ([] ++ pinsAt fp sG.heap) σ8 G st → Nx G → ∃ m, m < n ∧ ∃ i G, Inv (X.blk sC HC scope ce fp) [] (wipe σ (own.map (·.2))) G st ∧ stAt i st.heap ∧ (∀ b ∈ fp, G b = none) ∧ W i m G := by
        intro st G IG' nx
        obtain ⟨m', less, w'⟩ := down G nx
        have stays : ∀ b ∈ fp, ∀ o, sG.heap.get? b = some o → st.heap.get? b = some o ∧ G b = none := by
          intro b mb o e
          have z := IG'.pin (b, o) (List.mem_append_right _ (List.mem_append_right _ (mem_pinsAt mb e)))
          exact ⟨z.1, z.2.1⟩
        refine ⟨m', less, i + 1, G, (IG'.unpinned (pins := [])).weak (by rw [← sameW, wipe_length]) (fun j v e => ?_), T.keep _ _ _ atG fun b mb o e => (stays b mb o e).1, fun b mb => ?_, w'⟩
        · rw [← sameW] at e
          exact (wipe_some e).1
        · obtain ⟨o, e, _⟩ := T.obj _ _ atG b mb
          exact (stays b mb o e).2
      cases b with
      | false =>
        simp only [Bool.false_eq_true, if_false] at q9 ⊢
        exact again II q9
      | true =>
        simp only [if_true] at q9 ⊢
        refine thnF (e1.run _ sI σ8 GI _ II q9) fun z sJ ⟨yv, GJ, IJ, rz, t, k, old, ey, et, eold, each2, few, nx⟩ => ?_
        subst ey
        cases (show z = Value.ref t from rz)
        exact addT_ok (X := X.blk sC HC scope ce fp) IJ eold each2 et few un fun new sK came IK => again IK (nx new came)
  exact PpSet.codeAny_compStart_set run (T.self X.A 0 _ _ _ atD run)
/-- len of such a set -/
theorem call_lenT : CallR X (.builtin "len") (fun xs H Q => ∃ D L, xs = [.ref D] ∧ H D = some (SetTO X.prog X.w D L) ∧ Q (.int (L.length : Nat)) H) := by
  intro pins s σ H xs us Q J rel hyp
  obtain ⟨D, L, rfl, eD, post⟩ := hyp
  rw [Vals.ref1 rel]
  obtain ⟨bare, _, _⟩ := J.hok D _ eD
  obtain ⟨es, ep, tb, ⟨ob, a1, a2, a3⟩, rows, tab, _, _, _, room, few⟩ := SetT0.ex bare
  have sz : es.size = L.length := by
    have := congrArg List.length rows
    unfold rowsOf at this
    rwa [Array.length_toList, List.length_map] at this
  have fits : tb.fits es.size = true := by
    have h1 := tab.sz
    rw [List.length_map] at h1
    unfold SetTable.fits SetTable.fill
    rw [tab.dm, Bool.and_eq_true, beq_iff_eq, decide_eq_true_eq]
    show tb.place.size = es.size ∧ tb.place.size + 0 ≤ tb.mask
    omega
  exact call_len_set a1 a2 a3 fits (by rw [sz]; omega) ⟨.int (L.length : Nat), H, J.tok _, ⟨_, by rw [sz]⟩, post⟩
theorem e_scT {P : Program} {w : World} {K : PySem.W.Frag} {wi : TI} {g : TG} {tt : TT} {te : TE} {vs : List Nat} {σ : L2.St} {H : Hp} {Q : VK} : tScT P w K wi g tt te vs σ H Q = wi σ H fun J G0 => ∀ D, G0 D = none →
  ∃ W : Nat → Nat → Hp → Prop, (∃ m, W 0 m (upd G0 D (SetTO P w D []))) ∧ ∀ i m G, W i m G → (J.stop i G ∧ Q (.ref D) G) ∨ (J.go i G ∧ ∃ Nx : Hp → Prop, (∀ G', Nx G' → ∃ m', m' < m ∧ W (i + 1) m' G') ∧
    ∀ x G', J.yld i G x G' → g x (wipe σ vs) G' fun σ2 G2 => wipe σ2 vs = wipe σ vs ∧ tt σ2 G2 fun b G3 => if b = true then te σ2 G3 fun y G4 => ∃ (t : Addr) (k : List Int) (old : List (Addr × List Int)), y = .ref t ∧ SqT K G4 t (k.map V.int) ∧
      G4 D = some (SetTO P w D old) ∧ (∀ p ∈ old, SqT K G4 p.1 (p.2.map V.int)) ∧ old.length + 1 < 64 ∧ ∀ new, Came t k old new → Nx (upd G4 D (SetTO P w D new)) else Nx G3) := rfl
end
theorem Same.tupS {K : PySem.W.Frag} {H H' : Hp} {a : Addr} {xs : List V} (S : Same H H') (h : H a = some (.tup xs)) : SqT K H' a xs := .inl (.inl (S _ _ h))
/-- the set of the keys of all items, without a test -/
theorem scT_keys {P : Program} {w : World} {K : PySem.W.Frag} {J : It} {n : Nat} {G : Hp → Prop} {Y : Nat → Hp → V → Hp → Prop} {g : TG} {te : TE} {vs : List Nat} {σ : L2.St} {H : Hp} {D : Addr} {Qd : Hp → Prop} (wk : Walk J n G Y) (ks : Nat → List Int) (hD : H D = none) (hz : n < 64) (hG : ∀ H', Same H H' → G H')
    (hs : ∀ i x Ha Hb (R : VK), i < n → Same H Ha → Y i Ha x Hb → (∀ t H4, Same Ha H4 → H4 t = some (.tup ((ks i).map V.int)) → R (.ref t) H4) → g x (wipe σ vs) Hb fun σ2 H2 => wipe σ2 vs = wipe σ vs ∧ te σ2 H2 R)
    (hd : ∀ L H', Same H H' → H' D = some (SetTO P w D L) → (L.map (·.2)).Nodup → (∀ k, k ∈ L.map (·.2) ↔ ∃ i, i < n ∧ ks i = k) → Qd H') :
    ∃ W : Nat → Nat → Hp → Prop, (∃ m, W 0 m (upd H D (SetTO P w D []))) ∧ ∀ i m G, W i m G → (J.stop i G ∧ Qd G) ∨ (J.go i G ∧ ∃ Nx : Hp → Prop, (∀ G', Nx G' → ∃ m', m' < m ∧ W (i + 1) m' G') ∧
      ∀ x G', J.yld i G x G' → g x (wipe σ vs) G' fun σ2 G2 => wipe σ2 vs = wipe σ vs ∧ tYes σ2 G2 fun b G3 => if b = true then te σ2 G3 fun y G4 => ∃ (t : Addr) (k : List Int) (old : List (Addr × List Int)), y = .ref t ∧ SqT K G4 t (k.map V.int) ∧
        G4 D = some (SetTO P w D old) ∧ (∀ p ∈ old, SqT K G4 p.1 (p.2.map V.int)) ∧ old.length + 1 < 64 ∧ ∀ new, Came t k old new → Nx (upd G4 D (SetTO P w D new)) else Nx G3) := by
  let C : Nat → Hp → Prop := fun i H' => ∃ L : List (Addr × List Int), Same H H' ∧ H' D = some (SetTO P w D L) ∧ (L.map (·.2)).Nodup ∧ (∀ k, k ∈ L.map (·.2) ↔ ∃ j, j < i ∧ ks j = k) ∧ (∀ p ∈ L, H' p.1 = some (.tup (p.2.map V.int))) ∧ L.length ≤ i
  refine ⟨fun i m H' => i + m = n ∧ C i H', ⟨n, by omega, [], Same.new hD, upd_same, by simp, fun k => by simp, by simp, by simp⟩, ?_⟩
  rintro i m Ha ⟨im, L, S, eD, nd, all, tups, len⟩
  by_cases hi : i < n
  · refine .inr ⟨wk.goes i Ha hi (hG Ha S), C (i + 1), fun H' c => ⟨m - 1, by omega, by omega, c⟩, fun x Hb yl => ?_⟩
    have key := hs i x Ha Hb (fun y G4 => ∃ (t : Addr) (k : List Int) (old : List (Addr × List Int)), y = .ref t ∧ SqT K G4 t (k.map V.int) ∧
        G4 D = some (SetTO P w D old) ∧ (∀ p ∈ old, SqT K G4 p.1 (p.2.map V.int)) ∧ old.length + 1 < 64 ∧ ∀ new, Came t k old new → C (i + 1) (upd G4 D (SetTO P w D new))) hi S (wk.yields i Ha x Hb hi (hG Ha S) yl) ?_
    · have e : (fun (σ2 : L2.St) (G2 : Hp) => wipe σ2 vs = wipe σ vs ∧ tYes σ2 G2 fun b G3 => if b = true then te σ2 G3 fun y G4 => ∃ (t : Addr) (k : List Int) (old : List (Addr × List Int)), y = .ref t ∧ SqT K G4 t (k.map V.int) ∧
          G4 D = some (SetTO P w D old) ∧ (∀ p ∈ old, SqT K G4 p.1 (p.2.map V.int)) ∧ old.length + 1 < 64 ∧ ∀ new, Came t k old new → C (i + 1) (upd G4 D (SetTO P w D new)) else C (i + 1) G3)
          = fun σ2 G2 => wipe σ2 vs = wipe σ vs ∧ te σ2 G2 fun y G4 => ∃ (t : Addr) (k : List Int) (old : List (Addr × List Int)), y = .ref t ∧ SqT K G4 t (k.map V.int) ∧
            G4 D = some (SetTO P w D old) ∧ (∀ p ∈ old, SqT K G4 p.1 (p.2.map V.int)) ∧ old.length + 1 < 64 ∧ ∀ new, Came t k old new → C (i + 1) (upd G4 D (SetTO P w D new)) := by
        funext σ2 G2
        rw [e_tyes, if_pos rfl]
      rw [e]
      exact key
    · intro t H4 S4 et
      refine ⟨t, ks i, L, rfl, .inl (.inl et), S4 _ _ eD, fun p hp => .inl (.inl (S4 _ _ (tups p hp))), by omega, fun new came => ?_⟩
      have eD4 := S4 _ _ eD
      have tD : ∀ {a : Addr} {xs : List V}, H4 a = some (.tup xs) → upd H4 D (SetTO P w D new) a = some (.tup xs) := fun {a xs} h => by
        rw [upd_ne (ne_of h eD4 (by intro z; unfold SetTO at z; cases z))]
        exact h
      have S5 : Same H (upd H4 D (SetTO P w D new)) := fun a o ha => by
        rw [upd_ne (ne_of_none ha hD)]
        exact S4 _ _ (S _ _ ha)
      by_cases c : ks i ∈ L.map (·.2)
      · have en := came.had c
        subst en
        refine ⟨new, S5, upd_same, nd, fun k => ?_, fun p hp => tD (S4 _ _ (tups p hp)), by omega⟩
        rw [all k]
        constructor
        · rintro ⟨j, hj, e⟩
          exact ⟨j, by omega, e⟩
        · rintro ⟨j, hj, e⟩
          by_cases q : j < i
          · exact ⟨j, q, e⟩
          · have : j = i := by omega
            subst this
            rw [← e]
            exact (all _).mp c
      · have pm := came.new_ c
        have pk := pm.map (·.2)
        refine ⟨new, S5, upd_same, pk.nodup_iff.mpr (List.nodup_cons.mpr ⟨c, nd⟩), fun k => ?_, fun p hp => ?_, by rw [pm.length_eq, List.length_cons]; omega⟩
        · rw [pk.mem_iff, List.map_cons, List.mem_cons, all k]
          constructor
          · rintro (rfl | ⟨j, hj, e⟩)
            · exact ⟨i, by omega, rfl⟩
            · exact ⟨j, by omega, e⟩
          · rintro ⟨j, hj, e⟩
            by_cases q : j < i
            · exact .inr ⟨j, q, e⟩
            · have : j = i := by omega
              subst this
              exact .inl e.symm
        · rcases List.mem_cons.mp (pm.mem_iff.mp hp) with rfl | hp
          · exact tD et
          · exact tD (S4 _ _ (tups p hp))
  · have : i = n := by omega
    subst this
    exact .inl ⟨wk.stops Ha (hG Ha S), hd L Ha S eD nd all⟩
theorem nodup_le {α : Type} [DecidableEq α] : ∀ {a b : List α}, a.Nodup → (∀ x ∈ a, x ∈ b) → a.length ≤ b.length
  | [], _, _, _ => Nat.zero_le _
  | x :: r, b, nd, h => by
    rw [List.nodup_cons] at nd
    have hx := h x (by simp)
    have ih := nodup_le (a := r) (b := b.erase x) nd.2 fun y hy => (List.mem_erase_of_ne (fun e => nd.1 (by rw [← e]; exact hy))).mpr (h y (by simp [hy]))
    rw [List.length_erase_of_mem hx] at ih
    have := List.length_pos_of_mem hx
    simp only [List.length_cons]
    omega
theorem nodup_of_len {α : Type} [DecidableEq α] : ∀ {a b : List α}, a.length ≤ b.length → b.Nodup → (∀ x ∈ b, x ∈ a) → a.Nodup
  | [], _, _, _, _ => List.nodup_nil
  | x :: r, b, l, nd, sub => by
    rw [List.length_cons] at l
    have nr : ¬ ∀ y ∈ b, y ∈ r := fun h => by
      have := nodup_le nd h
      omega
    have xr : x ∉ r := fun hx => nr fun y hy => by
      rcases List.mem_cons.mp (sub y hy) with e | e
      · rw [e]
        exact hx
      · exact e
    have xb : x ∈ b := Classical.byContradiction fun hb => nr fun y hy => by
      rcases List.mem_cons.mp (sub y hy) with e | e
      · exact absurd (e ▸ hy) hb
      · exact e
    refine List.nodup_cons.mpr ⟨xr, nodup_of_len (b := b.erase x) (by rw [List.length_erase_of_mem xb]; omega) (nd.erase x) fun y hy => ?_⟩
    have ym := (nd.mem_erase_iff).mp hy
    rcases List.mem_cons.mp (sub y ym.2) with e | e
    · exact absurd e ym.1
    · exact e
/-- as many keys as items: none twice -/
theorem keys_len {L : List (Addr × List Int)} {n : Nat} {ks : Nat → List Int} (nd : (L.map (·.2)).Nodup) (all : ∀ k, k ∈ L.map (·.2) ↔ ∃ i, i < n ∧ ks i = k) : L.length = n ↔ ((List.range n).map ks).Nodup := by
  have sub : ∀ k ∈ L.map (·.2), k ∈ (List.range n).map ks := fun k hk => by
    obtain ⟨i, hi, e⟩ := (all k).mp hk
    exact List.mem_map.mpr ⟨i, List.mem_range.mpr hi, e⟩
  have sup : ∀ k ∈ (List.range n).map ks, k ∈ L.map (·.2) := fun k hk => by
    obtain ⟨i, hi, e⟩ := List.mem_map.mp hk
    exact (all k).mpr ⟨i, List.mem_range.mp hi, e⟩
  have ll : (L.map (·.2)).length = L.length := List.length_map ..
  have lr : ((List.range n).map ks).length = n := by rw [List.length_map, List.length_range]
  constructor
  · intro e
    exact nodup_of_len (by omega) nd sub
  · intro nd2
    have h1 := nodup_le nd sub
    have h2 := nodup_le nd2 sup
    omega
end Nv

namespace Nv
open PySem L2
/-! a dict of the text's top, its keys texts -/
structure WDict (K : PySem.W.Frag) (P : Params) (a : Addr) (l : List (Str × Value)) : Prop where
  low : (a == sysModules) = false
  ex : ∃ (es : Array DictEntry) (n : Nat) (ts : List Tok), K.lookup a = some ⟨.type "dict", none, .dict es n, #[]⟩ ∧ ts.length = l.length ∧
    es.toList = (l.zip ts).map fun x => { hash := PyData.keyHash P x.1.1, key := .str x.1.1 x.2, val := x.1.2 }
theorem WDict.mk' {K : PySem.W.Frag} {P : Params} {a : Addr} {l : List (Str × Value)} {es : Array DictEntry} {n : Nat} (ts : List Tok) (low : (a == sysModules) = false) (h : K.lookup a = some ⟨.type "dict", none, .dict es n, #[]⟩)
    (hl : ts.length = l.length) (e : es.toList = (l.zip ts).map fun x => { hash := PyData.keyHash P x.1.1, key := .str x.1.1 x.2, val := x.1.2 }) : WDict K P a l := ⟨low, es, n, ts, h, hl, e⟩
theorem WDict.lit {K : PySem.W.Frag} {P : Params} {a : Addr} {l : List (Str × Value)} (d : WDict K P a l) : ∃ es n, K.lookup a = some ⟨.type "dict", none, .dict es n, #[]⟩ ∧ PySem.W.KeysLit P es.toList ∧ (a == sysModules) = false := by
  obtain ⟨low, es, n, ts, h, hl, e⟩ := d
  refine ⟨es, n, h, ?_, low⟩
  rw [e]
  clear e h hl
  induction l generalizing ts with
  | nil => exact trivial
  | cons x r ih =>
    cases ts with
    | nil => exact trivial
    | cons t ts => exact ⟨⟨_, _, rfl, rfl⟩, ih ts⟩
theorem wfind (z : Str) (P : Params) : ∀ (l : List (Str × Value)) (ts : List Tok), ts.length = l.length →
    (((l.zip ts).map fun x => ({ hash := PyData.keyHash P x.1.1, key := .str x.1.1 x.2, val := x.1.2 } : DictEntry)).find? fun e => e.key.isStr z).map (·.val) = (l.find? fun x => x.1 == z).map (·.2)
  | [], ts, _ => by cases ts <;> rfl
  | x :: r, [], h => by cases h
  | x :: r, t :: ts, h => by
    have ih := wfind z P r ts (by simpa using h)
    simp only [List.zip_cons_cons, List.map_cons, List.find?_cons]
    have e : (Value.str x.1 t).isStr z = (x.1 == z) := by
      simp [Value.isStr]
    rw [e]
    cases x.1 == z
    · exact ih
    · rfl
theorem WDict.at {K : PySem.W.Frag} {P : Params} {a : Addr} {l : List (Str × Value)} (d : WDict K P a l) (z : Str) : PySem.W.nsIn K a z = some ((l.find? fun x => x.1 == z).map (·.2)) := by
  obtain ⟨low, es, n, ts, h, hl, e⟩ := d
  unfold PySem.W.nsIn
  rw [h]
  dsimp only
  have f := wfind z P l ts hl
  rw [← e] at f
  cases q : es.toList.find? fun e => e.key.isStr z with
  | some x =>
    rw [q] at f
    rw [← f]
    rfl
  | none =>
    rw [q] at f
    rw [← f]
    have nr : es.toList.any (·.refKey) = false := by
      rw [e, List.any_map, List.any_eq_false]
      intro x _
      simp [DictEntry.refKey]
    simp [nr]
theorem WDict.get {K : PySem.W.Frag} {w : World} {a : Addr} {l : List (Str × Value)} (d : WDict K w.params a l) {z : Str} {H : Hp} {Q : VK}
    (yes : ∀ u v, (l.find? fun x => x.1 == z) = some (z, u) → RelV v u → Q v H) (rel : ∀ x ∈ l, ∃ v, RelV v x.2) (no : (l.find? fun x => x.1 == z) = none → Q .non H) : rGetW K w a z H Q := by
  obtain ⟨es, n, h, k, low⟩ := d.lit
  have e := d.at z
  cases q : l.find? fun x => x.1 == z with
  | none =>
    rw [q] at e
    exact .inr ⟨⟨es, n, h, k, low, e⟩, no q⟩
  | some x =>
    rw [q] at e
    have hx : x.1 = z := by simpa using List.find?_some q
    obtain ⟨v, hv⟩ := rel x (List.mem_of_find?_eq_some q)
    refine .inl ⟨v, ⟨es, n, x.2, h, k, e, hv⟩, yes x.2 v ?_ hv⟩
    rw [q, ← hx]
end Nv
namespace Nv
open PySem L2
/-- a tuple of the text's top -/
def KTup (K : PySem.W.Frag) (a : Addr) (xs : List V) : Prop := ∃ (o : Obj) (its : Array Value) (n : Nat), K.lookup a = some o ∧ o.cls = .type "tuple" ∧ o.data = .seq its n ∧ its.size ≤ sizeLine ∧ Vals xs its.toList
theorem KTup.sq {K : PySem.W.Frag} {a : Addr} {xs : List V} (h : KTup K a xs) (H : Hp) : SqT K H a xs := .inr h
end Nv

namespace Nv
open PySem PySem.Spec PyProof.Rows L2
/-! a written dict, asked by not in and by d[k] -/
def IsW (K : PySem.W.Frag) (w : World) (p : Addr) : Prop := ∃ es n, K.lookup p = some ⟨.type "dict", none, .dict es n, #[]⟩ ∧ PySem.W.KeysLit w.params es.toList ∧ (p == sysModules) = false
def rNotInW (K : PySem.W.Frag) (w : World) : R2 := fun x y H Q => ∃ p z o, y = .ref p ∧ x = .str z ∧ IsW K w p ∧ PySem.W.nsIn K p z = some o ∧ Q (.bl (!o.isSome)) H
theorem op_notInW {X : Cx} (hu : X.A.units + 1 < cLine) : OpR X (compareOp .NotIn) (rNotInW X.K X.w) := by
  intro pins s σ H x y v u Q I rx ry h
  obtain ⟨p, z, o, rfl, rfl, ⟨es, n, hl, hk, low⟩, e, q⟩ := h
  obtain rfl : u = Value.ref p := ry
  obtain ⟨t, rfl⟩ := (show ∃ t, v = Value.str z t from rx)
  have mp := PySem.W.mapOf_K (prog := X.prog) (w := X.w) I.kIn hl hk
  refine wpAny_notIn_of (strKind_is X.prog X.w z t) low mp ?_
  rw [PySem.W.find_K hl e]
  exact ⟨.bl (!o.isSome), H, I.tok _, rfl, q⟩
theorem WDict.isW {K : PySem.W.Frag} {w : World} {a : Addr} {l : List (Str × Value)} (d : WDict K w.params a l) : IsW K w a := d.lit
theorem WDict.kdct {K : PySem.W.Frag} {w : World} {a : Addr} {l : List (Str × Value)} (d : WDict K w.params a l) {z : Str} {u : Value} {v : V} (h : (l.find? fun x => x.1 == z) = some (z, u)) (r : RelV v u) : KDct K w a z v := by
  obtain ⟨es, n, hl, hk, low⟩ := d.lit
  have e := d.at z
  rw [h] at e
  exact ⟨es, n, u, hl, hk, e, r⟩
end Nv
namespace Nv
open PySem PySem.Spec PyProof.Rows L2
theorem unin1 {k : Nat} {A : Around} (r : Room k A) : A.in1.units < cLine := by
  have := r.un
  show A.units + 1 < cLine
  omega
/-! values of any kind, objects of one class among them -/
inductive XD
  | non | bl (b : Bool) | int (i : Int) | str (z : Str) | tup (l : List XD) | lst | dct | obj
mutual
inductive XV (K : PySem.W.Frag) (C : Addr) (H : Hp) : V → XD → Prop
  | non : XV K C H .non .non
  | bl (b : Bool) : XV K C H (.bl b) (.bl b)
  | int (i : Int) : XV K C H (.int i) (.int i)
  | str (z : Str) : XV K C H (.str z) (.str z)
  | tup {a : Addr} {xs : List V} {ds : List XD} : SqT K H a xs → XVs K C H xs ds → XV K C H (.ref a) (.tup ds)
  | lst {a : Addr} {xs : List V} : H a = some (.lst xs) → XV K C H (.ref a) .lst
  | dct {a : Addr} {kvs : List (Key × V)} : H a = some (.dK kvs) → XV K C H (.ref a) .dct
  | obj {a dx : Addr} {fs : List (Str × V)} : H a = some (.ins C dx fs) → XV K C H (.ref a) .obj
inductive XVs (K : PySem.W.Frag) (C : Addr) (H : Hp) : List V → List XD → Prop
  | nil : XVs K C H [] []
  | cons {v : V} {vs : List V} {d : XD} {ds : List XD} : XV K C H v d → XVs K C H vs ds → XVs K C H (v :: vs) (d :: ds)
end
/-- what isinstance asks of the objects' class -/
structure ObX (K : PySem.W.Frag) (C : Addr) : Prop where
  cl : Cls K C
  ti : TyI K C
  i : PySem.W.kitOne K (.ref C) (.type "int") = some false
  b : PySem.W.kitOne K (.ref C) (.type "bool") = some false
  s : PySem.W.kitOne K (.ref C) (.type "str") = some false
  t : PySem.W.kitOne K (.ref C) (.type "tuple") = some false
  l : PySem.W.kitOne K (.ref C) (.type "list") = some false
def isIx : XD → Bool
  | .int _ => true
  | _ => false
def isBx : XD → Bool
  | .bl _ => true
  | _ => false
def isSx : XD → Bool
  | .str _ => true
  | _ => false
def isTx : XD → Bool
  | .tup _ => true
  | _ => false
def isLx : XD → Bool
  | .lst => true
  | _ => false
theorem sqT_ty {K : PySem.W.Frag} {H : Hp} {a : Addr} {xs : List V} (h : SqT K H a xs) : TyX K H (.ref a) (.type "tuple") := by
  rcases h with (h | ⟨o, h⟩) | ⟨o, its, n, h, c, _⟩
  · exact .base (.tup h)
  · exact .fTuple h
  · exact .kTuple h c
theorem XV.tyx {K : PySem.W.Frag} {C : Addr} {H : Hp} {v : V} {d : XD} (o : ObX K C) (h : XV K C H v d) : ∃ t, TyX K H v t ∧ PySem.W.kitOne K t (.type "int") = some (isIx d || isBx d) ∧ PySem.W.kitOne K t (.type "bool") = some (isBx d) ∧
    PySem.W.kitOne K t (.type "str") = some (isSx d) ∧ PySem.W.kitOne K t (.type "tuple") = some (isTx d) ∧ PySem.W.kitOne K t (.type "list") = some (isLx d) := by
  have five : ∀ (a : String) (x1 x2 x3 x4 x5 : Bool), kitB a "int" = some x1 → kitB a "bool" = some x2 → kitB a "str" = some x3 → kitB a "tuple" = some x4 → kitB a "list" = some x5 → TyX K H v (.type a) →
      ∃ t, TyX K H v t ∧ PySem.W.kitOne K t (.type "int") = some x1 ∧ PySem.W.kitOne K t (.type "bool") = some x2 ∧ PySem.W.kitOne K t (.type "str") = some x3 ∧ PySem.W.kitOne K t (.type "tuple") = some x4 ∧ PySem.W.kitOne K t (.type "list") = some x5 :=
    fun a x1 x2 x3 x4 x5 h1 h2 h3 h4 h5 ty => ⟨.type a, ty, kit_ty h1, kit_ty h2, kit_ty h3, kit_ty h4, kit_ty h5⟩
  cases h with
  | non => exact five "NoneType" _ _ _ _ _ (by decide +kernel) (by decide +kernel) (by decide +kernel) (by decide +kernel) (by decide +kernel) (.base .non)
  | bl x => exact five "bool" true true false false false (by decide +kernel) (by decide +kernel) (by decide +kernel) (by decide +kernel) (by decide +kernel) (.base (.bl x))
  | int x => exact five "int" true false false false false (by decide +kernel) (by decide +kernel) (by decide +kernel) (by decide +kernel) (by decide +kernel) (.base (.int x))
  | str x => exact five "str" false false true false false (by decide +kernel) (by decide +kernel) (by decide +kernel) (by decide +kernel) (by decide +kernel) (.base (.str x))
  | tup s _ => exact five "tuple" false false false true false (by decide +kernel) (by decide +kernel) (by decide +kernel) (by decide +kernel) (by decide +kernel) (sqT_ty s)
  | lst s => exact five "list" false false false false true (by decide +kernel) (by decide +kernel) (by decide +kernel) (by decide +kernel) (by decide +kernel) (.base (.lst s))
  | dct s => exact five "dict" false false false false false (by decide +kernel) (by decide +kernel) (by decide +kernel) (by decide +kernel) (by decide +kernel) (.base (.dK s))
  | obj s => exact ⟨_, .base (.ins s o.cl o.ti.ha o.ti.hn o.ti.htk o.ti.hm), o.i, o.b, o.s, o.t, o.l⟩
/-- one of the five, asked -/
inductive AskX (d : XD) : String → Bool → Prop
  | int : AskX d "int" (isIx d || isBx d)
  | bool : AskX d "bool" (isBx d)
  | str : AskX d "str" (isSx d)
  | tuple : AskX d "tuple" (isTx d)
  | list : AskX d "list" (isLx d)
theorem r_isiX {K : PySem.W.Frag} {C : Addr} {H : Hp} {Q : VK} {v : V} {d : XD} {T : String} {b : Bool} (o : ObX K C) (h : XV K C H v d) (e : AskX d T b) (q : Q (.bl b) H) : rIsiA K [v, .ty T] H Q := by
  obtain ⟨t, ty, k1, k2, k3, k4, k5⟩ := h.tyx o
  cases e with
  | int => exact .inl ⟨v, .ty "int", t, .type "int", _, rfl, .ty "int", ty, k1, q⟩
  | bool => exact .inl ⟨v, .ty "bool", t, .type "bool", _, rfl, .ty "bool", ty, k2, q⟩
  | str => exact .inl ⟨v, .ty "str", t, .type "str", _, rfl, .ty "str", ty, k3, q⟩
  | tuple => exact .inl ⟨v, .ty "tuple", t, .type "tuple", _, rfl, .ty "tuple", ty, k4, q⟩
  | list => exact .inl ⟨v, .ty "list", t, .type "list", _, rfl, .ty "list", ty, k5, q⟩
theorem sqT_mono {K : PySem.W.Frag} {H H' : Hp} {a : Addr} {xs : List V} (S : Same H H') (h : SqT K H a xs) : SqT K H' a xs := by
  rcases h with (h | ⟨o, h⟩) | h
  · exact .inl (.inl (S _ _ h))
  · exact .inl (.inr ⟨o, S _ _ h⟩)
  · exact .inr h
mutual
theorem XV.mono {K : PySem.W.Frag} {C : Addr} {H H' : Hp} (S : Same H H') : ∀ {v : V} {d : XD}, XV K C H v d → XV K C H' v d
  | _, _, .non => .non
  | _, _, .bl b => .bl b
  | _, _, .int i => .int i
  | _, _, .str z => .str z
  | _, _, .tup h r => .tup (sqT_mono S h) (XVs.mono S r)
  | _, _, .lst h => .lst (S _ _ h)
  | _, _, .dct h => .dct (S _ _ h)
  | _, _, .obj h => .obj (S _ _ h)
theorem XVs.mono {K : PySem.W.Frag} {C : Addr} {H H' : Hp} (S : Same H H') : ∀ {vs : List V} {ds : List XD}, XVs K C H vs ds → XVs K C H' vs ds
  | _, _, .nil => .nil
  | _, _, .cons h r => .cons (XV.mono S h) (XVs.mono S r)
end
end Nv

namespace K32
open PySem L2 Nv
def top (i : Nat) : Stmt := PySem.Challenge.pw_neverunsaid_k32_letters_judged.main.body.getD i (.Pass ⟨0, 0, 0, 0⟩)
abbrev s_is_int : Stmt := top 2
abbrev s_is_count : Stmt := top 3
abbrev s_is_life : Stmt := top 4
abbrev s_is_list : Stmt := top 5
abbrev s_is_signs : Stmt := top 6
abbrev s_is_cell : Stmt := top 15
abbrev s_is_text : Stmt := top 16
abbrev s_is_line : Stmt := top 17
abbrev s_Tree_init : Stmt := inClass (top 20) 0
abbrev s_Tree___contains__ : Stmt := inClass (top 20) 2
abbrev s_are_roads : Stmt := top 21
abbrev s_is_road : Stmt := top 22
abbrev s_near : Stmt := top 23
abbrev s_steps_to : Stmt := top 24
abbrev s_are_lines : Stmt := top 26
abbrev s_are_lines_of : Stmt := top 27
abbrev s_is_row : Stmt := top 28
abbrev s_has_no_key_twice : Stmt := top 29
abbrev s_key_of : Stmt := top 30
abbrev s_is_era : Stmt := top 33
abbrev s_is_letter : Stmt := top 34
abbrev s_is_item : Stmt := top 35
abbrev s_l_cell : Stmt := top 37
abbrev s_l_box : Stmt := top 38
abbrev s_l_take : Stmt := top 39
abbrev s_l_mixed : Stmt := top 40
abbrev s_l_tree : Stmt := top 41
abbrev s_l_signs : Stmt := top 42
abbrev s_l_number : Stmt := top 43
abbrev s_l_line : Stmt := top 44
abbrev s_l_lines : Stmt := top 45
abbrev s_l_words : Stmt := top 46
abbrev s_l_letter : Stmt := top 47
abbrev s_l_odd : Stmt := top 48
abbrev s_l_changed : Stmt := top 49
abbrev s_l_twice : Stmt := top 50
abbrev s_l_whole : Stmt := top 51
abbrev s_l_is_line : Stmt := top 52
abbrev s_l_are_lines : Stmt := top 53
abbrev s_l_is_era : Stmt := top 54
abbrev s_l_item : Stmt := top 55
abbrev s_l_is_letter : Stmt := top 56
abbrev s_l_letter_right : Stmt := top 57
abbrev s_l_era_right : Stmt := top 58
abbrev s_l_others : Stmt := top 59
abbrev s_l_right : Stmt := top 60
abbrev s_law : Stmt := top 61
abbrev s_InvalidHouses_init : Stmt := inClass (top 9) 0
theorem sc_InvalidHouses_init : FnScope ["self", "given"] ["self", "given"] (defScope s_InvalidHouses_init) := ⟨rfl, rfl, rfl, by decide +kernel, rfl, by decide +kernel, by decide +kernel⟩
abbrev s_InvalidRoads_init : Stmt := inClass (top 10) 0
theorem sc_InvalidRoads_init : FnScope ["self", "given"] ["self", "given"] (defScope s_InvalidRoads_init) := ⟨rfl, rfl, rfl, by decide +kernel, rfl, by decide +kernel, by decide +kernel⟩
abbrev s_NotJoined_init : Stmt := inClass (top 11) 0
theorem sc_NotJoined_init : FnScope ["self", "house"] ["self", "house"] (defScope s_NotJoined_init) := ⟨rfl, rfl, rfl, by decide +kernel, rfl, by decide +kernel, by decide +kernel⟩
theorem sc_is_int : FnScope ["value"] ["value"] (defScope s_is_int) := ⟨rfl, rfl, rfl, by decide +kernel, rfl, by decide +kernel, by decide +kernel⟩
theorem sc_is_count : FnScope ["value"] ["value"] (defScope s_is_count) := ⟨rfl, rfl, rfl, by decide +kernel, rfl, by decide +kernel, by decide +kernel⟩
theorem sc_is_life : FnScope ["value"] ["value"] (defScope s_is_life) := ⟨rfl, rfl, rfl, by decide +kernel, rfl, by decide +kernel, by decide +kernel⟩
theorem sc_is_list : FnScope ["value"] ["value"] (defScope s_is_list) := ⟨rfl, rfl, rfl, by decide +kernel, rfl, by decide +kernel, by decide +kernel⟩
theorem sc_is_signs : FnScope ["value"] ["value"] (defScope s_is_signs) := ⟨rfl, rfl, rfl, by decide +kernel, rfl, by decide +kernel, by decide +kernel⟩
theorem sc_is_cell : FnScope ["value"] ["value"] (defScope s_is_cell) := ⟨rfl, rfl, rfl, by decide +kernel, rfl, by decide +kernel, by decide +kernel⟩
theorem sc_is_text : FnScope ["value"] ["value"] (defScope s_is_text) := ⟨rfl, rfl, rfl, by decide +kernel, rfl, by decide +kernel, by decide +kernel⟩
theorem sc_is_line : FnScope ["value", "home", "number", "cell", "text"] ["value"] (defScope s_is_line) := ⟨rfl, rfl, rfl, by decide +kernel, rfl, by decide +kernel, by decide +kernel⟩
theorem sc_Tree_init : FnScope ["self", "houses", "roads", "near", "reached", "house", "goal"] ["self", "houses", "roads"] (defScope s_Tree_init) := ⟨rfl, rfl, rfl, by decide +kernel, rfl, by decide +kernel, by decide +kernel⟩
theorem sc_Tree___contains__ : FnScope ["self", "value"] ["self", "value"] (defScope s_Tree___contains__) := ⟨rfl, rfl, rfl, by decide +kernel, rfl, by decide +kernel, by decide +kernel⟩
theorem sc_are_roads : FnScope ["houses", "roads", "road", "later"] ["houses", "roads"] (defScope s_are_roads) := ⟨rfl, rfl, rfl, by decide +kernel, rfl, by decide +kernel, by decide +kernel⟩
theorem sc_is_road : FnScope ["houses", "value", "u", "v"] ["houses", "value"] (defScope s_is_road) := ⟨rfl, rfl, rfl, by decide +kernel, rfl, by decide +kernel, by decide +kernel⟩
theorem sc_near : FnScope ["houses", "roads", "near", "house", "u", "v", "found"] ["houses", "roads"] (defScope s_near) := ⟨rfl, rfl, rfl, by decide +kernel, rfl, by decide +kernel, by decide +kernel⟩
theorem sc_steps_to : FnScope ["near", "goal", "steps", "reached", "here", "house"] ["near", "goal"] (defScope s_steps_to) := ⟨rfl, rfl, rfl, by decide +kernel, rfl, by decide +kernel, by decide +kernel⟩
theorem sc_are_lines : FnScope ["value", "line"] ["value"] (defScope s_are_lines) := ⟨rfl, rfl, rfl, by decide +kernel, rfl, by decide +kernel, by decide +kernel⟩
theorem sc_are_lines_of : FnScope ["tree", "value", "line"] ["tree", "value"] (defScope s_are_lines_of) := ⟨rfl, rfl, rfl, by decide +kernel, rfl, by decide +kernel, by decide +kernel⟩
theorem sc_is_row : FnScope ["tree", "value"] ["tree", "value"] (defScope s_is_row) := ⟨rfl, rfl, rfl, by decide +kernel, rfl, by decide +kernel, by decide +kernel⟩
theorem sc_has_no_key_twice : FnScope ["lines", "line"] ["lines"] (defScope s_has_no_key_twice) := ⟨rfl, rfl, rfl, by decide +kernel, rfl, by decide +kernel, by decide +kernel⟩
theorem sc_key_of : FnScope ["line"] ["line"] (defScope s_key_of) := ⟨rfl, rfl, rfl, by decide +kernel, rfl, by decide +kernel, by decide +kernel⟩
theorem sc_is_era : FnScope ["value"] ["value"] (defScope s_is_era) := ⟨rfl, rfl, rfl, by decide +kernel, rfl, by decide +kernel, by decide +kernel⟩
theorem sc_is_letter : FnScope ["tree", "value", "form", "word", "item"] ["tree", "value"] (defScope s_is_letter) := ⟨rfl, rfl, rfl, by decide +kernel, rfl, by decide +kernel, by decide +kernel⟩
theorem sc_is_item : FnScope ["tree", "word", "value"] ["tree", "word", "value"] (defScope s_is_item) := ⟨rfl, rfl, rfl, by decide +kernel, rfl, by decide +kernel, by decide +kernel⟩
theorem sc_l_cell : FnScope ["_law_script", "_law_k"] ["_law_script", "_law_k"] (defScope s_l_cell) := ⟨rfl, rfl, rfl, by decide +kernel, rfl, by decide +kernel, by decide +kernel⟩
theorem sc_l_box : FnScope ["_law_great"] ["_law_great"] (defScope s_l_box) := ⟨rfl, rfl, rfl, by decide +kernel, rfl, by decide +kernel, by decide +kernel⟩
theorem sc_l_take : FnScope ["_law_box_here", "_law_many", "_law_digit", "_law_mixed_here"] ["_law_box_here", "_law_many"] (defScope s_l_take) := ⟨rfl, rfl, rfl, by decide +kernel, rfl, by decide +kernel, by decide +kernel⟩
theorem sc_l_mixed : FnScope ["_law_box_here", "_law_items", "_law_left", "_law_found"] ["_law_box_here", "_law_items"] (defScope s_l_mixed) := ⟨rfl, rfl, rfl, by decide +kernel, rfl, by decide +kernel, by decide +kernel⟩
theorem sc_l_tree : FnScope ["_law_box_here", "_law_houses", "_law_kind", "_law_pairs", "_law_k", "_law_names", "_law_a", "_law_b"] ["_law_box_here", "_law_houses"] (defScope s_l_tree) := ⟨rfl, rfl, rfl, by decide +kernel, rfl, by decide +kernel, by decide +kernel⟩
theorem sc_l_signs : FnScope [] [] (defScope s_l_signs) := ⟨rfl, rfl, rfl, by decide +kernel, rfl, by decide +kernel, by decide +kernel⟩
theorem sc_l_number : FnScope ["_law_box_here", "_law_which", "_law_free"] ["_law_box_here"] (defScope s_l_number) := ⟨rfl, rfl, rfl, by decide +kernel, rfl, by decide +kernel, by decide +kernel⟩
theorem sc_l_line : FnScope ["_law_box_here", "_law_houses", "_law_many", "_law_more", "_law_signs_here", "_law_home", "_law_number_here", "_law_cell_here", "_law_k"] ["_law_box_here", "_law_houses"] (defScope s_l_line) := ⟨rfl, rfl, rfl, by decide +kernel, rfl, by decide +kernel, by decide +kernel⟩
theorem sc_l_lines : FnScope ["_law_box_here", "_law_houses", "_law_found", "_law_turn", "_law_line_here", "_law_one"] ["_law_box_here", "_law_houses"] (defScope s_l_lines) := ⟨rfl, rfl, rfl, by decide +kernel, rfl, by decide +kernel, by decide +kernel⟩
theorem sc_l_words : FnScope [] [] (defScope s_l_words) := ⟨rfl, rfl, rfl, by decide +kernel, rfl, by decide +kernel, by decide +kernel⟩
theorem sc_l_letter : FnScope ["_law_box_here", "_law_houses", "_law_kind", "_law_era", "_law_house", "_law_life", "_law_start", "_law_lines_here", "_law_tails"] ["_law_box_here", "_law_houses"] (defScope s_l_letter) := ⟨rfl, rfl, rfl, by decide +kernel, rfl, by decide +kernel, by decide +kernel⟩
theorem sc_l_odd : FnScope ["_law_box_here", "_law_value", "_law_houses", "_law_which", "_law_free", "_law_others_here", "_law_at", "_law_sign"] ["_law_box_here", "_law_value", "_law_houses"] (defScope s_l_odd) := ⟨rfl, rfl, rfl, by decide +kernel, rfl, by decide +kernel, by decide +kernel⟩
theorem sc_l_changed : FnScope ["_law_box_here", "_law_value", "_law_houses", "_law_depth", "_law_at"] ["_law_box_here", "_law_value", "_law_houses", "_law_depth"] (defScope s_l_changed) := ⟨rfl, rfl, rfl, by decide +kernel, rfl, by decide +kernel, by decide +kernel⟩
theorem sc_l_twice : FnScope ["_law_box_here", "_law_letter_here", "_law_lines_here", "_law_at", "_law_spot", "_law_other"] ["_law_box_here", "_law_letter_here"] (defScope s_l_twice) := ⟨rfl, rfl, rfl, by decide +kernel, rfl, by decide +kernel, by decide +kernel⟩
theorem sc_l_whole : FnScope ["_law_value", "_law_least"] ["_law_value", "_law_least"] (defScope s_l_whole) := ⟨rfl, rfl, rfl, by decide +kernel, rfl, by decide +kernel, by decide +kernel⟩
theorem sc_l_is_line : FnScope ["_law_value", "_law_houses", "_law_letters", "_law_sign", "_law_plain"] ["_law_value", "_law_houses"] (defScope s_l_is_line) := ⟨rfl, rfl, rfl, by decide +kernel, rfl, by decide +kernel, by decide +kernel⟩
theorem sc_l_are_lines : FnScope ["_law_value", "_law_houses", "_law_k", "_law_line_here"] ["_law_value", "_law_houses"] (defScope s_l_are_lines) := ⟨rfl, rfl, rfl, by decide +kernel, rfl, by decide +kernel, by decide +kernel⟩
theorem sc_l_is_era : FnScope ["_law_value"] ["_law_value"] (defScope s_l_is_era) := ⟨rfl, rfl, rfl, by decide +kernel, rfl, by decide +kernel, by decide +kernel⟩
theorem sc_l_item : FnScope ["_law_value", "_law_sign", "_law_houses"] ["_law_value", "_law_sign", "_law_houses"] (defScope s_l_item) := ⟨rfl, rfl, rfl, by decide +kernel, rfl, by decide +kernel, by decide +kernel⟩
theorem sc_l_is_letter : FnScope ["_law_value", "_law_houses", "_law_shape", "_law_k"] ["_law_value", "_law_houses"] (defScope s_l_is_letter) := ⟨rfl, rfl, rfl, by decide +kernel, rfl, by decide +kernel, by decide +kernel⟩
theorem sc_l_letter_right : FnScope ["_law_tree_here", "_law_houses", "_law_value", "_law_turn", "_law_due", "_law_kind", "_law_told"] ["_law_tree_here", "_law_houses", "_law_value", "_law_turn"] (defScope s_l_letter_right) := ⟨rfl, rfl, rfl, by decide +kernel, rfl, by decide +kernel, by decide +kernel⟩
theorem sc_l_era_right : FnScope ["_law_value", "_law_turn", "_law_due", "_law_kind", "_law_told"] ["_law_value", "_law_turn"] (defScope s_l_era_right) := ⟨rfl, rfl, rfl, by decide +kernel, rfl, by decide +kernel, by decide +kernel⟩
theorem sc_l_others : FnScope ["_law_tree_here", "_law_era", "_law_found"] ["_law_tree_here", "_law_era"] (defScope s_l_others) := ⟨rfl, rfl, rfl, by decide +kernel, rfl, by decide +kernel, by decide +kernel⟩
theorem sc_l_right : FnScope ["_law_box_here", "_law_sizes", "_law_turn", "_law_extra", "_law_trees", "_law_houses", "_law_k", "_law_letter_here", "_law_values", "_law_eras", "_law_kept", "_law_value", "_law_which", "_law_others_here"] ["_law_box_here"] (defScope s_l_right) := ⟨rfl, rfl, rfl, by decide +kernel, rfl, by decide +kernel, by decide +kernel⟩
theorem sc_law : FnScope ["_law_script", "_law_k"] ["_law_script"] (defScope s_law) := ⟨rfl, rfl, rfl, by decide +kernel, rfl, by decide +kernel, by decide +kernel⟩
/-- a def of the module -/
structure Tx (K : PySem.W.Frag) (mg : Str → Option Value) (pr : Params) : Type where
  C_UnsaidError : Addr
  C_InvalidHouses : Addr
  E_InvalidHouses : E1 K mg C_UnsaidError "InvalidHouses" "given" C_InvalidHouses
  C_InvalidRoads : Addr
  E_InvalidRoads : E1 K mg C_UnsaidError "InvalidRoads" "given" C_InvalidRoads
  C_NotJoined : Addr
  E_NotJoined : E1 K mg C_UnsaidError "NotJoined" "house" C_NotJoined
  m_UnsaidError : mg "UnsaidError" = some (.ref C_UnsaidError)
  u_UnsaidError : UsE K C_UnsaidError
  t_MOST_HOUSES : Tok
  g_MOST_HOUSES : mg "MOST_HOUSES" = some (.int 16 t_MOST_HOUSES)
  t_MOST_LETTERS : Tok
  g_MOST_LETTERS : mg "MOST_LETTERS" = some (.int 8 t_MOST_LETTERS)
  t_MOST_SIGNS : Tok
  g_MOST_SIGNS : mg "MOST_SIGNS" = some (.int 40 t_MOST_SIGNS)
  C_FORMS : Addr
  A_FORMS_halt : Addr
  A_FORMS_held : Addr
  A_FORMS_sure : Addr
  A_FORMS_still : Addr
  A_FORMS_elder : Addr
  A_FORMS_take : Addr
  A_FORMS_taken : Addr
  A_FORMS_have : Addr
  A_FORMS_lines : Addr
  m_FORMS : mg "FORMS" = some (.ref C_FORMS)
  w_FORMS : WDict K pr C_FORMS [("halt", .ref A_FORMS_halt), ("held", .ref A_FORMS_held), ("sure", .ref A_FORMS_sure), ("still", .ref A_FORMS_still), ("elder", .ref A_FORMS_elder), ("take", .ref A_FORMS_take), ("taken", .ref A_FORMS_taken), ("have", .ref A_FORMS_have), ("lines", .ref A_FORMS_lines)]
  q_FORMS_halt : KTup K A_FORMS_halt []
  q_FORMS_held : KTup K A_FORMS_held [.str "house", .str "life", .str "lines"]
  q_FORMS_sure : KTup K A_FORMS_sure []
  q_FORMS_still : KTup K A_FORMS_still [.str "house", .str "life"]
  q_FORMS_elder : KTup K A_FORMS_elder []
  q_FORMS_take : KTup K A_FORMS_take [.str "life", .str "start", .str "lines"]
  q_FORMS_taken : KTup K A_FORMS_taken [.str "house"]
  q_FORMS_have : KTup K A_FORMS_have [.str "house", .str "count"]
  q_FORMS_lines : KTup K A_FORMS_lines [.str "house", .str "start", .str "lines"]
  C_Tree : Addr
  cl_Tree : Cls K C_Tree
  m_Tree : mg "Tree" = some (.ref C_Tree)
  na_Tree_houses : NoAttr K C_Tree "houses"
  na_Tree_roads : NoAttr K C_Tree "roads"
  na_Tree_near : NoAttr K C_Tree "_near"
  na_Tree_steps : NoAttr K C_Tree "_steps"
  n_abs : mg "abs" = none
  n_all : mg "all" = none
  n_bool : mg "bool" = none
  n_int : mg "int" = none
  n_isinstance : mg "isinstance" = none
  n_len : mg "len" = none
  n_list : mg "list" = none
  n_max : mg "max" = none
  n_min : mg "min" = none
  n_range : mg "range" = none
  n_repr : mg "repr" = none
  n_sorted : mg "sorted" = none
  n_str : mg "str" = none
  n_sum : mg "sum" = none
  n_tuple : mg "tuple" = none
  n_zip : mg "zip" = none
  d_is_int : DefT K mg "is_int" s_is_int ["value"]
  d_is_count : DefT K mg "is_count" s_is_count ["value"]
  d_is_life : DefT K mg "is_life" s_is_life ["value"]
  d_is_list : DefT K mg "is_list" s_is_list ["value"]
  d_is_signs : DefT K mg "is_signs" s_is_signs ["value"]
  d_is_cell : DefT K mg "is_cell" s_is_cell ["value"]
  d_is_text : DefT K mg "is_text" s_is_text ["value"]
  d_is_line : DefT K mg "is_line" s_is_line ["value"]
  d_Tree_init : InitT K C_Tree "Tree.__init__" s_Tree_init ["self", "houses", "roads"]
  k_Tree : Mk K C_Tree d_Tree_init.f
  ky_Tree_list : PySem.W.kitOne K (.ref C_Tree) (.type "list") = some false
  ky_Tree_tuple : PySem.W.kitOne K (.ref C_Tree) (.type "tuple") = some false
  ky_Tree_bool : PySem.W.kitOne K (.ref C_Tree) (.type "bool") = some false
  ky_Tree_int : PySem.W.kitOne K (.ref C_Tree) (.type "int") = some false
  ky_Tree_str : PySem.W.kitOne K (.ref C_Tree) (.type "str") = some false
  i_Tree_Tree : PySem.W.kitOne K (.ref C_Tree) (.ref C_Tree) = some true
  ti_Tree : TyI K C_Tree
  d_Tree___contains__ : MethT K C_Tree "__contains__" "Tree.__contains__" s_Tree___contains__ ["self", "value"]
  d_are_roads : DefT K mg "_are_roads" s_are_roads ["houses", "roads"]
  d_is_road : DefT K mg "_is_road" s_is_road ["houses", "value"]
  d_near : DefT K mg "_near" s_near ["houses", "roads"]
  d_steps_to : DefT K mg "_steps_to" s_steps_to ["near", "goal"]
  d_are_lines : DefT K mg "are_lines" s_are_lines ["value"]
  d_are_lines_of : DefT K mg "are_lines_of" s_are_lines_of ["tree", "value"]
  d_is_row : DefT K mg "is_row" s_is_row ["tree", "value"]
  d_has_no_key_twice : DefT K mg "has_no_key_twice" s_has_no_key_twice ["lines"]
  d_key_of : DefT K mg "key_of" s_key_of ["line"]
  d_is_era : DefT K mg "is_era" s_is_era ["value"]
  d_is_letter : DefT K mg "is_letter" s_is_letter ["tree", "value"]
  d_is_item : DefT K mg "_is_item" s_is_item ["tree", "word", "value"]
  d_l_cell : DefT K mg "_law_cell" s_l_cell ["_law_script", "_law_k"]
  d_l_box : DefT K mg "_law_box" s_l_box ["_law_great"]
  d_l_take : DefT K mg "_law_take" s_l_take ["_law_box_here", "_law_many"]
  d_l_mixed : DefT K mg "_law_mixed" s_l_mixed ["_law_box_here", "_law_items"]
  d_l_tree : DefT K mg "_law_tree" s_l_tree ["_law_box_here", "_law_houses"]
  d_l_signs : DefT K mg "_law_signs" s_l_signs []
  d_l_number : DefT K mg "_law_number" s_l_number ["_law_box_here"]
  d_l_line : DefT K mg "_law_line" s_l_line ["_law_box_here", "_law_houses"]
  d_l_lines : DefT K mg "_law_lines" s_l_lines ["_law_box_here", "_law_houses"]
  d_l_words : DefT K mg "_law_words" s_l_words []
  d_l_letter : DefT K mg "_law_letter" s_l_letter ["_law_box_here", "_law_houses"]
  d_l_odd : DefT K mg "_law_odd" s_l_odd ["_law_box_here", "_law_value", "_law_houses"]
  d_l_changed : DefT K mg "_law_changed" s_l_changed ["_law_box_here", "_law_value", "_law_houses", "_law_depth"]
  d_l_twice : DefT K mg "_law_twice" s_l_twice ["_law_box_here", "_law_letter_here"]
  d_l_whole : DefT K mg "_law_whole" s_l_whole ["_law_value", "_law_least"]
  d_l_is_line : DefT K mg "_law_is_line" s_l_is_line ["_law_value", "_law_houses"]
  d_l_are_lines : DefT K mg "_law_are_lines" s_l_are_lines ["_law_value", "_law_houses"]
  d_l_is_era : DefT K mg "_law_is_era" s_l_is_era ["_law_value"]
  d_l_item : DefT K mg "_law_item" s_l_item ["_law_value", "_law_sign", "_law_houses"]
  d_l_is_letter : DefT K mg "_law_is_letter" s_l_is_letter ["_law_value", "_law_houses"]
  d_l_letter_right : DefT K mg "_law_letter_right" s_l_letter_right ["_law_tree_here", "_law_houses", "_law_value", "_law_turn"]
  d_l_era_right : DefT K mg "_law_era_right" s_l_era_right ["_law_value", "_law_turn"]
  d_l_others : DefT K mg "_law_others" s_l_others ["_law_tree_here", "_law_era"]
  d_l_right : DefT K mg "_law_right" s_l_right ["_law_box_here"]
  d_law : DefT K mg "law" s_law ["_law_script"]
end K32

namespace Nv
open PySem L2

/-! what a row of frames was read from -/
theorem dig_val {c : Nat} (h : Fr.dig c = true) : 48 ≤ c ∧ c ≤ 57 := by simpa [Fr.dig] using h
theorem pad_back {l : List Nat} (h4 : l.length = 4) (hd : l.all Fr.dig = true) : l = Fr.pad (Fr.num l) ∧ Fr.num l < 10000 := by
  match l, h4 with
  | [a, b, c, d], _ =>
    have h := List.all_eq_true.mp hd
    have ha := dig_val (h a (by simp))
    have hb := dig_val (h b (by simp))
    have hc := dig_val (h c (by simp))
    have hd' := dig_val (h d (by simp))
    simp only [Fr.num, Fr.pad, List.foldl_cons, List.foldl_nil, List.cons.injEq, and_true]
    refine ⟨⟨?_, ?_, ?_, ?_⟩, ?_⟩ <;> omega
theorem drop_two (l : List Nat) (i j : Nat) : l.drop i = (l.drop i).take j ++ l.drop (i + j) := by
  have := (List.take_append_drop j (l.drop i)).symm
  rw [List.drop_drop] at this
  exact this
theorem fend_split {z : List Nat} {s e : Nat} (h : Fr.fend z s = some e) :
    z.drop s = Fr.frm (Fr.piece z (s + 4) (e - 1)) ++ z.drop e ∧ (Fr.piece z (s + 4) (e - 1)).length < 10000 ∧ e = s + (Fr.piece z (s + 4) (e - 1)).length + 5 := by
  have hb := Fr.fend_bounds h
  unfold Fr.fend at h
  split at h
  · rename_i h1
    split at h
    · rename_i h2
      cases h
      obtain ⟨n, hn⟩ : ∃ n, n = Fr.num ((z.drop s).take 4) := ⟨_, rfl⟩
      obtain ⟨p1, p2⟩ := pad_back h1.1 h1.2
      rw [← hn] at p1 p2 h2 hb ⊢
      have hl : ((z.drop (s + 4 + n)).take 1).length = 1 := by rw [h2]; rfl
      rw [List.length_take, List.length_drop] at hl
      have ep : Fr.piece z (s + 4) (s + 4 + n + 1 - 1) = (z.drop (s + 4)).take n := by
        unfold Fr.piece
        congr 1
        omega
      have lp : ((z.drop (s + 4)).take n).length = n := by
        rw [List.length_take, List.length_drop]
        omega
      rw [ep, lp]
      refine ⟨?_, p2, by omega⟩
      unfold Fr.frm
      rw [lp]
      have e1 : z.drop s = (z.drop s).take 4 ++ z.drop (s + 4) := drop_two z s 4
      have e2 : z.drop (s + 4) = (z.drop (s + 4)).take n ++ z.drop (s + 4 + n) := drop_two z (s + 4) n
      have e3 : z.drop (s + 4 + n) = [46] ++ z.drop (s + 4 + n + 1) := by
        have := drop_two z (s + 4 + n) 1
        rw [h2] at this
        exact this
      conv => lhs; rw [e1, p1, e2, e3]
      simp
    · cases h
  · cases h
theorem rd_take {z : List Nat} : ∀ (n s : Nat) (acc : List (List Nat)), z.take s = Fr.row acc → s = Fr.total acc → s ≤ z.length → (∀ t ∈ acc, t.length < 10000) →
    z.take (Fr.rd z n s acc).2 = Fr.row (Fr.rd z n s acc).1 ∧ (Fr.rd z n s acc).2 = Fr.total (Fr.rd z n s acc).1 ∧ (Fr.rd z n s acc).2 ≤ z.length ∧ ∀ t ∈ (Fr.rd z n s acc).1, t.length < 10000
  | 0, s, acc, h1, h2, h3, h4 => ⟨h1, h2, h3, h4⟩
  | n + 1, s, acc, h1, h2, h3, h4 => by
    rw [Fr.rd]
    cases e : Fr.fend z s with
    | none => exact ⟨h1, h2, h3, h4⟩
    | some x =>
      obtain ⟨k1, k2, k3⟩ := fend_split e
      have hb := Fr.fend_bounds e
      refine rd_take n x _ ?_ ?_ hb.2 ?_
      · have e1 : z.take x = z.take s ++ (z.drop s).take (x - s) := by
          have := List.take_add (l := z) (i := s) (j := x - s)
          rw [show s + (x - s) = x from by omega] at this
          exact this
        rw [e1, h1, k1]
        have lf : (Fr.frm (Fr.piece z (s + 4) (x - 1))).length = x - s := by
          rw [Fr.frm_len]
          omega
        rw [← lf, List.take_left]
        simp [Fr.row]
      · simp only [Fr.total, List.map_append, List.sum_append, List.map_cons, List.map_nil, List.sum_cons, List.sum_nil] at h2 ⊢
        omega
      · intro t ht
        rcases List.mem_append.mp ht with ht | ht
        · exact h4 t ht
        · have : t = Fr.piece z (s + 4) (x - 1) := by simpa using ht
          rw [this]
          exact k2
theorem parse_take (z : List Nat) : z.take (Fr.parse z).2 = Fr.row (Fr.parse z).1 ∧ (Fr.parse z).2 = Fr.total (Fr.parse z).1 ∧ (Fr.parse z).2 ≤ z.length ∧ ∀ t ∈ (Fr.parse z).1, t.length < 10000 :=
  rd_take (z.length + 1) 0 [] rfl rfl (Nat.zero_le _) (by simp)
/-- the texts stand in what was read -/
theorem row_infix {t : List Nat} : ∀ {ts : List (List Nat)}, t ∈ ts → t <:+: Fr.row ts
  | u :: r, h => by
    have e : Fr.row (u :: r) = Fr.pad u.length ++ u ++ ([46] ++ Fr.row r) := by simp [Fr.row, Fr.frm]
    rcases List.mem_cons.mp h with rfl | h
    · exact ⟨Fr.pad t.length, [46] ++ Fr.row r, by rw [e]⟩
    · refine (row_infix h).trans ⟨Fr.pad u.length ++ u ++ [46], [], ?_⟩
      rw [e]
      simp
theorem parse_infix {z t : List Nat} (h : t ∈ (Fr.parse z).1) : t <:+: z := by
  have := (parse_take z).1
  have i := row_infix h
  rw [← this] at i
  exact i.trans (List.take_prefix _ _).isInfix
/-- a numeral is the text of its number -/
theorem numL_back : ∀ (k : Nat) {l : List Nat}, l.length = k → numL l = true → TL.numL (Fr.num l) = l := by
  intro k
  induction k using Nat.strongRecOn with
  | _ k ih =>
    intro l hl h
    unfold numL at h
    simp only [Bool.and_eq_true, decide_eq_true_eq, Bool.or_eq_true, Bool.not_eq_true', decide_eq_false_iff_not] at h
    obtain ⟨⟨h1, h2⟩, h3⟩ := h
    obtain ⟨r, c, rfl⟩ : ∃ r c, l = r ++ [c] := ⟨l.dropLast, l.getLast (by intro q; rw [q] at h1; simp at h1), (List.dropLast_concat_getLast _).symm⟩
    have hc := dig_val (List.all_eq_true.mp h2 c (by simp))
    have ev : Fr.num (r ++ [c]) = Fr.num r * 10 + (c - 48) := by
      unfold Fr.num
      rw [List.foldl_append]
      rfl
    cases r with
    | nil =>
      rw [ev]
      show TL.numL (0 * 10 + (c - 48)) = [c]
      rw [TL.numL_lt (by omega)]
      congr 1
      omega
    | cons d r =>
      have hd : d ≠ 48 := by
        rcases h3 with h3 | h3
        · simp at h3
        · simpa using h3
      have dd := dig_val (List.all_eq_true.mp h2 d (by simp))
      have ok : numL (d :: r) = true := by
        unfold numL
        have a1 : ((d :: r).all Fr.dig) = true := by
          rw [List.all_append] at h2
          simp only [Bool.and_eq_true] at h2
          exact h2.1
        rw [a1]
        simp [hd]
      have hrec := ih (d :: r).length (by rw [← hl]; simp) rfl ok
      have big : 0 < Fr.num (d :: r) := by
        rcases Nat.eq_zero_or_pos (Fr.num (d :: r)) with z | z
        · rw [z, TL.numL_lt (by decide)] at hrec
          injection hrec with q
          omega
        · exact z
      rw [ev, TL.numL_step (by omega)]
      have q1 : (Fr.num (d :: r) * 10 + (c - 48)) / 10 = Fr.num (d :: r) := by omega
      have q2 : 48 + (Fr.num (d :: r) * 10 + (c - 48)) % 10 = c := by omega
      rw [q1, q2, hrec]
/-! a text that falls into four parts -/
theorem first_blank : ∀ l : List Nat, (∀ d ∈ l, d ≠ 32) ∨ ∃ a r, l = a ++ 32 :: r ∧ ∀ d ∈ a, d ≠ 32
  | [] => .inl (by simp)
  | c :: l => by
    by_cases h : c = 32
    · exact .inr ⟨[], l, by rw [h]; rfl, by simp⟩
    · rcases first_blank l with q | ⟨a, r, e, q⟩
      · refine .inl fun d hd => ?_
        rcases List.mem_cons.mp hd with rfl | hd
        · exact h
        · exact q d hd
      · refine .inr ⟨c :: a, r, by rw [e]; rfl, fun d hd => ?_⟩
        rcases List.mem_cons.mp hd with rfl | hd
        · exact h
        · exact q d hd
theorem occL_free {l : List Nat} {i k : Nat} (h : ∀ d ∈ l, d ≠ 32) : occL l i k = [] := by
  have := occL_skip (a := l) (r := []) (k := k) h i
  rw [List.append_nil] at this
  rw [this]
  rfl
open Builtin.Str StrLaws in
theorem four_parts {x a b c t : Str} (h : Txt.splitMax x (Str.ofString " ") 3 = [a, b, c, t]) : sg x = sg a ++ 32 :: (sg b ++ 32 :: (sg c ++ 32 :: sg t)) ∧ (∀ d ∈ sg a, d ≠ 32) ∧ (∀ d ∈ sg b, d ≠ 32) ∧ (∀ d ∈ sg c, d ≠ 32) := by
  have len : (occL (sg x) 0 3).length = 3 := by
    have h2 := h
    unfold Txt.splitMax at h2
    split at h2
    · cases h2
    · split at h2
      · cases h2
      · have := congrArg List.length h2
        rw [length_partsBetween, sp_is, occ_is] at this
        have e : limitOf x 3 = 3 := rfl
        rw [e] at this
        simpa using this
  rcases first_blank (sg x) with q | ⟨a', r1, e1, qa⟩
  · rw [occL_free q] at len
    cases len
  · rcases first_blank r1 with q | ⟨b', r2, e2, qb⟩
    · rw [e1, occL_skip qa, occL_hit, occL_free q] at len
      cases len
    · rcases first_blank r2 with q | ⟨c', t', e3, qc⟩
      · rw [e1, occL_skip qa, occL_hit, e2, occL_skip qb, occL_hit, occL_free q] at len
        cases len
      · have e : sg x = a' ++ 32 :: (b' ++ 32 :: (c' ++ 32 :: t')) := by rw [e1, e2, e3]
        have s := split_four e qa qb qc
        rw [s] at h
        simp only [List.cons.injEq, and_true] at h
        obtain ⟨rfl, rfl, rfl, rfl⟩ := h
        rw [sg_tx, sg_tx, sg_tx, sg_tx]
        exact ⟨e, qa, qb, qc⟩
end Nv

namespace Nv
open PySem L2

/-! a text parted at its blanks -/
def splitL : List Nat → List (List Nat)
  | [] => [[]]
  | c :: r => if c = 32 then [] :: splitL r else match splitL r with
    | [] => [[c]]
    | p :: ps => (c :: p) :: ps
theorem splitL_ne : ∀ l, splitL l ≠ []
  | [] => by simp [splitL]
  | c :: r => by
    unfold splitL
    split
    · simp
    · split <;> simp
theorem splitL_free {l : List Nat} (h : ∀ d ∈ l, d ≠ 32) : splitL l = [l] := by
  induction l with
  | nil => rfl
  | cons c r ih =>
    unfold splitL
    rw [if_neg (h c (by simp)), ih fun d hd => h d (by simp [hd])]
theorem splitL_cons {a r : List Nat} (h : ∀ d ∈ a, d ≠ 32) : splitL (a ++ 32 :: r) = a :: splitL r := by
  induction a with
  | nil =>
    show splitL (32 :: r) = _
    conv => lhs; unfold splitL
    rw [if_pos rfl]
  | cons c a ih =>
    show splitL (c :: (a ++ 32 :: r)) = _
    conv => lhs; unfold splitL
    rw [if_neg (h c (by simp)), ih fun d hd => h d (by simp [hd])]
theorem occL_more : ∀ (l : List Nat) (i k m : Nat), l.length ≤ k → l.length ≤ m → occL l i k = occL l i m
  | [], i, k, m, _, _ => rfl
  | c :: r, i, k, m, h1, h2 => by
    simp only [List.length_cons] at h1 h2
    rw [occL_cons, occL_cons]
    by_cases hc : c = 32
    · rw [if_pos ⟨by omega, hc⟩, if_pos ⟨by omega, hc⟩, occL_more r (i + 1) (k - 1) (m - 1) (by omega) (by omega)]
    · rw [if_neg (fun q => hc q.2), if_neg (fun q => hc q.2), occL_more r (i + 1) k m (by omega) (by omega)]
theorem occL_shift : ∀ (l : List Nat) (i p k : Nat), occL l (p + i) k = (occL l i k).map (p + ·)
  | [], i, p, k => rfl
  | c :: r, i, p, k => by
    rw [occL_cons, occL_cons]
    split
    · rw [List.map_cons, show p + i + 1 = p + (i + 1) from by omega, occL_shift r]
    · rw [show p + i + 1 = p + (i + 1) from by omega, occL_shift r]
open Builtin.Str StrLaws in
theorem sub_shift {x : Str} {p r : List Nat} (e : sg x = p ++ r) (i j : Nat) : strSub x (p.length + i) (p.length + j) = strSub (tx r) i j := by
  apply sg_inj
  rw [sub_sg, sub_sg, sg_tx, e, ← List.drop_drop, List.drop_left]
  congr 1
  omega
open Builtin.Str StrLaws in
theorem parts_shift {x : Str} {p r : List Nat} (e : sg x = p ++ r) : ∀ (cuts : List Nat) (a : Nat), partsFrom x 1 (p.length + a) (cuts.map (p.length + ·)) = partsFrom (tx r) 1 a cuts
  | [], a => by
    have hx : x.length = p.length + r.length := by rw [← sg_len, e, List.length_append]
    show [strSub x (p.length + a) x.length] = [strSub (tx r) a (tx r).length]
    rw [hx, sub_shift e, tx_len]
  | c :: cuts, a => by
    show strSub x (p.length + a) (p.length + c) :: partsFrom x 1 (p.length + c + 1) (cuts.map (p.length + ·)) = strSub (tx r) a c :: partsFrom (tx r) 1 (c + 1) cuts
    rw [sub_shift e, show p.length + c + 1 = p.length + (c + 1) from by omega, parts_shift e cuts]
open Builtin.Str StrLaws in
theorem split_from (x : Str) : Txt.split x (Str.ofString " ") = partsFrom x 1 0 (occL (sg x) 0 (x.length + 1)) := by
  have one : (⟨#[32]⟩ : Str).length = 1 := rfl
  have whole : [x] = partsFrom x 1 0 [] := by
    show [x] = [strSub x 0 x.length]
    rw [sub_whole]
  unfold Txt.split
  rw [sp_is, occ_is, one]
  split
  · rename_i h
    have k1 : Builtin.Str.strKind (⟨#[32]⟩ : Str) = 1 := by decide +kernel
    have k2 : 1 ≤ Builtin.Str.strKind x := by
      unfold Builtin.Str.strKind
      split
      · decide
      · split <;> decide
    rw [k1] at h
    simp only [Bool.or_eq_true, decide_eq_true_eq] at h
    have : sg x = [] := List.length_eq_zero_iff.mp (by rw [sg_len]; omega)
    rw [this]
    exact whole
  · split
    · rename_i h
      rw [List.isEmpty_iff.mp h]
      exact whole
    · rw [partsBetween_eq]
open Builtin.Str StrLaws in
theorem split_parts : ∀ (n : Nat) (x : Str), x.length = n → Txt.split x (Str.ofString " ") = (splitL (sg x)).map tx := by
  intro n
  induction n using Nat.strongRecOn with
  | _ n ih =>
    intro x hx
    rw [split_from]
    rcases first_blank (sg x) with q | ⟨a, r, e, q⟩
    · rw [occL_free q, splitL_free q]
      show [strSub x 0 x.length] = [tx (sg x)]
      rw [sub_whole, tx_sg]
    · have hl : x.length = a.length + (r.length + 1) := by rw [← sg_len, e, List.length_append, List.length_cons]
      rw [e, splitL_cons q, occL_skip q, occL_hit, List.map_cons]
      show strSub x 0 (0 + a.length) :: partsFrom x 1 (0 + a.length + 1) (occL r (0 + a.length + 1) x.length) = tx a :: _
      have e2 : sg x = (a ++ [32]) ++ r := by rw [e]; simp
      have lp : (a ++ [32]).length = a.length + 1 := by simp
      congr 1
      · apply sg_inj
        rw [sub_sg, sg_tx, e, List.drop_zero, show 0 + a.length - 0 = a.length from by omega, List.take_left]
      · have o := occL_shift r 0 (a ++ [32]).length x.length
        rw [lp] at o
        rw [show 0 + a.length + 1 = a.length + 1 + 0 from by omega, o]
        have ps := parts_shift e2 (occL r 0 x.length) 0
        rw [lp] at ps
        rw [ps, occL_more r 0 x.length (r.length + 1) (by omega) (by omega)]
        have := ih r.length (by omega) (tx r) (tx_len r)
        rw [split_from, sg_tx, tx_len] at this
        exact this
theorem split_is (x : Str) : Txt.split x (Str.ofString " ") = (splitL (sg x)).map tx := split_parts x.length x rfl
/-- the parts put together again -/
theorem splitL_join : ∀ n (l : List Nat), l.length = n → ∃ p ps, splitL l = p :: ps ∧ l = p ++ (ps.map fun q => 32 :: q).flatten ∧ ∀ q ∈ splitL l, ∀ d ∈ q, d ≠ 32 := by
  intro n
  induction n using Nat.strongRecOn with
  | _ n ih =>
    intro l hl
    rcases first_blank l with q | ⟨a, r, e, q⟩
    · refine ⟨l, [], splitL_free q, by simp, fun u hu => ?_⟩
      rw [splitL_free q] at hu
      have e : u = l := by simpa using hu
      rw [e]
      exact q
    · have hl2 : l.length = a.length + (r.length + 1) := by rw [e, List.length_append, List.length_cons]
      obtain ⟨p, ps, h1, h2, h3⟩ := ih r.length (by omega) r rfl
      have e1 : splitL l = a :: p :: ps := by rw [e, splitL_cons q, h1]
      refine ⟨a, p :: ps, e1, ?_, ?_⟩
      · rw [e, List.map_cons, List.flatten_cons]
        show a ++ 32 :: r = a ++ (32 :: p ++ _)
        rw [List.cons_append, ← h2]
      · intro u hu
        rw [e1] at hu
        rcases List.mem_cons.mp hu with rfl | hu
        · exact q
        · exact h3 u (by rw [h1]; exact hu)
end Nv

namespace Nv
open PySem L2

/-! splits at blanks, as lists of signs -/
def spl : Nat → List Nat → List Nat → List (List Nat)
  | _, q, [] => [q]
  | k, q, c :: r => if 0 < k ∧ c = 32 then q :: spl (k - 1) [] r else spl k (q ++ [c]) r
def joinL : List (List Nat) → List Nat
  | [] => []
  | [a] => a
  | a :: b :: r => a ++ 32 :: joinL (b :: r)
theorem spl_ne : ∀ (k : Nat) (q r : List Nat), ∃ a l, spl k q r = a :: l
  | _, q, [] => ⟨q, [], rfl⟩
  | k, q, c :: r => by
    unfold spl
    split
    · exact ⟨_, _, rfl⟩
    · exact spl_ne k _ r
theorem join_spl : ∀ (k : Nat) (q r : List Nat), joinL (spl k q r) = q ++ r
  | _, q, [] => by simp [spl, joinL]
  | k, q, c :: r => by
    unfold spl
    split
    · rename_i h
      obtain ⟨a, l, e⟩ := spl_ne (k - 1) [] r
      rw [e, joinL, ← e, join_spl, h.2]
      rfl
    · rw [join_spl]
      simp
theorem spl_zero : ∀ (q r : List Nat), spl 0 q r = [q ++ r]
  | q, [] => by simp [spl]
  | q, c :: r => by
    unfold spl
    rw [if_neg (by simp), spl_zero]
    simp
/-- few cuts, of many -/
theorem spl_few : ∀ (r q : List Nat) (k n : Nat), k ≤ n → spl k q r = if (spl n q r).length ≤ k then spl n q r else (spl n q r).take k ++ [joinL ((spl n q r).drop k)]
  | [], q, k, n, h => by
    cases k with
    | zero => simp [spl, joinL]
    | succ k => simp [spl]
  | c :: r, q, k, n, h => by
    by_cases hc : c = 32
    · cases k with
      | zero =>
        have : ¬ (spl n q (c :: r)).length ≤ 0 := by
          obtain ⟨a, l, e⟩ := spl_ne n q (c :: r)
          rw [e]
          simp
        rw [if_neg this, spl_zero, List.drop_zero, join_spl]
        rfl
      | succ k =>
        obtain ⟨m, rfl⟩ : ∃ m, n = m + 1 := ⟨n - 1, by omega⟩
        have e1 : ∀ j, spl (j + 1) q (c :: r) = q :: spl j [] r := fun j => by
          conv => lhs; unfold spl
          rw [if_pos ⟨by omega, hc⟩]
          rfl
        rw [e1, e1, spl_few r [] k m (by omega)]
        by_cases l : (spl m [] r).length ≤ k
        · rw [if_pos l, if_pos (by simpa using l)]
        · rw [if_neg l, if_neg (by simpa using l)]
          simp
    · have e1 : ∀ j, spl j q (c :: r) = spl j (q ++ [c]) r := fun j => by
        conv => lhs; unfold spl
        rw [if_neg fun z => hc z.2]
      rw [e1, e1]
      exact spl_few r _ k n h
theorem parts_spl {x : Str} : ∀ (r p q : List Nat) (k : Nat), sg x = p ++ (q ++ r) → (StrLaws.partsFrom x 1 p.length (occL r (p.length + q.length) k)).map sg = spl k q r
  | [], p, q, k, e => by
    show [sg (Builtin.Str.strSub x p.length x.length)] = [q]
    rw [sub_sg, e, ← sg_len, e]
    simp
  | c :: r, p, q, k, e => by
    rw [occL_cons]
    unfold spl
    by_cases h : 0 < k ∧ c = 32
    · rw [if_pos h, if_pos h]
      show sg (Builtin.Str.strSub x p.length (p.length + q.length)) :: (StrLaws.partsFrom x 1 (p.length + q.length + 1) _).map sg = _
      have := parts_spl r (p ++ q ++ [c]) [] (k - 1) (by rw [e]; simp)
      simp only [List.length_append, List.length_cons, List.length_nil, Nat.add_zero] at this
      rw [this, sub_sg, e]
      simp
    · rw [if_neg h, if_neg h]
      have := parts_spl r p (q ++ [c]) k (by rw [e]; simp)
      rw [List.length_append] at this
      exact this
open Builtin.Str StrLaws in
theorem parts_all (x : Str) (k : Nat) : ((if (decide (x.length < (Str.ofString " ").length) || decide (Builtin.Str.strKind x < Builtin.Str.strKind (Str.ofString " "))) = true then [x] else
    if (occurrences x (Str.ofString " ") 0 x.length k).isEmpty = true then [x] else partsBetween x (occurrences x (Str.ofString " ") 0 x.length k) (Str.ofString " ").length)).map sg = spl k [] (sg x) := by
  have one : (Str.ofString " ").length = 1 := by decide +kernel
  have k1 : Builtin.Str.strKind (Str.ofString " ") = 1 := by decide +kernel
  have k2 : 1 ≤ Builtin.Str.strKind x := by
    unfold Builtin.Str.strKind
    split
    · decide
    · split <;> decide
  have key := parts_spl (x := x) (sg x) [] [] k (by simp)
  simp only [List.length_nil, Nat.add_zero] at key
  have whole : partsFrom x 1 0 [] = [x] := by
    show [strSub x 0 x.length] = [x]
    congr 1
    apply sg_inj
    rw [sub_sg, ← sg_len]
    simp
  rw [one, k1]
  by_cases h1 : x.length < 1
  · rw [if_pos (by simp; omega)]
    have : sg x = [] := List.eq_nil_of_length_eq_zero (by rw [sg_len]; omega)
    rw [List.map_cons, this]
    rfl
  · rw [if_neg (by simp; omega)]
    rw [sp_is, occ_is]
    by_cases h2 : occL (sg x) 0 k = []
    · rw [if_pos (by rw [h2]; rfl)]
      rw [h2, whole] at key
      exact key
    · rw [if_neg (by simpa using h2), partsBetween_eq]
      exact key
open StrLaws in
theorem splitMax_spl (x : Str) (k : Nat) : (Txt.splitMax x (Str.ofString " ") (k : Int)).map sg = spl k [] (sg x) := by
  have e : limitOf x (k : Int) = k := by
    unfold limitOf
    rw [if_neg (by omega)]
    rfl
  unfold Txt.splitMax
  rw [e]
  exact parts_all x _
theorem split_spl (x : Str) : (Txt.split x (Str.ofString " ")).map sg = spl (x.length + 1) [] (sg x) := by
  unfold Txt.split
  exact parts_all x _
end Nv
namespace Nv
open PySem L2
theorem spl_skip {a : List Nat} (h : ∀ c ∈ a, c ≠ 32) : ∀ (k : Nat) (q r : List Nat), spl k q (a ++ r) = spl k (q ++ a) r := by
  induction a with
  | nil =>
    intro k q r
    simp
  | cons c a ih =>
    intro k q r
    have hc := h c (by simp)
    show spl k q (c :: (a ++ r)) = _
    conv => lhs; unfold spl
    rw [if_neg fun z => hc z.2, ih fun d hd => h d (by simp [hd])]
    simp
theorem spl_one {a : List Nat} (h : ∀ c ∈ a, c ≠ 32) (k : Nat) : spl k [] a = [a] := by
  have := spl_skip h k [] []
  simp only [List.append_nil, List.nil_append] at this
  rw [this]
  rfl
theorem spl_hit {a r : List Nat} (h : ∀ c ∈ a, c ≠ 32) (k : Nat) : spl (k + 1) [] (a ++ 32 :: r) = a :: spl k [] r := by
  rw [spl_skip h]
  conv => lhs; unfold spl
  rw [if_pos ⟨by omega, rfl⟩]
  simp
theorem spl_join : ∀ (ws : List (List Nat)) (t : List Nat) (k : Nat), (∀ a ∈ ws, ∀ c ∈ a, c ≠ 32) → ws.length ≤ k → (k = ws.length ∨ ∀ c ∈ t, c ≠ 32) → spl k [] (joinL (ws ++ [t])) = ws ++ [t]
  | [], t, k, _, _, h => by
    show spl k [] t = [t]
    rcases h with h | h
    · have h : k = 0 := h
      rw [h, spl_zero]
      rfl
    · exact spl_one h k
  | a :: ws, t, k, ha, hk, h => by
    obtain ⟨j, rfl⟩ : ∃ j, k = j + 1 := ⟨k - 1, by simp at hk; omega⟩
    have ih := spl_join ws t j (fun b hb => ha b (by simp [hb])) (by simp at hk; omega) (h.imp (fun h => by simp at h; omega) id)
    obtain ⟨b, l, e⟩ : ∃ b l, ws ++ [t] = b :: l := by
      cases ws with
      | nil => exact ⟨_, _, rfl⟩
      | cons b l => exact ⟨_, _, rfl⟩
    have : joinL (a :: ws ++ [t]) = a ++ 32 :: joinL (ws ++ [t]) := by
      show joinL (a :: (ws ++ [t])) = _
      rw [e]
      rfl
    rw [this, spl_hit (ha a (by simp)), ih]
    rfl
theorem joinL_sg : ∀ ps : List Str, sg (Txt.join (Str.ofString " ") ps) = joinL (ps.map sg)
  | [] => by
    show sg (Builtin.Str.glued (Str.ofString " ") []) = _
    rw [StrLaws.glued_eq_join]
    rfl
  | [a] => by
    show sg (Builtin.Str.glued (Str.ofString " ") [a]) = _
    rw [StrLaws.glued_eq_join]
    rfl
  | a :: b :: r => by
    have ih := joinL_sg (b :: r)
    have e1 : ∀ l, Txt.join (Str.ofString " ") l = Str.join (Str.ofString " ") l := fun l => StrLaws.glued_eq_join _ _
    rw [e1] at ih ⊢
    show sg (a ++ Str.ofString " " ++ Str.join (Str.ofString " ") (b :: r)) = _
    rw [sg_app, sg_app, ih]
    have : sg (Str.ofString " ") = [32] := by decide +kernel
    rw [this]
    simp [joinL]
theorem splitMax_ne (x : Str) (k : Nat) : ∃ a l, Txt.splitMax x (Str.ofString " ") (k : Int) = a :: l := by
  have e := splitMax_spl x k
  obtain ⟨a, l, h⟩ := spl_ne k [] (sg x)
  rw [h] at e
  cases q : Txt.splitMax x (Str.ofString " ") (k : Int) with
  | nil =>
    rw [q] at e
    cases e
  | cons a l => exact ⟨_, _, rfl⟩
/-- a cut off split, by the whole one -/
theorem splitMax_few (x : Str) : Txt.splitMax x (Str.ofString " ") 3 = if (Txt.split x (Str.ofString " ")).length ≤ 3 then Txt.split x (Str.ofString " ") else (Txt.split x (Str.ofString " ")).take 3 ++ [Txt.join (Str.ofString " ") ((Txt.split x (Str.ofString " ")).drop 3)] := by
  have inj : ∀ l m : List Str, l.map sg = m.map sg → l = m := by
    intro l m h
    rw [← map_tx_sg l, ← map_tx_sg m, h]
  apply inj
  have h3 := splitMax_spl x 3
  have hs := split_spl x
  have hl : (Txt.split x (Str.ofString " ")).length = (spl (x.length + 1) [] (sg x)).length := by rw [← hs, List.length_map]
  have big : spl (x.length + 1) [] (sg x) = spl (x.length + 4) [] (sg x) := by
    rw [spl_few (sg x) [] (x.length + 1) (x.length + 4) (by omega)]
    have : ∀ (r q : List Nat) (n : Nat), (spl n q r).length ≤ r.length + 1 := by
      intro r
      induction r with
      | nil => intro q n; simp [spl]
      | cons c r ih =>
        intro q n
        unfold spl
        split
        · have := ih [] (n - 1)
          simp only [List.length_cons]
          omega
        · have := ih (q ++ [c]) n
          simp only [List.length_cons]
          omega
    have := this (sg x) [] (x.length + 4)
    rw [sg_len] at this
    rw [if_pos this]
  have e3 : ((3 : Nat) : Int) = 3 := rfl
  rw [e3] at h3
  rw [h3, spl_few (sg x) [] 3 (x.length + 4) (by omega), ← big, hl]
  by_cases h : (spl (x.length + 1) [] (sg x)).length ≤ 3
  · rw [if_pos h, if_pos h, hs]
  · rw [if_neg h, if_neg h, List.map_append, List.map_take, hs, List.map_cons, joinL_sg, List.map_drop, hs]
    rfl
end Nv

namespace Nv
open PySem L2

/-! values whose text is short, with long numbers -/
structure SB (W D : Nat) (d : PyData) : Prop where
  s : d.leavesShort 1000 = true
  w : d.weight ≤ W
  p : d.depth ≤ D
  h : d.showable = true
structure SBs (W D : Nat) (ds : List PyData) : Prop where
  s : PyData.leavesShortAll 1000 ds = true
  w : PyData.weightAll ds ≤ W
  p : PyData.depthAll ds ≤ D
  h : PyData.showableAll ds = true
theorem SB.len {W D : Nat} {d : PyData} (h : SB W D d) (hw : W ≤ 16000) : d.shown.length ≤ sizeLine := by
  have h1 := PyData.shown_le 1000 (by decide) d h.s
  have h2 : (1000 + 2) * d.weight ≤ (1000 + 2) * 16000 := Nat.mul_le_mul_left _ (Nat.le_trans h.w hw)
  have e : sizeLine = 16777216 := sizeLine_eq
  omega
theorem SB.le {W D W' D' : Nat} {d : PyData} (h : SB W D d) (a : W ≤ W') (b : D ≤ D') : SB W' D' d := ⟨h.s, Nat.le_trans h.w a, Nat.le_trans h.p b, h.h⟩
theorem SB.non {W D : Nat} : SB W D .none := ⟨rfl, Nat.zero_le _, Nat.zero_le _, rfl⟩
theorem SB.bl {W D : Nat} (b : Bool) : SB W D (.bool b) := ⟨rfl, Nat.zero_le _, Nat.zero_le _, rfl⟩
theorem SB.int {D : Nat} {i : Int} (h : i.natAbs < 10 ^ 500) : SB 1921 D (.int i) := by
  have hl := big_log h
  refine ⟨?_, ?_, Nat.zero_le _, ?_⟩
  · have h1 := big_len h
    have h2 : (PyData.shown (.int i)).length ≤ 1000 := by
      simp only [PyData.shown]
      exact Nat.le_trans h1 (by omega)
    simpa only [PyData.leavesShort, decide_eq_true_eq] using h2
  · simp only [PyData.weight]
    split <;> omega
  · simp only [PyData.showable, decide_eq_true_eq]
    omega
theorem SB.str {D : Nat} {z : Str} (a : Asc z) : SB z.length D (.str z) := by
  refine ⟨?_, Nat.le_refl _, Nat.zero_le _, rfl⟩
  simp only [PyData.leavesShort, List.all_eq_true, decide_eq_true_eq]
  exact fun c hc => Nat.lt_of_lt_of_le (a c hc) (by decide)
theorem SB.list {W D : Nat} {ds : List PyData} (h : SBs W D ds) : SB W (D + 1) (.list ds) := by
  refine ⟨?_, ?_, ?_, ?_⟩
  · simpa only [PyData.leavesShort] using h.s
  · simpa only [PyData.weight] using h.w
  · have := h.p
    simp only [PyData.depth]
    omega
  · simpa only [PyData.showable] using h.h
theorem SB.tuple {W D : Nat} {ds : List PyData} (h : SBs W D ds) : SB W (D + 1) (.tuple ds) := by
  refine ⟨?_, ?_, ?_, ?_⟩
  · simpa only [PyData.leavesShort] using h.s
  · simpa only [PyData.weight] using h.w
  · have := h.p
    simp only [PyData.depth]
    omega
  · simpa only [PyData.showable] using h.h
theorem SB.dict1 {W1 W2 D : Nat} {k v : PyData} (a : SB W1 D k) (b : SB W2 D v) : SB (W1 + W2 + 2) (D + 1) (.dict [(k, v)]) := by
  refine ⟨?_, ?_, ?_, ?_⟩
  · simp only [PyData.leavesShort, PyData.leavesShortKv, a.s, b.s, Bool.and_self]
  · have := a.w
    have := b.w
    simp only [PyData.weight, PyData.weightKv]
    omega
  · have := a.p
    have := b.p
    simp only [PyData.depth, PyData.depthKv]
    omega
  · simp only [PyData.showable, PyData.showableKv, a.h, b.h, Bool.and_self]
theorem SBs.nil {W D : Nat} : SBs W D [] := ⟨rfl, Nat.zero_le _, Nat.zero_le _, rfl⟩
theorem SBs.cons {W1 W2 D : Nat} {d : PyData} {ds : List PyData} (a : SB W1 D d) (b : SBs W2 D ds) : SBs (W1 + 1 + W2) D (d :: ds) := by
  refine ⟨?_, ?_, ?_, ?_⟩
  · simp only [PyData.leavesShortAll, a.s, b.s, Bool.and_self]
  · have := a.w
    have := b.w
    simp only [PyData.weightAll]
    omega
  · have := a.p
    have := b.p
    simp only [PyData.depthAll]
    omega
  · simp only [PyData.showableAll, a.h, b.h, Bool.and_self]
theorem SBs.le {W D W' D' : Nat} {d : List PyData} (h : SBs W D d) (a : W ≤ W') (b : D ≤ D') : SBs W' D' d := ⟨h.s, Nat.le_trans h.w a, Nat.le_trans h.p b, h.h⟩
theorem SBs.app {W1 W2 D : Nat} : ∀ {ds es : List PyData}, SBs W1 D ds → SBs W2 D es → SBs (W1 + W2) D (ds ++ es)
  | [], es, a, b => b.le (by omega) (Nat.le_refl _)
  | d :: ds, es, a, b => by
    have h1 := a.s
    have h2 := a.w
    have h3 := a.p
    have h4 := a.h
    simp only [PyData.leavesShortAll, Bool.and_eq_true] at h1
    simp only [PyData.weightAll] at h2
    simp only [PyData.depthAll] at h3
    simp only [PyData.showableAll, Bool.and_eq_true] at h4
    have q : SBs (PyData.weightAll ds) D ds := ⟨h1.2, Nat.le_refl _, by omega, h4.2⟩
    have p : SB (PyData.weight d) D d := ⟨h1.1, Nat.le_refl _, by omega, h4.1⟩
    have r := SBs.cons p (SBs.app q b)
    exact r.le (by omega) (Nat.le_refl _)
theorem r_reprB {H : Hp} {Q : VK} {v : V} {d : PyData} {W D : Nat} (h : DV H v d) (s : SB W D d) (hw : W ≤ 16000) (hd : D ≤ 60) (q : Q (.str d.shown) H) : rReprA [v] H Q :=
  ⟨v, d, rfl, h, s.h, Nat.le_trans s.p hd, s.len hw, fun i e => (by
    have := s.h
    rw [e] at this
    simpa only [PyData.showable, decide_eq_true_eq] using this), q⟩
theorem dp_strs {K : PySem.W.Frag} {H : Hp} : ∀ l : List Str, DpAll K H (l.map V.str) (l.map PyData.str)
  | [] => .nil
  | c :: r => .cons (.str _) (dp_strs r)
theorem strs_ft (l : List Str) (h : ∀ z ∈ l, Asc z) : Fts (wt (l.map sg)) 0 (l.map PyData.str) := by
  have := Fts.strs (D := 0) (ts := l.map sg) (fun t ht c hc => by
    obtain ⟨z, hz, rfl⟩ := List.mem_map.mp ht
    exact h z hz c hc)
  have e : strsD (l.map sg) = l.map PyData.str := by
    unfold strsD
    rw [List.map_map]
    apply List.map_congr_left
    intro z _
    show PyData.str (tx (sg z)) = _
    rw [tx_sg]
  rw [e] at this
  exact this
theorem shaped_strs (l : List Str) (h : ∀ z ∈ l, Asc z) : SeqAt.shaped (.list (l.map PyData.str)) = true := by
  have f := Ft.list (strs_ft l h)
  have d : (PyData.list (l.map PyData.str)).depth ≤ 1 := f.s.p
  unfold SeqAt.shaped
  rw [f.c]
  simp
  omega
theorem eqv_nilS (l : List Str) : PyData.eqv (.list (l.map PyData.str)) (.list []) = l.isEmpty := by
  cases l <;> simp [PyData.eqv, PyData.eqvAll]
theorem r_eq_nil {K : PySem.W.Frag} {H : Hp} {Q : VK} {D p : Addr} {l : List Str} (h : ∀ z ∈ l, Asc z) (hD : H D = some (.lst (l.map V.str))) (hp : H p = some (.lst [])) (q : Q (.bl l.isEmpty) H) : rEqD K (.ref D) (.ref p) H Q :=
  ⟨_, _, .lst (.of hD) (dp_strs l), .lst (.of hp) .nil, shaped_strs l h, by decide, by rw [eqv_nilS]; exact q⟩
theorem r_ne_nil {K : PySem.W.Frag} {H : Hp} {Q : VK} {D p : Addr} {l : List Str} (h : ∀ z ∈ l, Asc z) (hD : H D = some (.lst (l.map V.str))) (hp : H p = some (.lst [])) (q : Q (.bl (!l.isEmpty)) H) : rNeD K (.ref D) (.ref p) H Q :=
  ⟨_, _, .lst (.of hD) (dp_strs l), .lst (.of hp) .nil, shaped_strs l h, by decide, by rw [eqv_nilS]; exact q⟩
theorem cutV_from (xs : List V) (b : Nat) : cutV xs (some (b : Int)) none = xs.drop b := by
  unfold cutV
  rw [HT.sIx_nat]
  simp only [HT.sIx]
  rcases Nat.le_total b xs.length with h | h
  · rw [Nat.min_eq_left h]
    apply List.take_of_length_le
    simp
  · rw [Nat.min_eq_right h, List.drop_eq_nil_of_le h, List.drop_eq_nil_of_le (Nat.le_refl _)]
    simp
theorem join_bound (ps : List Str) (B : Nat) (h : ∀ p ∈ ps, p.length ≤ B) : (ps.map (·.length)).sum ≤ B * ps.length := by
  induction ps with
  | nil => simp
  | cons a r ih =>
    have h1 := ih fun p hp => h p (by simp [hp])
    have h2 := h a (by simp)
    simp only [List.map_cons, List.sum_cons, List.length_cons, Nat.mul_add, Nat.mul_one]
    omega
theorem join_len : ∀ (ps : List Str), (Txt.join (Str.ofString " ") ps).length ≤ (ps.map (·.length)).sum + ps.length
  | [] => by
    have : Txt.join (Str.ofString " ") [] = Str.empty := rfl
    rw [this]
    exact Nat.zero_le _
  | [a] => by
    have : Txt.join (Str.ofString " ") [a] = a := rfl
    rw [this]
    simp
  | a :: b :: r => by
    have ih := join_len (b :: r)
    have e : (Txt.join (Str.ofString " ") (a :: b :: r)).length = a.length + 1 + (Txt.join (Str.ofString " ") (b :: r)).length := by
      rw [← sg_len (Txt.join (Str.ofString " ") (a :: b :: r)), ← sg_len (Txt.join (Str.ofString " ") (b :: r)), joinL_sg, joinL_sg, ← sg_len a]
      simp [joinL]
      omega
    rw [e]
    simp only [List.map_cons, List.sum_cons, List.length_cons] at ih ⊢
    omega
theorem Asc.join {ps : List Str} (h' : ∀ p ∈ ps, Asc p) : Asc (Txt.join (Str.ofString " ") ps) := by
  intro c hc
  have hc : c ∈ sg (Txt.join (Str.ofString " ") ps) := hc
  rw [joinL_sg] at hc
  have : ∀ ls : List (List Nat), c ∈ joinL ls → c = 32 ∨ ∃ l ∈ ls, c ∈ l := by
    intro ls
    induction ls with
    | nil => intro h; cases h
    | cons a r ih =>
      cases r with
      | nil =>
        intro h
        exact .inr ⟨a, by simp, h⟩
      | cons b r =>
        intro h
        have h : c ∈ a ++ 32 :: joinL (b :: r) := h
        rcases List.mem_append.mp h with h | h
        · exact .inr ⟨a, by simp, h⟩
        · rcases List.mem_cons.mp h with h | h
          · exact .inl h
          · rcases ih h with h | ⟨l, hl, h⟩
            · exact .inl h
            · exact .inr ⟨l, by simp only [List.mem_cons] at hl ⊢; exact .inr hl, h⟩
  rcases this _ hc with h | ⟨l, hl, h⟩
  · omega
  · obtain ⟨p, hp, rfl⟩ := List.mem_map.mp hl
    exact h' p hp c h
theorem asc_of {z : Str} (h : (sg z).all (fun c => decide (c < 128)) = true) : Asc z := fun c hc => by
  simpa using List.all_eq_true.mp h c hc
/-! texts of few signs, not too many -/
structure Gd (B : Nat) (z : Str) : Prop where
  a : Asc z
  l : z.length ≤ B
theorem Gd.le {B C : Nat} {z : Str} (h : Gd B z) (k : B ≤ C) : Gd C z := ⟨h.a, Nat.le_trans h.l k⟩
theorem Gd.app {B C : Nat} {x y : Str} (h : Gd B x) (g : Gd C y) : Gd (B + C) (x ++ y) := ⟨h.a.app g.a, by
  rw [append_len]
  exact Nat.add_le_add h.l g.l⟩
theorem Gd.cut {B : Nat} {z : Str} (h : Gd B z) (lo hi : Option Int) : Gd B (cutS z lo hi) := ⟨h.a.cut lo hi, Nat.le_trans (cutS_length z lo hi) h.l⟩
theorem Gd.one {c : Nat} (h : c < 128) : Gd 1 ⟨#[c]⟩ := ⟨Asc.one h, Nat.le_refl _⟩
theorem Gd.fit {B : Nat} {z : Str} (h : Gd B z) (k : B ≤ 16777216) : z.length ≤ sizeLine := by
  rw [sizeLine_eq]
  exact Nat.le_trans h.l k
theorem Gd.upper {B : Nat} {z : Str} (h : Gd B z) : Gd B (Txt.upper z) := by
  rw [PyProof.Rows.upper_ascii h.a]
  refine ⟨fun c hc => ?_, ?_⟩
  · simp only [Array.toList_map, List.mem_map] at hc
    obtain ⟨d, hd, rfl⟩ := hc
    have := h.a d hd
    unfold PyProof.Rows.up1
    split <;> omega
  · have := h.l
    simpa [Str.length] using this
theorem Gd.lower {B : Nat} {z : Str} (h : Gd B z) : Gd B (Txt.lower z) := by
  rw [PyProof.Rows.lower_ascii h.a]
  refine ⟨fun c hc => ?_, ?_⟩
  · simp only [Array.toList_map, List.mem_map] at hc
    obtain ⟨d, hd, rfl⟩ := hc
    have := h.a d hd
    unfold PyProof.Rows.lo1
    split <;> omega
  · have := h.l
    simpa [Str.length] using this
theorem joinL_take : ∀ (l : List (List Nat)) (n : Nat), (joinL (l.take n)).length ≤ (joinL l).length
  | [], n => by simp
  | a :: r, 0 => by simp [joinL]
  | [a], n + 1 => by simp
  | a :: b :: r, n + 1 => by
    have ih := joinL_take (b :: r) n
    cases n with
    | zero => simp [joinL]
    | succ n =>
      rw [List.take_succ_cons, List.take_succ_cons]
      rw [List.take_succ_cons] at ih
      simp only [joinL, List.length_append, List.length_cons]
      omega
/-- the words of a text -/
theorem words_join (z : Str) (n : Nat) : (Txt.join (Str.ofString " ") ((Txt.split z (Str.ofString " ")).take n)).length ≤ z.length := by
  rw [← sg_len, joinL_sg, List.map_take, split_spl]
  refine Nat.le_trans (joinL_take _ _) ?_
  rw [join_spl, List.nil_append, sg_len]
  exact Nat.le_refl _
theorem cutV_but (xs : List V) : cutV xs none (some (-1)) = xs.take (xs.length - 1) := by
  unfold cutV
  have : HT.sIx xs.length xs.length (some (-1)) = xs.length - 1 := by
    unfold HT.sIx
    simp
    omega
  rw [this]
  simp [HT.sIx]
theorem at_last {α : Type} {xs : List α} {y : α} (h : xs.getLast? = some y) : atI xs (-1) = some y := by
  obtain ⟨ys, rfl⟩ := List.getLast?_eq_some_iff.mp h
  have e : ixN (ys ++ [y]).length (-1) = some ys.length := by
    unfold ixN
    rw [if_neg (by decide), if_pos (by rw [List.length_append, List.length_singleton]; omega)]
    congr 1
    rw [List.length_append, List.length_singleton]
    omega
  unfold atI
  rw [e]
  simp
/-! tuples, cut and put together -/
theorem cutV_all {xs : List V} {lo hi : Option Int} (h : HT.sIx xs.length 0 lo = 0 ∧ HT.sIx xs.length xs.length hi = xs.length) : cutV xs lo hi = xs := by
  unfold cutV
  rw [h.1, h.2]
  simp
theorem r_slA {K : PySem.W.Frag} {H : Hp} {Q : VK} {a : Addr} {xs : List V} {lo hi : Option Int} (h : H a = some (.tup xs)) (q : ∀ b H', Same H H' → H' b = some (.tup (cutV xs lo hi)) → Q (.ref b) H') : rSlA K (.ref a) lo hi H Q := by
  refine ⟨a, xs, rfl, .of h, fun w => ?_, fun _ p hp => q p _ (Same.new hp) upd_same⟩
  exact q a H (Same.refl H) (by rw [cutV_all w]; exact h)
theorem r_catA {K : PySem.W.Frag} {H : Hp} {Q : VK} {a b : Addr} {xs ys : List V} (h : H a = some (.tup xs)) (g : H b = some (.tup ys)) (l : xs.length + ys.length ≤ sizeLine) (q : ∀ c H', Same H H' → H' c = some (.tup (xs ++ ys)) → Q (.ref c) H') : rCatA K (.ref a) (.ref b) H Q := by
  refine ⟨a, b, xs, ys, rfl, rfl, .of h, .of g, l, fun e => ?_, fun _ e => ?_, fun _ _ p hp => q p _ (Same.new hp) upd_same⟩
  · exact q b H (Same.refl H) (by rw [e]; exact g)
  · exact q a H (Same.refl H) (by rw [e, List.append_nil]; exact h)
end Nv

local macro_rules | `(tactic| walk_at "rd") => `(tactic| try simp only [Nv.e_f4, Nv.e_errv, Nv.e_js0, Nv.e_js1, Nv.e_fmt, Nv.e_lrg, Nv.e_rg1, Nv.e_seq, Nv.e_next, Nv.e_asg, Nv.e_gname, Nv.e_gtup, Nv.e_gcons, Nv.e_gnil, Nv.e_gsub, Nv.e_ret, Nv.e_retN, Nv.e_if, Nv.e_drop, Nv.e_par, Nv.e_par3, Nv.e_rP2, Nv.e_rP3, Nv.e_tyes, Nv.e_disp, Nv.e_xf, L2.tPairs, L2.upd_upd, L2.upd_same, Nv.e_wipe0, Nv.e_wipe1, Nv.e_sfld, Nv.e_var, Nv.e_c, Nv.e_op, Nv.e_un, Nv.e_ri, Nv.e_ri0, Nv.e_ru, Nv.e_eq, Nv.e_ne, Nv.e_test, Nv.e_B, Nv.e_and, Nv.e_or, Nv.e_not, Nv.e_andV, Nv.e_orV, Nv.e_notV, Nv.e_ifE, Nv.e_cb, Nv.e_nil, Nv.e_cons, Nv.e_tup, Nv.e_lst1, Nv.e_fld, Nv.e_slice, Nv.e_nopart, Nv.e_part, Nv.e_bm0, Nv.e_bm, Nv.e_m1, Nv.e_cg, Nv.e_mg, Nv.e_make, Nv.e_prop, Nv.e_raise1, Nv.e_chain, Nv.e_mulS, Nv.e_slS, Nv.e_cxK, Nv.start_def, List.getElem?_cons_zero, List.getElem?_cons_succ, List.set_cons_zero, List.set_cons_succ, List.map_cons, List.map_nil, List.cons_append, List.nil_append, List.append_nil, List.length_cons, List.length_nil, List.replicate, Option.some.injEq, exists_eq_left', exists_eq_left, L2.V.bl.injEq, L2.V.int.injEq, L2.V.str.injEq, L2.V.ref.injEq, List.cons.injEq, and_true, true_and, exists_and_left, exists_and_right, ↓reduceIte, Bool.false_eq_true, Bool.true_eq_false, decide_eq_true_eq, Bool.not_eq_true', Bool.not_true, Bool.not_false, forall_eq'])

local macro_rules | `(tactic| walk_at "rx") => `(tactic| try simp only [Nv.e_errs, Nv.e_E1, Nv.e_E2, Nv.e_sorts, Nv.e_fldE, Nv.e_back, Nv.e_mk1, Nv.e_mk2, Nv.e_f4, Nv.e_errv, Nv.e_js0, Nv.e_js1, Nv.e_fmt, Nv.e_lrg, Nv.e_rg1, Nv.e_seq, Nv.e_next, Nv.e_asg, Nv.e_gname, Nv.e_gtup, Nv.e_gcons, Nv.e_gnil, Nv.e_gsub, Nv.e_ret, Nv.e_retN, Nv.e_if, Nv.e_drop, Nv.e_par, Nv.e_par3, Nv.e_rP2, Nv.e_rP3, Nv.e_tyes, Nv.e_disp, Nv.e_xf, L2.tPairs, L2.upd_upd, L2.upd_same, Nv.e_wipe0, Nv.e_wipe1, Nv.e_sfld, Nv.e_var, Nv.e_c, Nv.e_op, Nv.e_un, Nv.e_ri, Nv.e_ri0, Nv.e_ru, Nv.e_eq, Nv.e_ne, Nv.e_test, Nv.e_B, Nv.e_and, Nv.e_or, Nv.e_not, Nv.e_andV, Nv.e_orV, Nv.e_notV, Nv.e_ifE, Nv.e_cb, Nv.e_nil, Nv.e_cons, Nv.e_tup, Nv.e_lst1, Nv.e_fld, Nv.e_slice, Nv.e_nopart, Nv.e_part, Nv.e_bm0, Nv.e_bm, Nv.e_m1, Nv.e_cg, Nv.e_mg, Nv.e_make, Nv.e_prop, Nv.e_raise1, Nv.e_chain, Nv.e_mulS, Nv.e_slS, Nv.e_cxK, Nv.start_def, List.getElem?_cons_zero, List.getElem?_cons_succ, List.set_cons_zero, List.set_cons_succ, List.map_cons, List.map_nil, List.cons_append, List.nil_append, List.append_nil, List.length_cons, List.length_nil, List.replicate, Option.some.injEq, exists_eq_left', exists_eq_left, L2.V.bl.injEq, L2.V.int.injEq, L2.V.str.injEq, L2.V.ref.injEq, List.cons.injEq, and_true, true_and, exists_and_left, exists_and_right, ↓reduceIte, Bool.false_eq_true, Bool.true_eq_false, decide_eq_true_eq, Bool.not_eq_true', Bool.not_true, Bool.not_false, forall_eq'])

namespace K32
open PySem L2 Nv

/-! what the questions answer, of values of any kind -/
theorem obT {K : PySem.W.Frag} {mg : Str → Option Value} {pr : Params} (T : Tx K mg pr) : ObX K T.C_Tree := ⟨T.cl_Tree, T.ti_Tree, T.ky_Tree_int, T.ky_Tree_bool, T.ky_Tree_str, T.ky_Tree_tuple, T.ky_Tree_list⟩
def spX (K : PySem.W.Frag) (C : Addr) (g : XD → Bool) : Sp := fun vs H Q _ => ∃ v d, vs = [v] ∧ XV K C H v d ∧ Q (.bl (g d)) H
mutual
def szX : XD → Bool
  | .str z => decide (z.length ≤ 100000) && z.cps.toList.all fun c => decide (c < 128)
  | .tup l => decide (l.length < 64) && szXs l
  | _ => true
def szXs : List XD → Bool
  | [] => true
  | d :: r => szX d && szXs r
end
theorem sz_str {z : Str} (h : szX (.str z) = true) : z.length ≤ 100000 ∧ Asc z := by
  unfold szX at h
  rw [Bool.and_eq_true, decide_eq_true_eq] at h
  exact ⟨h.1, fun c hc => of_decide_eq_true (List.all_eq_true.mp h.2 c hc)⟩
/-- the same, the texts in it not too long -/
def spXS (K : PySem.W.Frag) (C : Addr) (g : XD → Bool) : Sp := fun vs H Q _ => ∃ v d, vs = [v] ∧ XV K C H v d ∧ szX d = true ∧ Q (.bl (g d)) H
def spXH (K : PySem.W.Frag) (C : Addr) (g : XD → Bool) : Sp := fun vs H Q _ => ∃ v d, vs = [v] ∧ XV K C H v d ∧ ∀ H', Same H H' → Q (.bl (g d)) H'
def cntB : XD → Bool
  | .int i => decide (0 ≤ i)
  | _ => false
def lifB : XD → Bool
  | .int i => decide (1 ≤ i)
  | _ => false
def sigOk : XD → Bool
  | .str z => okS z
  | _ => false
def celS (z : Str) : Bool := decide (z.length ≤ 8) && (Txt.isascii z && (Txt.isalpha z && Txt.islower z))
def cellB : XD → Bool
  | .str z => celS z
  | _ => false
def textB : XD → Bool
  | .str z => okS z && decide (z.length ≤ 40)
  | _ => false
def lineB : XD → Bool
  | .tup [a, b, c, d] => cntB a && (cntB b && (cellB c && textB d))
  | _ => false
section
variable {P : Program} {w : World} {K : PySem.W.Frag} {mg : Str → Option Value} {base : Heap}
theorem ok_is_int (T : Tx K mg w.params) : FnG P w K mg base 1 T.d_is_int.f T.d_is_int.fd ["value"] (spX K T.C_Tree isIx) := by
  refine okG0 T.d_is_int.F sc_is_int (fun vs H Q E h => ?_) (fun cdv A outer s H vs Q E hg hr h => ?_)
  · obtain ⟨v, d, rfl, _⟩ := h
    rfl
  obtain ⟨v, d, rfl, hd, k⟩ := h
  refine ⟨_, (pss_one (ps_ret (pe_and (pe_callB call_isiA (by rfl) T.n_isinstance (by decide +kernel) (pa_cons (pv 0) (pa_cons (pe_bltn (v := .ty "int") (by rfl) T.n_int (by decide +kernel) rfl) pa_nil))) (pe_one (pe_not (pe_callB call_isiA (by rfl) T.n_isinstance (by decide +kernel) (pa_cons (pv 0) (pa_cons (pe_bltn (v := .ty "bool") (by rfl) T.n_bool (by decide +kernel) rfl) pa_nil)))))))), ?_⟩
  walk_at "rd"
  refine r_isiX (obT T) hd .int ?_
  walk_at "rd"
  cases d with
  | int i =>
    simp only [isIx, isBx, Bool.or_false]
    walk_at "rd"
    exact r_isiX (obT T) hd .bool ⟨_, rfl, k⟩
  | bl b =>
    simp only [isIx, isBx, Bool.or_true]
    walk_at "rd"
    exact r_isiX (obT T) hd .bool ⟨_, rfl, k⟩
  | _ =>
    simp only [isIx, isBx, Bool.or_false]
    walk_at "rd"
    exact k
theorem ok_is_count (T : Tx K mg w.params) : FnG P w K mg base 2 T.d_is_count.f T.d_is_count.fd ["value"] (spX K T.C_Tree cntB) := by
  refine okG0 T.d_is_count.F sc_is_count (fun vs H Q E h => ?_) (fun cdv A outer s H vs Q E hg hr h => ?_)
  · obtain ⟨v, d, rfl, _⟩ := h
    rfl
  obtain ⟨v, d, rfl, hd, k⟩ := h
  refine ⟨_, (pss_one (ps_ret (pe_and (pe_cG (ok_is_int T) T.d_is_int.b takes0 hg (hr.mono (by decide)) T.d_is_int.m T.d_is_int.F.kp (pa_cons (pv 0) pa_nil)) (pe_one (pe_cmpR op_ge (pv 0) pe_int (nomark _)))))), ?_⟩
  walk_at "rd"
  refine ⟨v, d, rfl, hd, ?_⟩
  cases hd with
  | int i =>
    simp only [isIx]
    walk_at "rd"
    simpa only [cntB] using k
  | _ =>
    simp only [isIx]
    walk_at "rd"
    exact k
theorem ok_is_life (T : Tx K mg w.params) : FnG P w K mg base 2 T.d_is_life.f T.d_is_life.fd ["value"] (spX K T.C_Tree lifB) := by
  refine okG0 T.d_is_life.F sc_is_life (fun vs H Q E h => ?_) (fun cdv A outer s H vs Q E hg hr h => ?_)
  · obtain ⟨v, d, rfl, _⟩ := h
    rfl
  obtain ⟨v, d, rfl, hd, k⟩ := h
  refine ⟨_, (pss_one (ps_ret (pe_and (pe_cG (ok_is_int T) T.d_is_int.b takes0 hg (hr.mono (by decide)) T.d_is_int.m T.d_is_int.F.kp (pa_cons (pv 0) pa_nil)) (pe_one (pe_cmpR op_ge (pv 0) pe_int (nomark _)))))), ?_⟩
  walk_at "rd"
  refine ⟨v, d, rfl, hd, ?_⟩
  cases hd with
  | int i =>
    simp only [isIx]
    walk_at "rd"
    simpa only [lifB] using k
  | _ =>
    simp only [isIx]
    walk_at "rd"
    exact k
theorem ok_is_list (T : Tx K mg w.params) : FnG P w K mg base 1 T.d_is_list.f T.d_is_list.fd ["value"] (spXH K T.C_Tree fun d => isLx d || isTx d) := by
  refine okG0 T.d_is_list.F sc_is_list (fun vs H Q E h => ?_) (fun cdv A outer s H vs Q E hg hr h => ?_)
  · obtain ⟨v, d, rfl, _⟩ := h
    rfl
  obtain ⟨v, d, rfl, hd, k⟩ := h
  refine ⟨_, (pss_one (ps_ret (pe_callB call_isiT (by rfl) T.n_isinstance (by decide +kernel) (pa_cons (pv 0) (pa_cons (pe_tup (pa_cons (pe_bltn (v := .ty "list") (by rfl) T.n_list (by decide +kernel) rfl) (pa_cons (pe_bltn (v := .ty "tuple") (by rfl) T.n_tuple (by decide +kernel) rfl) pa_nil))) pa_nil))))), ?_⟩
  walk_at "rd"
  refine ⟨by decide, fun p hp => ?_⟩
  obtain ⟨t, ty, _, _, _, k4, k5⟩ := (hd.mono (Same.new (o := .tup [V.ty "list", V.ty "tuple"]) hp)).tyx (obT T)
  refine ⟨v, p, _, t, _, isLx d || isTx d, rfl, upd_same, .cons (.ty _) (.cons (.ty _) .nil), ty, ?_, k _ (Same.new hp)⟩
  refine kitAny_cons k5 (fun e => ?_) (fun e => by rw [e]; rfl)
  rw [e, Bool.false_or]
  refine kitAny_cons k4 (fun e => ?_) (fun e => e)
  rw [e]
  exact kitAny_nil
theorem ok_is_signs (T : Tx K mg w.params) : FnG P w K mg base 1 T.d_is_signs.f T.d_is_signs.fd ["value"] (spX K T.C_Tree sigOk) := by
  refine okG0 T.d_is_signs.F sc_is_signs (fun vs H Q E h => ?_) (fun cdv A outer s H vs Q E hg hr h => ?_)
  · obtain ⟨v, d, rfl, _⟩ := h
    rfl
  obtain ⟨v, d, rfl, hd, fin⟩ := h
  refine ⟨_, (pss_one (ps_ret (pe_and (pe_callB call_isiA (by rfl) T.n_isinstance (by decide +kernel) (pa_cons (pv 0) (pa_cons (pe_bltn (v := .ty "str") (by rfl) T.n_str (by decide +kernel) rfl) pa_nil))) (pe_and (pe_bm0 PySem.F.plainAttrs_str PySem.F.slot_str_isascii PySem.F.type_str_isascii mt_isascii (pv 0)) (pe_one (pe_bm0 PySem.F.plainAttrs_str PySem.F.slot_str_isprintable PySem.F.type_str_isprintable mt_isprintable (pv 0))))))), ?_⟩
  walk_at "rd"
  refine r_isiX (obT T) hd .str ?_
  walk_at "rd"
  cases hd with
  | str z =>
    simp only [isSx]
    walk_at "rd"
    refine ⟨rfl, ?_⟩
    simp only [sigOk, okS] at fin
    cases ea : Txt.isascii z with
    | false =>
      rw [ea] at fin
      simpa using fin
    | true =>
      rw [ea] at fin
      rw [if_pos rfl]
      exact ⟨rfl, by simpa using fin⟩
  | _ =>
    simp only [isSx]
    walk_at "rd"
    exact fin
theorem ok_is_cell (T : Tx K mg w.params) : FnG P w K mg base 1 T.d_is_cell.f T.d_is_cell.fd ["value"] (spXS K T.C_Tree cellB) := by
  refine okG0 T.d_is_cell.F sc_is_cell (fun vs H Q E h => ?_) (fun cdv A outer s H vs Q E hg hr h => ?_)
  · obtain ⟨v, d, rfl, _⟩ := h
    rfl
  obtain ⟨v, d, rfl, hd, hz, fin⟩ := h
  have sz : sizeLine = 16777216 := sizeLine_eq
  refine ⟨_, (pss_cons (ps_if (PW.pt (pw_or (pt_not (pt_val (pe_callB call_isiA (by rfl) T.n_isinstance (by decide +kernel) (pa_cons (pv 0) (pa_cons (pe_bltn (v := .ty "str") (by rfl) T.n_str (by decide +kernel) rfl) pa_nil))))) (pw_or1 (pt_cmpR op_gt (pe_callB call_len_str (by rfl) T.n_len (by decide +kernel) (pa_cons (pv 0) pa_nil)) (pe_glob (v := .int 8) rfl T.g_MOST_LETTERS ⟨_, rfl⟩) (nomark _)))))
      (pss_one (ps_ret pe_bl))
      pss_nil)
    (pss_one (ps_ret (pe_and (pe_bm0 PySem.F.plainAttrs_str PySem.F.slot_str_isascii PySem.F.type_str_isascii mt_isascii (pv 0)) (pe_and (pe_bm0 PySem.F.plainAttrs_str PySem.F.slot_str_isalpha PySem.F.type_str_isalpha mt_isalpha (pv 0)) (pe_one (pe_bm0 PySem.F.plainAttrs_str PySem.F.slot_str_islower PySem.F.type_str_islower mt_islower (pv 0)))))))), ?_⟩
  walk_at "rd"
  refine r_isiX (obT T) hd .str ?_
  walk_at "rd"
  cases hd with
  | str z =>
    have hz' : z.length ≤ 100000 := (sz_str hz).1
    simp only [isSx]
    walk_at "rd"
    refine ⟨by omega, ?_⟩
    simp only [cellB, celS] at fin
    by_cases h8 : (8 : Int) < (z.length : Int)
    · rw [if_pos h8]
      have : decide (z.length ≤ 8) = false := by simp; omega
      rw [this] at fin
      exact fin
    · rw [if_neg h8]
      have : decide (z.length ≤ 8) = true := by simp; omega
      rw [this] at fin
      refine ⟨rfl, ?_⟩
      cases ea : Txt.isascii z with
      | false =>
        rw [ea] at fin
        simpa using fin
      | true =>
        rw [ea] at fin
        rw [if_pos rfl]
        refine ⟨rfl, ?_⟩
        cases eb : Txt.isalpha z with
        | false =>
          rw [eb] at fin
          simpa using fin
        | true =>
          rw [eb] at fin
          rw [if_pos rfl]
          exact ⟨rfl, by simpa using fin⟩
  | _ =>
    simp only [isSx]
    walk_at "rd"
    exact fin
theorem ok_is_text (T : Tx K mg w.params) : FnG P w K mg base 2 T.d_is_text.f T.d_is_text.fd ["value"] (spXS K T.C_Tree textB) := by
  refine okG0 T.d_is_text.F sc_is_text (fun vs H Q E h => ?_) (fun cdv A outer s H vs Q E hg hr h => ?_)
  · obtain ⟨v, d, rfl, _⟩ := h
    rfl
  obtain ⟨v, d, rfl, hd, hz, fin⟩ := h
  have sz : sizeLine = 16777216 := sizeLine_eq
  refine ⟨_, (pss_one (ps_ret (pe_and (pe_cG (ok_is_signs T) T.d_is_signs.b takes0 hg (hr.mono (by decide)) T.d_is_signs.m T.d_is_signs.F.kp (pa_cons (pv 0) pa_nil)) (pe_one (pe_cmpR op_le (pe_callB call_len_str (by rfl) T.n_len (by decide +kernel) (pa_cons (pv 0) pa_nil)) (pe_glob (v := .int 40) rfl T.g_MOST_SIGNS ⟨_, rfl⟩) (nomark _)))))), ?_⟩
  walk_at "rd"
  refine ⟨v, d, rfl, hd, ?_⟩
  cases hd with
  | str z =>
    have hz' : z.length ≤ 100000 := (sz_str hz).1
    simp only [sigOk]
    walk_at "rd"
    simp only [textB] at fin
    cases ea : okS z with
    | false =>
      rw [ea] at fin
      simpa using fin
    | true =>
      rw [ea] at fin
      rw [if_pos rfl]
      refine ⟨by omega, ?_⟩
      have : decide ((z.length : Int) ≤ 40) = decide (z.length ≤ 40) := by
        congr 1
        exact propext (by omega)
      rw [this]
      simpa using fin
  | _ =>
    simp only [sigOk]
    walk_at "rd"
    exact fin
theorem ok_l_cell (T : Tx K mg w.params) : FnG P w K mg base 1 T.d_l_cell.f T.d_l_cell.fd ["_law_script", "_law_k"] (nvCell K) := by
  refine okG0 T.d_l_cell.F sc_l_cell (fun vs H Q E h => ?_) (fun cdv A outer s H vs Q E hg hr h => ?_)
  · obtain ⟨a, ns, k, rfl, _⟩ := h
    rfl
  obtain ⟨a, ns, k, rfl, hS, h0, h1, q⟩ := h
  refine ⟨_, (pss_one (ps_ret (pe_ifExp (pt_cmpR op_lt (pv 1) (pe_callB call_len_seq (by rfl) T.n_len (by decide +kernel) (pa_cons (pv 0) pa_nil)) (nomark _)) (pe_ix ix_list (pv 0) (pv 1) (fun _ _ => rfl)) (pe_op op_add (pe_op op_mul pe_int (pv 1)) (pe_op op_modN (pe_callB (cr_sum rfl) (by rfl) T.n_sum (by decide +kernel) (pa_cons (pe_slice sl_list (pv 0) po_none (po_some pe_int)) pa_nil)) pe_int))))), ?_⟩
  walk_at "rd"
  refine ⟨_, .inl hS, ?_⟩
  walk_at "rd"
  by_cases hk : k < ((ns.map V.int).length : Int)
  · rw [if_pos hk]
    obtain ⟨j, rfl⟩ : ∃ j : Nat, k = (j : Int) := ⟨k.toNat, by omega⟩
    have hj : j < ns.length := by
      rw [List.length_map] at hk
      omega
    refine r_ixL hS (atI_nat (j := j) (v := V.int ns[j]) (by simp [hj])) ?_
    exact q _ H (Same.refl H)
  · rw [if_neg hk]
    refine ⟨.inl (by decide), a, _, rfl, hS, fun p hp => ?_⟩
    walk_at "rd"
    have hc : cutV (ns.map V.int) none (some 1) = ((ns.drop (HT.sIx (ns.map V.int).length 0 none)).take (HT.sIx (ns.map V.int).length (ns.map V.int).length (some 1) - HT.sIx (ns.map V.int).length 0 none)).map V.int := by
      unfold cutV
      rw [List.map_take, List.map_drop]
    refine ⟨p, _, rfl, .inl (.inl (by rw [hc] at *; exact upd_same)), ?_⟩
    walk_at "rd"
    refine ⟨by decide, ?_⟩
    exact q _ _ (Same.new hp)
theorem ok_l_box (T : Tx K mg w.params) : FnG P w K mg base 1 T.d_l_box.f T.d_l_box.fd ["_law_great"] nvBox := by
  refine okG0 T.d_l_box.F sc_l_box (fun vs H Q E h => ?_) (fun cdv A outer s H vs Q E hg hr h => ?_)
  · obtain ⟨g, rfl, _⟩ := h
    rfl
  obtain ⟨g, rfl, q⟩ := h
  refine ⟨_, (pss_one (ps_ret (pe_lst1 (pa_cons (pe_callB call_abs (by rfl) T.n_abs (by decide +kernel) (pa_cons (pv 0) pa_nil)) (pa_cons (pe_cmpR op_ge (pe_callB call_abs (by rfl) T.n_abs (by decide +kernel) (pa_cons (pv 0) pa_nil)) (pe_op op_pow pe_int pe_int) (nomark _)) (pa_cons (pe_op op_modN (pe_callTy call_intI (by rfl) T.n_int (by decide +kernel) (pa_cons (pe_callB call_abs (by rfl) T.n_abs (by decide +kernel) (pa_cons (pv 0) pa_nil)) pa_nil)) pe_int) (pa_cons pe_int pa_nil))))))), ?_⟩
  walk_at "rd"
  refine ⟨by unfold CPow; decide, by decide, by decide, fun p hp _ => ?_⟩
  have f := fmod_in (if g < 0 then -g else g) (m := 2147483629) (by decide)
  exact q p _ hp (Same.new hp) ⟨_, _, _, _, upd_same, f.1, by omega, by decide, by decide⟩
local macro_rules | `(tactic| walk_at "mix") => `(tactic| (
  refine r_ixL (SqL.of (by assumption)) (at3 rfl) ?_
  walk_at "rd"
  refine r_setL (by assumption) (setIx (j := 3) (by show 3 < 4; decide)) ?_
  walk_at "rd"
  refine r_ixL (SqL.of upd_same) (at2 rfl) ?_
  walk_at "rd"
  refine r_ixL (SqL.of upd_same) (at3 rfl) ?_
  walk_at "rd"
  refine ⟨cmul_l (by decide) (by decide), cpow_of (by decide) (by decide) (by omega) (by omega), by decide, cmul_r (by decide) (by decide), ?_⟩
  refine r_ixL (SqL.of upd_same) (at3 rfl) ?_
  walk_at "rd"
  refine ⟨cmul_l (by decide) (by decide), cpow_of (by decide) (by decide) ?_ ?_, by decide, ⟨by decide, by decide⟩, by omega, ?_⟩))
theorem ok_l_take (T : Tx K mg w.params) : FnG P w K mg base 1 T.d_l_take.f T.d_l_take.fd ["_law_box_here", "_law_many"] nvTake := by
  refine okG0 T.d_l_take.F sc_l_take (fun vs H Q E h => ?_) (fun cdv A outer s H vs Q E hg hr h => ?_)
  · obtain ⟨p, m, N, rfl, _⟩ := h
    rfl
  obtain ⟨p, m, N, rfl, ⟨n, b, mm, c, hp, h1, h2, h3, h4⟩, hN, hm0, hm1, q⟩ := h
  refine ⟨_, (pss_cons (ps_if (PW.pt (pw_and (pt_val (pe_ix ix_list (pv 0) pe_int (fun _ _ => rfl))) (pw_and1 (pt_cmpR op_gt (pe_ix ix_list (pv 0) pe_int (fun _ _ => rfl)) pe_int (nomark _)))))
      (pss_cons (ps_set (i := 2) sc_l_take.nd rfl (Or.inl rfl) (pe_op op_modN (pe_callTy call_intI (by rfl) T.n_int (by decide +kernel) (pa_cons (pe_ix ix_list (pv 0) pe_int (fun _ _ => rfl)) pa_nil)) (pv 1)))
      (pss_cons (ps_asg (pe_op op_fdivN (pe_ix ix_list (pv 0) pe_int (fun _ _ => rfl)) (pv 1)) (pg_sub (pv 0) pe_int set_list))
      (pss_one (ps_ret (pv 2)))))
      pss_nil)
    (pss_cons (ps_asg (pe_op op_add (pe_ix ix_list (pv 0) pe_int (fun _ _ => rfl)) pe_int) (pg_sub (pv 0) pe_int set_list))
    (pss_cons (ps_set (i := 3) sc_l_take.nd rfl (Or.inl rfl) (pe_op op_modN (pe_callTy call_intI (by rfl) T.n_int (by decide +kernel) (pa_cons (pe_op op_pow (pe_op op_add (pe_op op_add (pe_ix ix_list (pv 0) pe_int (fun _ _ => rfl)) (pe_op op_mul pe_int (pe_ix ix_list (pv 0) pe_int (fun _ _ => rfl)))) pe_int) pe_int) pa_nil)) pe_int))
    (pss_one (ps_ret (pe_op op_modN (pe_op op_fdivN (pe_op op_modN (pe_callTy call_intI (by rfl) T.n_int (by decide +kernel) (pa_cons (pe_op op_pow (pe_op op_add (pe_op op_mul (pv 3) pe_int) (pe_op op_mul pe_int (pe_ix ix_list (pv 0) pe_int (fun _ _ => rfl)))) pe_int) pa_nil)) pe_int) pe_int) (pv 1))))))), ?_⟩
  walk_at "rd"
  refine r_ixL (SqL.of hp) (at1 rfl) ?_
  walk_at "rd"
  have f1 : ∀ a : Int, 0 ≤ a.fmod 2147483647 ∧ a.fmod 2147483647 < 2147483647 := fun a => fmod_in a (by decide)
  have fin : ∀ x : Int, Q (.int (x.fmod m)) (upd H p (.lst [.int n, .bl b, .int mm, .int (c + 1)])) := fun x =>
    q _ _ (fmod_in x hm0).1 (fmod_in x hm0).2 ⟨_, _, _, _, upd_same, h1, h2, by omega, by omega⟩ Ext1.upd
  by_cases hb : b = true
  · rw [if_pos hb]
    refine r_ixL (SqL.of hp) (at0 rfl) ?_
    walk_at "rd"
    by_cases hn : 0 < n
    · rw [if_pos hn]
      refine r_ixL (SqL.of hp) (at0 rfl) ?_
      walk_at "rd"
      refine ⟨by omega, ?_⟩
      refine r_ixL (SqL.of hp) (at0 rfl) ?_
      walk_at "rd"
      refine ⟨⟨by omega, by omega⟩, ?_⟩
      refine r_setL hp (setIx (j := 0) (by show 0 < 4; decide)) ?_
      exact q _ _ (fmod_in n hm0).1 (fmod_in n hm0).2 ⟨_, _, _, _, upd_same, h1, h2, h3, by omega⟩ Ext1.upd
    · rw [if_neg hn]
      walk_at "mix"
      · have := f1 ((mm + 15485867 * (c + 1) + 179424691) ^ (5 : Int).toNat)
        omega
      · have := f1 ((mm + 15485867 * (c + 1) + 179424691) ^ (5 : Int).toNat)
        omega
      · exact fin _
  · rw [if_neg hb]
    walk_at "mix"
    · have := f1 ((mm + 15485867 * (c + 1) + 179424691) ^ (5 : Int).toNat)
      omega
    · have := f1 ((mm + 15485867 * (c + 1) + 179424691) ^ (5 : Int).toNat)
      omega
    · exact fin _
end
end K32

namespace Gr

/-! roads and what is joined -/
abbrev Rd := Nat × Nat
def Nbr (rs : List Rd) (u v : Nat) : Prop := (u, v) ∈ rs ∨ (v, u) ∈ rs
theorem Nbr.symm {rs : List Rd} {u v : Nat} (h : Nbr rs u v) : Nbr rs v u := h.elim .inr .inl
inductive Reach (rs : List Rd) (s : Nat) : Nat → Prop
  | refl : Reach rs s s
  | step {u v : Nat} : Reach rs s u → Nbr rs u v → Reach rs s v
theorem Reach.trans {rs : List Rd} {a b c : Nat} (h : Reach rs a b) (g : Reach rs b c) : Reach rs a c := by
  induction g with
  | refl => exact h
  | step _ n ih => exact .step ih n
theorem Reach.symm {rs : List Rd} {a b : Nat} (h : Reach rs a b) : Reach rs b a := by
  induction h with
  | refl => exact .refl
  | step _ n ih => exact (Reach.step .refl n.symm).trans ih
/-- all houses are joined -/
def Joined (n : Nat) (rs : List Rd) : Prop := ∀ v, v < n → Reach rs 0 v
/-- a set that is closed holds all that is reached from within -/
theorem closed_reach {rs : List Rd} {s : Nat} {ks : List Nat} (hs : s ∈ ks) (c : ∀ h ∈ ks, ∀ x, Nbr rs h x → x ∈ ks) : ∀ {v : Nat}, Reach rs s v → v ∈ ks := by
  intro v h
  induction h with
  | refl => exact hs
  | step _ n ih => exact c _ ih _ n

/-! what _steps_to finds: the houses in the order in which they are found, each with the next one on its way -/
structure St (rs : List Rd) (n g : Nat) (l : List Rd) : Prop where
  head : ∃ r, l = (g, g) :: r
  nd : (l.map (·.1)).Nodup
  lt : ∀ x ∈ l, x.1 < n
  par : ∀ (i : Nat) (h p : Nat), l[i + 1]? = some (h, p) → Nbr rs p h ∧ ∃ j, j ≤ i ∧ (l.map (·.1))[j]? = some p
theorem St.one {rs : List Rd} {n g : Nat} (h : g < n) : St rs n g [(g, g)] := by
  refine ⟨⟨[], rfl⟩, by simp, by simpa using h, fun i h p e => by simp at e⟩
theorem St.has {rs : List Rd} {n g : Nat} {l : List Rd} (s : St rs n g l) : g ∈ l.map (·.1) := by
  obtain ⟨r, rfl⟩ := s.head
  simp
theorem St.add {rs : List Rd} {n g h p : Nat} {l : List Rd} (s : St rs n g l) (hp : p ∈ l.map (·.1)) (nb : Nbr rs p h) (nh : h ∉ l.map (·.1)) (lt : h < n) : St rs n g (l ++ [(h, p)]) := by
  refine ⟨?_, ?_, ?_, ?_⟩
  · obtain ⟨r, rfl⟩ := s.head
    exact ⟨r ++ [(h, p)], rfl⟩
  · rw [List.map_append, List.nodup_append]
    refine ⟨s.nd, by simp, ?_⟩
    intro a ha b hb e
    simp at hb
    subst hb
    subst e
    exact nh ha
  · intro x hx
    rcases List.mem_append.mp hx with hx | hx
    · exact s.lt x hx
    · simp at hx
      subst hx
      exact lt
  · intro i h' p' e
    by_cases hi : i + 1 < l.length
    · rw [List.getElem?_append_left hi] at e
      obtain ⟨a, j, hj, q⟩ := s.par i h' p' e
      refine ⟨a, j, hj, ?_⟩
      rw [List.map_append, List.getElem?_append_left (by rw [List.length_map]; omega)]
      exact q
    · rw [List.getElem?_append_right (by omega)] at e
      have : i + 1 - l.length = 0 := by
        have := (List.getElem?_eq_some_iff.mp e).1
        simp at this
        omega
      rw [this] at e
      simp at e
      obtain ⟨rfl, rfl⟩ := e
      obtain ⟨j, hj⟩ := List.mem_iff_getElem?.mp hp
      have hj2 : j < l.length := by
        have := (List.getElem?_eq_some_iff.mp hj).1
        simpa using this
      refine ⟨nb, j, by omega, ?_⟩
      rw [List.map_append, List.getElem?_append_left (by rw [List.length_map]; exact hj2)]
      exact hj
theorem St.reach {rs : List Rd} {n g : Nat} {l : List Rd} (s : St rs n g l) : ∀ (i : Nat) (h : Nat), (l.map (·.1))[i]? = some h → Reach rs g h := by
  intro i
  induction i using Nat.strongRecOn with
  | ind i ih =>
    intro h e
    cases i with
    | zero =>
      obtain ⟨r, rfl⟩ := s.head
      simp at e
      subst e
      exact .refl
    | succ i =>
      rw [List.getElem?_map] at e
      cases q : l[i + 1]? with
      | none =>
        rw [q] at e
        simp at e
      | some x =>
        rw [q] at e
        simp at e
        subst e
        obtain ⟨a, j, hj, z⟩ := s.par i x.1 x.2 (by rw [q])
        exact .step (ih j (by omega) x.2 z) a
theorem St.mem {rs : List Rd} {n g h : Nat} {l : List Rd} (s : St rs n g l) (m : h ∈ l.map (·.1)) : Reach rs g h := by
  obtain ⟨i, e⟩ := List.mem_iff_getElem?.mp m
  exact s.reach i h e
theorem nodup_len : ∀ (n : Nat) (l : List Nat), l.Nodup → (∀ x ∈ l, x < n) → l.length ≤ n
  | 0, l, _, h => by
    cases l with
    | nil => simp
    | cons a r =>
      have := h a (by simp)
      omega
  | n + 1, l, nd, h => by
    have ih := nodup_len n (l.erase n) (nd.erase n) (by
      intro x hx
      have h1 := h x (List.mem_of_mem_erase hx)
      have h2 : x ≠ n := fun e => by
        subst e
        exact absurd hx (List.Nodup.not_mem_erase nd)
      omega)
    have := List.length_erase (a := n) (l := l)
    split at this <;> omega
theorem St.len {rs : List Rd} {n g : Nat} {l : List Rd} (s : St rs n g l) : l.length ≤ n := by
  have := nodup_len n (l.map (·.1)) s.nd (by
    intro x hx
    obtain ⟨y, hy, rfl⟩ := List.mem_map.mp hx
    exact s.lt y hy)
  simpa using this
/-- .. and all that is joined to the goal -/
structure StA (rs : List Rd) (n g : Nat) (l : List Rd) : Prop extends St rs n g l where
  all : ∀ h ∈ l.map (·.1), ∀ x, Nbr rs h x → x ∈ l.map (·.1)
theorem StA.iff {rs : List Rd} {n g h : Nat} {l : List Rd} (s : StA rs n g l) : h ∈ l.map (·.1) ↔ Reach rs g h := ⟨fun m => s.mem m, fun r => closed_reach s.has s.all r⟩
theorem StA.joined {rs : List Rd} {n : Nat} {l : List Rd} (s : StA rs n 0 l) : (∀ v, v < n → v ∈ l.map (·.1)) ↔ Joined n rs := ⟨fun h v hv => s.iff.mp (h v hv), fun h v hv => s.iff.mpr (h v hv)⟩
end Gr



namespace K32
open PySem L2 Nv Gr

/-- a road, or what is none -/
def RdV (H : Hp) (v : V) : Option Rd → Prop
  | none => v = .non
  | some (x, y) => ∃ a : Addr, v = .ref a ∧ H a = some (.tup [.int (x : Int), .int (y : Int)])
theorem RdV.mono {H H' : Hp} (S : Same H H') {v : V} : ∀ {r : Option Rd}, RdV H v r → RdV H' v r
  | none, h => h
  | some (x, y), ⟨a, e, h⟩ => ⟨a, e, S _ _ h⟩
def roadB (n : Nat) : Option Rd → Bool
  | none => false
  | some (x, y) => decide (x < y) && decide (y < n)
def spIsRoad : Sp := fun vs H Q _ => ∃ (n : Nat) (v : V) (r : Option Rd), vs = [.int (n : Int), v] ∧ RdV H v r ∧ Q (.bl (roadB n r)) H
section
variable {P : Program} {w : World} {K : PySem.W.Frag} {mg : Str → Option Value} {base : Heap}
theorem ok_is_road (T : Tx K mg w.params) : FnG P w K mg base 2 T.d_is_road.f T.d_is_road.fd ["houses", "value"] spIsRoad := by
  refine okG0 T.d_is_road.F sc_is_road (fun vs H Q E h => ?_) (fun cdv A outer s H vs Q E hg hr h => ?_)
  · obtain ⟨n, v, r, rfl, _⟩ := h
    rfl
  obtain ⟨n, v, r, rfl, hv, k⟩ := h
  refine ⟨_, (pss_cons (ps_if (PW.pt (pw_or (pt_not (pt_val (pe_callB call_isiA (by rfl) T.n_isinstance (by decide +kernel) (pa_cons (pv 1) (pa_cons (pe_bltn (v := .ty "tuple") (by rfl) T.n_tuple (by decide +kernel) rfl) pa_nil))))) (pw_or1 (pt_cmpR op_ne (pe_callB call_len_seq (by rfl) T.n_len (by decide +kernel) (pa_cons (pv 1) pa_nil)) pe_int (nomark _)))))
      (pss_one (ps_ret pe_bl))
      pss_nil)
    (pss_cons (ps_asg (pv 1) (pg_tup rfl (pgs_cons (pg_name (i := 2) sc_is_road.nd rfl (Or.inl rfl)) (pgs_cons (pg_name (i := 3) sc_is_road.nd rfl (Or.inl rfl)) pgs_nil))))
    (pss_one (ps_ret (pe_and (pe_cG (ok_is_int T) T.d_is_int.b takes0 hg (hr.mono (by decide)) T.d_is_int.m T.d_is_int.F.kp (pa_cons (pv 2) pa_nil)) (pe_and (pe_cG (ok_is_int T) T.d_is_int.b takes0 hg (hr.mono (by decide)) T.d_is_int.m T.d_is_int.F.kp (pa_cons (pv 3) pa_nil)) (pe_one (pe_chain3 op_le op_lt op_lt pe_int (pv 2) (pv 3) (pv 0))))))))), ?_⟩
  walk_at "rx"
  cases r with
  | none =>
    cases (show v = .non from hv)
    refine r_isiD .non (kit_tuple _) ?_
    simp only [isT]
    walk_at "rx"
    exact k
  | some r =>
    obtain ⟨x, y⟩ := r
    obtain ⟨a, rfl, ha⟩ := (show ∃ a : Addr, v = .ref a ∧ H a = some (.tup [.int (x : Int), .int (y : Int)]) from hv)
    refine r_isiD (.tup ha (.cons (.int _) (.cons (.int _) .nil))) (kit_tuple _) ?_
    simp only [isT]
    walk_at "rx"
    refine ⟨_, .inr (.of ha), rfl, ?_⟩
    rw [if_neg (by simp)]
    refine ⟨a, _, rfl, .of ha, rfl, ?_⟩
    walk_at "rx"
    refine ⟨_, _, rfl, .int _, true, rfl, ?_⟩
    rw [if_pos rfl]
    refine ⟨_, _, rfl, .int _, true, rfl, ?_⟩
    rw [if_pos rfl, e_chain3]
    walk_at "rx"
    rw [if_pos (by omega)]
    simp only [roadB] at k
    by_cases q : x < y
    · rw [if_pos (by omega)]
      rw [decide_eq_true q, Bool.true_and] at k
      have e : decide ((y : Int) < (n : Int)) = decide (y < n) := by
        congr 1
        exact propext (by omega)
      rw [e]
      exact k
    · rw [if_neg (by omega)]
      rw [decide_eq_false q, Bool.false_and] at k
      exact k
end
/-! a row of roads -/
def RdsV (H : Hp) : List V → List (Option Rd) → Prop := Paired (fun v r => RdV H v r)
def lexB (a b : Rd) : Bool := decide (a.1 < b.1) || (decide (a.1 = b.1) && decide (a.2 < b.2))
def ascB : List Rd → Bool
  | a :: b :: r => lexB a b && ascB (b :: r)
  | _ => true
def areB (n : Nat) (rs : List (Option Rd)) : Bool := decide (rs.length + 1 = n) && (rs.all (roadB n) && ascB (rs.filterMap id))
theorem somes {n : Nat} : ∀ {rs : List (Option Rd)}, rs.all (roadB n) = true → ∃ ps : List Rd, rs = ps.map some
  | [], _ => ⟨[], rfl⟩
  | none :: r, h => by simp [roadB] at h
  | some p :: r, h => by
    rw [List.all_cons, Bool.and_eq_true] at h
    obtain ⟨ps, e⟩ := somes h.2
    exact ⟨p :: ps, by rw [e]; rfl⟩
theorem lex_two {u1 u2 w1 w2 : Nat} : HT.lexLt [(u1 : Int), (u2 : Int)] [(w1 : Int), (w2 : Int)] = lexB (u1, u2) (w1, w2) := by
  unfold lexB
  simp only [HT.lexLt_cons, HT.lexLt_nil_nil]
  by_cases h : u1 = w1
  · subst h
    by_cases g : u2 = w2
    · subst g
      simp
    · have : ¬ ((u2 : Int) = (w2 : Int)) := by omega
      simp [this]
  · have : ¬ ((u1 : Int) = (w1 : Int)) := by omega
    simp [this, h]
theorem asc_zip : ∀ ps : List Rd, (ps.zip ps.tail).all (fun x => lexB x.1 x.2) = ascB ps
  | [] => rfl
  | [_] => rfl
  | a :: b :: r => by
    have ih := asc_zip (b :: r)
    simp only [List.tail_cons, List.zip_cons_cons, List.all_cons, ascB] at ih ⊢
    rw [← ih]
def spAre : Sp := fun vs H Q _ => ∃ (n : Nat) (a : Addr) (xs : List V) (rs : List (Option Rd)), vs = [.int (n : Int), .ref a] ∧ 1 ≤ n ∧ H a = some (.lst xs) ∧ RdsV H xs rs ∧ xs.length ≤ 100000 ∧ ∀ H', Same H H' → Q (.bl (areB n rs)) H'
section
variable {P : Program} {w : World} {K : PySem.W.Frag} {mg : Str → Option Value} {base : Heap}
theorem ok_are_roads (T : Tx K mg w.params) : FnG P w K mg base 3 T.d_are_roads.f T.d_are_roads.fd ["houses", "roads"] spAre := by
  refine okG0 T.d_are_roads.F sc_are_roads (fun vs H Q E h => ?_) (fun cdv A outer s H vs Q E hg hr h => ?_)
  · obtain ⟨n, a, xs, rs, rfl, _⟩ := h
    rfl
  obtain ⟨n, a, xs, rs, rfl, hn1, ha, hx, hz, k⟩ := h
  have sz : sizeLine = 16777216 := sizeLine_eq
  refine ⟨_, (pss_cons (ps_if (PW.pt (pw_or (pt_not (pt_val (pe_cG (ok_is_list T) T.d_is_list.b takes0 hg (hr.mono (by decide)) T.d_is_list.m T.d_is_list.F.kp (pa_cons (pv 1) pa_nil)))) (pw_or1 (pt_cmpR op_ne (pe_callB call_len_seq (by rfl) T.n_len (by decide +kernel) (pa_cons (pv 1) pa_nil)) (pe_op op_sub (pv 0) pe_int) (nomark _)))))
      (pss_one (ps_ret pe_bl))
      pss_nil)
    (pss_cons (ps_if (pt_not (pt_val (pe_callB (cr_all rfl) (by rfl) T.n_all (by decide +kernel) (pa_cons (pe_lc (own := [("road", 2)]) (g := gName 2) (tt := tYes) rfl sc_are_roads.nd (pi_list (pv 1)) (blkOk_by (N := ["houses", "roads", "road", "later"]) (sc := defScope s_are_roads) (by decide +kernel)) (fun _ _ _ _ _ => pg_name (i := 2) sc_are_roads.nd rfl (Or.inl rfl)) (fun _ _ _ _ _ => pts_nil) (fun _ _ _ _ _ => (pe_cG (ok_is_road T) T.d_is_road.b takes0 hg (hr.mono (by decide)) T.d_is_road.m T.d_is_road.F.kp (pa_cons (pv 0) (pa_cons (pv 2) pa_nil))))) pa_nil))))
      (pss_one (ps_ret pe_bl))
      pss_nil)
    (pss_one (ps_ret (pe_callB (cr_all rfl) (by rfl) T.n_all (by decide +kernel) (pa_cons (pe_lc (own := [("road", 2), ("later", 3)]) (g := (gTup K 2 (gCons (gName 2) (gCons (gName 3) gNil)))) (tt := tYes) rfl sc_are_roads.nd (pi_zip (by rfl) T.n_zip (pa_cons (pv 1) (pa_cons (pe_slice sl_list (pv 1) (po_some pe_int) po_none) pa_nil))) (blkOk_by (N := ["houses", "roads", "road", "later"]) (sc := defScope s_are_roads) (by decide +kernel)) (fun _ _ _ _ _ => (pg_tup rfl (pgs_cons (pg_name (i := 2) sc_are_roads.nd rfl (Or.inl rfl)) (pgs_cons (pg_name (i := 3) sc_are_roads.nd rfl (Or.inl rfl)) pgs_nil)))) (fun _ _ _ _ _ => pts_nil) (fun _ _ _ _ _ => (pe_cmpR (op_ltTK (K := K) rfl (units1 hr.units)) (pv 2) (pv 3) (nomark _)))) pa_nil)))))), ?_⟩
  walk_at "rx"
  refine ⟨.ref a, .lst, rfl, .lst ha, fun H1 S1 => ⟨true, rfl, ?_⟩⟩
  walk_at "rx"
  refine ⟨xs, .inl (.of (S1 _ _ ha)), rfl, ?_⟩
  have lx : xs.length = rs.length := hx.length
  by_cases c : rs.length + 1 = n
  · rw [if_neg (by
      rw [lx]
      simp
      omega)]
    have fa := S1 _ _ ha
    have hx1 : RdsV H1 xs rs := paired_same (fun _ _ h => h.mono S1) hx
    refine ⟨_, rfl, a, rfl, ⟨_, .of fa⟩, fun D hD => ?_⟩
    refine lc_flat walk_list (rs.map fun r => V.bl (roadB n r)) hD (by rw [List.length_map, lx]) (by omega) (fun H' S => .of (S _ _ fa)) ?_ ?_
    · rintro i x y Ha Hb R hy S ⟨rfl, hxi⟩ kR
      rw [List.getElem?_map] at hy
      cases hr : rs[i]? with
      | none =>
        rw [hr] at hy
        cases hy
      | some r =>
        rw [hr] at hy
        cases hy
        obtain ⟨x', hx', rv⟩ := paired_at hx1 i r hr
        rw [hxi] at hx'
        cases hx'
        refine ⟨rfl, ?_⟩
        walk_at "rx"
        exact ⟨n, x, r, rfl, rv.mono S, kR _ (Same.refl _)⟩
    · intro H2 S2 fD
      refine ⟨D, rs.map (roadB n), rfl, .of (by rw [fD, List.map_map]; rfl), _, rfl, ?_⟩
      have eall : (rs.map (roadB n)).all id = rs.all (roadB n) := by
        rw [List.all_map]
        rfl
      rw [eall]
      cases call : rs.all (roadB n) with
      | false =>
        rw [if_pos rfl]
        have := k H2 (S1.trans S2)
        unfold areB at this
        rw [call, Bool.false_and, Bool.and_false] at this
        exact this
      | true =>
        rw [if_neg (by decide)]
        obtain ⟨ps, rfl⟩ := somes call
        have fa2 := S2 _ _ fa
        have hx2 : RdsV H2 xs (ps.map some) := paired_same (fun _ _ h => h.mono S2) hx1
        have cut : cutV xs (some 1) none = xs.tail := by
          cases xs with
          | nil => rfl
          | cons _ _ => exact cutV_tail
        refine ⟨_, rfl, _, rfl, 1, rfl, a, xs, rfl, .of fa2, fun q hq => ?_⟩
        rw [cut]
        obtain ⟨H3, eh, S3, f3⟩ := gen_new (.lst xs.tail) hq
        rw [eh]
        clear eh
        refine ⟨a, q, xs, xs.tail, rfl, .of (S3 _ _ fa2), .of f3, fun D2 hD2 => ?_⟩
        have hx3 : RdsV H3 xs (ps.map some) := paired_same (fun _ _ h => h.mono S3) hx2
        have lps : xs.length = ps.length := by
          rw [lx, List.length_map]
        refine lc_flat (walk_zip rfl) ((ps.zip ps.tail).map fun x => V.bl (lexB x.1 x.2)) hD2 (by simp [lps]) (by omega) (fun H' S => ⟨.of (S _ _ (S3 _ _ fa2)), .of (S _ _ f3)⟩) ?_ ?_
        · rintro i x y Ha Hb R hy S ⟨t, x1, x2, rfl, ht, rfl, h1, h2⟩ kR
          rw [List.getElem?_map] at hy
          cases hp : (ps.zip ps.tail)[i]? with
          | none =>
            rw [hp] at hy
            cases hy
          | some pq =>
            rw [hp] at hy
            cases hy
            obtain ⟨p, p'⟩ := pq
            obtain ⟨hp1, hp2⟩ := List.getElem?_zip_eq_some.mp hp
            obtain ⟨z1, hz1, r1⟩ := paired_at hx3 i (some p) (by rw [List.getElem?_map, hp1]; rfl)
            obtain ⟨z2, hz2, r2⟩ := paired_at hx3 (i + 1) (some p') (by
              rw [List.getElem?_tail] at hp2
              rw [List.getElem?_map, hp2]
              rfl)
            have h1 : xs[i]? = some x1 := h1
            have h2 : xs.tail[i]? = some x2 := h2
            rw [h1] at hz1
            cases hz1
            rw [List.getElem?_tail] at h2
            rw [h2] at hz2
            cases hz2
            obtain ⟨u1, u2⟩ := p
            obtain ⟨w1, w2⟩ := p'
            have r1 := (r1.mono S).mono (Same.new (o := .tup [x1, x2]) ht)
            have r2 := (r2.mono S).mono (Same.new (o := .tup [x1, x2]) ht)
            obtain ⟨a1, rfl, g1⟩ := r1
            obtain ⟨a2, rfl, g2⟩ := r2
            refine ⟨t, _, rfl, .of upd_same, rfl, ?_⟩
            walk_at "rx"
            refine ⟨a1, a2, [(u1 : Int), (u2 : Int)], [(w1 : Int), (w2 : Int)], rfl, rfl, .of g1, .of g2, ?_⟩
            rw [lex_two]
            exact kR _ (Same.new ht)
        · intro H4 S4 f4
          refine ⟨D2, (ps.zip ps.tail).map fun x => lexB x.1 x.2, rfl, .of (by rw [f4, List.map_map]; rfl), ?_⟩
          have := k H4 (S1.trans (S2.trans (S3.trans S4)))
          unfold areB at this
          rw [decide_eq_true c, call, Bool.true_and, Bool.true_and, List.filterMap_map] at this
          have e : ((ps.zip ps.tail).map fun x => lexB x.1 x.2).all id = ascB ps := by
            rw [List.all_map, ← asc_zip]
            rfl
          rw [e]
          have e2 : ps.filterMap (id ∘ some) = ps := by
            have : (id ∘ some : Rd → Option Rd) = some := rfl
            rw [this, List.filterMap_some]
          rw [e2] at this
          exact this
  · rw [if_pos (by
      rw [lx]
      simp
      omega)]
    have := k H1 S1
    unfold areB at this
    rw [decide_eq_false c, Bool.false_and] at this
    exact this
end
end K32



namespace K32
open PySem L2 Nv Gr

/-- a house's neighbours, as the roads name them -/
def nb1 (ps : List Rd) (u : Nat) : List Nat := ps.filterMap fun x => if x.2 = u then some x.1 else none
def nb2 (ps : List Rd) (u : Nat) : List Nat := ps.filterMap fun x => if x.1 = u then some x.2 else none
def nbL (ps : List Rd) (u : Nat) : List Nat := nb1 ps u ++ nb2 ps u
theorem nbL_iff {ps : List Rd} {u v : Nat} : v ∈ nbL ps u ↔ Nbr ps u v := by
  unfold nbL nb1 nb2 Nbr
  rw [List.mem_append, List.mem_filterMap, List.mem_filterMap]
  constructor
  · rintro (⟨x, hx, e⟩ | ⟨x, hx, e⟩)
    · split at e
      · rename_i q
        cases e
        exact .inr (by rw [← q]; exact hx)
      · cases e
    · split at e
      · rename_i q
        cases e
        exact .inl (by rw [← q]; exact hx)
      · cases e
  · rintro (h | h)
    · exact .inr ⟨(u, v), h, by simp⟩
    · exact .inl ⟨(v, u), h, by simp⟩
def intL (l : List Nat) : List V := l.map fun (x : Nat) => V.int (x : Int)
/-- the lists of neighbours, at as -/
def NearAt (H : Hp) (l : Addr) (n : Nat) (ps : List Rd) : Prop := ∃ bs : List Addr, H l = some (.lst (bs.map V.ref)) ∧ bs.length = n ∧
  ∀ (u : Nat) (b : Addr), bs[u]? = some b → ∃ ns : List Nat, H b = some (.lst (intL ns)) ∧ ns.Perm (nbL ps u) ∧ ns.Pairwise (· ≤ ·)
theorem NearAt.mono {H H' : Hp} {l : Addr} {n : Nat} {ps : List Rd} (S : Same H H') (h : NearAt H l n ps) : NearAt H' l n ps := by
  obtain ⟨bs, h1, h2, h3⟩ := h
  refine ⟨bs, S _ _ h1, h2, fun u b hb => ?_⟩
  obtain ⟨ns, a, r⟩ := h3 u b hb
  exact ⟨ns, S _ _ a, r⟩
theorem nb1_snoc (l : List Rd) (p q u : Nat) : nb1 (l ++ [(p, q)]) u = nb1 l u ++ if q = u then [p] else [] := by
  unfold nb1
  rw [List.filterMap_append]
  by_cases h : q = u <;> simp [h]
theorem nb2_snoc (l : List Rd) (p q u : Nat) : nb2 (l ++ [(p, q)]) u = nb2 l u ++ if p = u then [q] else [] := by
  unfold nb2
  rw [List.filterMap_append]
  by_cases h : p = u <;> simp [h]
theorem nbL_snoc (l : List Rd) (p q u : Nat) : ((nbL l u ++ if p = u then [q] else []) ++ if q = u then [p] else []).Perm (nbL (l ++ [(p, q)]) u) := by
  unfold nbL
  rw [nb1_snoc, nb2_snoc, List.append_assoc, List.append_assoc, List.append_assoc]
  refine .append_left _ ?_
  rw [← List.append_assoc]
  exact List.perm_append_comm
/-- lists of houses, at bs -/
def Lsts (H : Hp) (bs : List Addr) (f : Nat → List Nat) : Prop := ∀ (u : Nat) (b : Addr), bs[u]? = some b → ∃ ns : List Nat, H b = some (.lst (intL ns)) ∧ ns.Perm (f u)
theorem Lsts.app {H : Hp} {bs : List Addr} {f : Nat → List Nat} {p q : Nat} {b : Addr} {ns : List Nat} (nd : bs.Nodup) (L : Lsts H bs f) (hb : bs[p]? = some b) (e : H b = some (.lst (intL ns))) :
    Lsts (upd H b (.lst (intL ns ++ [V.int (q : Int)]))) bs (fun u => f u ++ if p = u then [q] else []) := by
  intro u c hc
  by_cases h : p = u
  · subst h
    rw [hb] at hc
    cases hc
    obtain ⟨ns', e', pm⟩ := L p b hb
    rw [e] at e'
    have : intL ns = intL ns' := by
      injection e' with e'
      injection e' with e'
    have inj : ns = ns' := by
      unfold intL at this
      refine (List.map_inj_right (f := fun (x : Nat) => V.int (x : Int)) ?_).mp this
      intro x y h
      injection h with h
      exact Int.ofNat_inj.mp h
    subst inj
    refine ⟨ns ++ [q], ?_, ?_⟩
    · rw [upd_same]
      unfold intL
      rw [List.map_append]
      rfl
    · show (ns ++ [q]).Perm (f p ++ if p = p then [q] else [])
      rw [if_pos rfl]
      exact pm.append_right _
  · have cb : c ≠ b := by
      intro e2
      subst e2
      obtain ⟨l1, g1⟩ := List.getElem?_eq_some_iff.mp hb
      obtain ⟨l2, g2⟩ := List.getElem?_eq_some_iff.mp hc
      exact h ((List.getElem_inj nd).mp (g1.trans g2.symm))
    obtain ⟨ns', e', pm⟩ := L u c hc
    refine ⟨ns', by rw [upd_ne cb]; exact e', ?_⟩
    show ns'.Perm (f u ++ if p = u then [q] else [])
    rw [if_neg h, List.append_nil]
    exact pm
/-- sorted ints that were houses -/
theorem ints_back {ns : List Nat} {zs : List Int} (h : zs.Perm (ns.map fun (x : Nat) => (x : Int))) (s : zs.Pairwise (· ≤ ·)) : ∃ ms : List Nat, zs.map V.int = intL ms ∧ ms.Perm ns ∧ ms.Pairwise (· ≤ ·) := by
  have nn : ∀ z ∈ zs, 0 ≤ z := by
    intro z hz
    obtain ⟨x, _, rfl⟩ := List.mem_map.mp (h.mem_iff.mp hz)
    omega
  refine ⟨zs.map Int.toNat, ?_, ?_, ?_⟩
  · unfold intL
    rw [List.map_map]
    refine List.map_congr_left fun z hz => ?_
    show V.int z = V.int ((z.toNat : Nat) : Int)
    rw [Int.toNat_of_nonneg (nn z hz)]
  · have := h.map Int.toNat
    rw [List.map_map] at this
    have e : (Int.toNat ∘ fun (x : Nat) => (x : Int)) = id := by
      funext x
      rfl
    rw [e, List.map_id] at this
    exact this
  · rw [List.pairwise_map]
    exact s.imp fun h => Int.toNat_le_toNat h
/-- the lists that a list names are new -/
def NewB (H H' : Hp) (l : Addr) : Prop := ∀ bs : List Addr, H' l = some (.lst (bs.map V.ref)) → ∀ b ∈ bs, H b = none
theorem refs_inj {bs cs : List Addr} (h : bs.map V.ref = cs.map V.ref) : bs = cs := (List.map_inj_right (f := V.ref) (fun _ _ e => by injection e)).mp h
def spNear : Sp := fun vs H Q _ => ∃ (n : Nat) (a : Addr) (xs : List V) (ps : List Rd), vs = [.int (n : Int), .ref a] ∧ n ≤ 100 ∧ H a = some (.lst xs) ∧ RdsV H xs (ps.map some) ∧ xs.length ≤ 100000 ∧ (∀ p ∈ ps, p.1 < n ∧ p.2 < n) ∧ ∀ l H', Same H H' → NearAt H' l n ps → NewB H H' l → Q (.ref l) H'
section
variable {P : Program} {w : World} {K : PySem.W.Frag} {mg : Str → Option Value} {base : Heap}
theorem ok_near (T : Tx K mg w.params) : FnG P w K mg base 1 T.d_near.f T.d_near.fd ["houses", "roads"] spNear := by
  refine okG0 T.d_near.F sc_near (fun vs H Q E h => ?_) (fun cdv A outer s H vs Q E hg hr h => ?_)
  · obtain ⟨n, a, xs, ps, rfl, _⟩ := h
    rfl
  obtain ⟨n, a, xs, ps, rfl, hn, ha, hx', hz, inb, k⟩ := h
  have sz : sizeLine = 16777216 := sizeLine_eq
  refine ⟨_, (pss_cons (ps_setLc (i := 2) (own := [("house", 3)]) (g := gName 3) (tt := tYes) rfl sc_near.nd rfl rfl (sw_true rfl rfl rfl (by decide +kernel)) (pi_range1 (by rfl) T.n_range (pa_cons (pv 0) pa_nil)) (blkOk_by (N := ["houses", "roads", "near", "house", "u", "v", "found"]) (sc := defScope s_near) (by decide +kernel)) (fun _ _ _ _ _ => pg_name (i := 3) sc_near.nd rfl (Or.inl rfl)) (fun _ _ _ _ _ => pts_nil) (fun _ _ _ _ _ => (pe_lst1 pa_nil)))
    (pss_cons (ps_for PassesOwn.never rfl (pi_list (pv 1)) (pg_tup rfl (pgs_cons (pg_name (i := 4) sc_near.nd rfl (Or.inl rfl)) (pgs_cons (pg_name (i := 5) sc_near.nd rfl (Or.inl rfl)) pgs_nil)))
      (pss_cons (ps_expr (pe_bm PySem.F.plainAttrs_list PySem.F.slot_list_append PySem.F.type_list_append mt_append (pe_ix ix_list (pv 2) (pv 4) (fun _ _ => rfl)) (pa_cons (pv 5) pa_nil)))
      (pss_one (ps_expr (pe_bm PySem.F.plainAttrs_list PySem.F.slot_list_append PySem.F.type_list_append mt_append (pe_ix ix_list (pv 2) (pv 5) (fun _ _ => rfl)) (pa_cons (pv 4) pa_nil))))))
    (pss_one (ps_ret (pe_lc (own := [("found", 6)]) (g := gName 6) (tt := tYes) rfl sc_near.nd (pi_list (pv 2)) (blkOk_by (N := ["houses", "roads", "near", "house", "u", "v", "found"]) (sc := defScope s_near) (by decide +kernel)) (fun _ _ _ _ _ => pg_name (i := 6) sc_near.nd rfl (Or.inl rfl)) (fun _ _ _ _ _ => pts_nil) (fun _ _ _ _ _ => (pe_callB (cr_sortedIK (K := K) rfl) (by rfl) T.n_sorted (by decide +kernel) (pa_cons (pv 6) pa_nil)))))))), ?_⟩
  walk_at "rx"
  refine ⟨_, rfl, (n : Int), rfl, by omega, by omega, fun D hD => ?_⟩
  refine lc_ref walk_range (fun _ o => o = .lst []) hD (by rw [Int.toNat_natCast]; omega) (fun _ _ => trivial) ?_ ?_
  · rintro i x Ha Hb R hi S ⟨rfl, rfl⟩ kR
    refine ⟨rfl, ?_⟩
    rw [e_lst1]
    refine ⟨Nat.zero_le _, fun b hb _ => kR b _ _ (Same.new hb) hb upd_same rfl⟩
  · intro bs H1 lb nd off pv S1 fD
    rw [Int.toNat_natCast] at lb
    have fa := S1 _ _ ha
    have Da : D ≠ a := fun e => by
      rw [e, ha] at hD
      cases hD
    refine ⟨_, rfl, a, rfl, ⟨_, .of fa⟩, ?_⟩
    refine for_list (K := K) (a := a) (xs := xs) (fun i σ H' => ∃ y3 y4 y5 y6, σ = [some (.int (n : Int)), some (.ref a), some (.ref D), y3, y4, y5, y6] ∧ Same H H' ∧ H' D = some (.lst (bs.map V.ref)) ∧ Lsts H' bs (nbL (ps.take i)))
      ⟨_, _, _, _, rfl, S1, fD, ?_⟩ (fun i σ H' _ ⟨_, _, _, _, _, S, _⟩ => .of (S _ _ ha)) ?_ ?_
    · intro u b hb
      obtain ⟨o, ho, rfl⟩ := pv u b hb
      exact ⟨[], ho, by simp [nbL, nb1, nb2]⟩
    · rintro i x σ H2 hx ⟨y3, y4, y5, y6, rfl, S2, f2, L⟩
      have hi : i < ps.length := by
        have := (List.getElem?_eq_some_iff.mp hx).1
        have l2 := hx'.length
        rw [List.length_map] at l2
        omega
      obtain ⟨x', hx2, rv⟩ := paired_at hx' i (some ps[i]) (by rw [List.getElem?_map, List.getElem?_eq_getElem hi]; rfl)
      rw [hx] at hx2
      cases hx2
      obtain ⟨hp, hq⟩ := inb ps[i] (List.getElem_mem hi)
      generalize he : ps[i] = r at hp hq rv
      obtain ⟨p, q⟩ := r
      obtain ⟨t, rfl, gt⟩ := rv
      have tk : ps.take (i + 1) = ps.take i ++ [(p, q)] := by rw [← he, List.take_succ_eq_append_getElem hi]
      refine ⟨t, _, rfl, .of (S2 _ _ gt), rfl, ?_⟩
      walk_at "rx"
      have hpb : p < bs.length := by omega
      have hqb : q < bs.length := by omega
      have lz : ∀ (u : Nat) (ns : List Nat) (l : List Rd), ns.Perm (nbL l u) → l.length ≤ 100000 → ns.length ≤ 200000 := by
        intro u ns l pm hl
        have h1 := pm.length_eq
        have h2 : (nb1 l u).length ≤ l.length := List.length_filterMap_le ..
        have h3 : (nb2 l u).length ≤ l.length := List.length_filterMap_le ..
        unfold nbL at h1
        rw [List.length_append] at h1
        omega
      have lps : xs.length = ps.length := by
        rw [hx'.length, List.length_map]
      have lt0 : (ps.take i).length ≤ 99999 := by
        rw [List.length_take]
        omega
      have off1 := off bs[p] (List.getElem_mem hpb)
      have off2 := off bs[q] (List.getElem_mem hqb)
      obtain ⟨ns1, e1, pm1⟩ := L p bs[p] (List.getElem?_eq_getElem hpb)
      have L1 := L.app (q := q) nd (List.getElem?_eq_getElem hpb) e1
      obtain ⟨ns2, e2, pm2⟩ := L1 q bs[q] (List.getElem?_eq_getElem hqb)
      have L2 := L1.app (q := p) nd (List.getElem?_eq_getElem hqb) e2
      have S3 : Same H (upd H2 bs[p] (.lst (intL ns1 ++ [V.int (q : Int)]))) := fun c u hc => by
        rw [upd_ne (ne_of_none hc off1.1)]
        exact S2 _ _ hc
      have S4 : Same H (upd (upd H2 bs[p] (.lst (intL ns1 ++ [V.int (q : Int)]))) bs[q] (.lst (intL ns2 ++ [V.int (p : Int)]))) := fun c u hc => by
        rw [upd_ne (ne_of_none hc off2.1)]
        exact S3 _ _ hc
      have f3 : upd H2 bs[p] (.lst (intL ns1 ++ [V.int (q : Int)])) D = some (.lst (bs.map V.ref)) := by
        rw [upd_ne (Ne.symm off1.2)]
        exact f2
      have f4 : upd (upd H2 bs[p] (.lst (intL ns1 ++ [V.int (q : Int)]))) bs[q] (.lst (intL ns2 ++ [V.int (p : Int)])) D = some (.lst (bs.map V.ref)) := by
        rw [upd_ne (Ne.symm off2.2)]
        exact f3
      have at1 : atI (bs.map V.ref) (p : Int) = some (V.ref bs[p]) := by
        refine atI_nat ?_
        rw [List.getElem?_map, List.getElem?_eq_getElem hpb]
        rfl
      have at2 : atI (bs.map V.ref) (q : Int) = some (V.ref bs[q]) := by
        refine atI_nat ?_
        rw [List.getElem?_map, List.getElem?_eq_getElem hqb]
        rfl
      have z1 := lz p ns1 _ pm1 (by omega)
      have z2 : ns2.length ≤ 200001 := by
        have h1 := pm2.length_eq
        have h2 := lz q (nbL (ps.take i) q) _ (.refl _) (by omega)
        rw [List.length_append] at h1
        split at h1 <;> simp at h1 <;> omega
      have iz : ∀ l : List Nat, (intL l).length = l.length := fun l => by
        unfold intL
        rw [List.length_map]
      refine ⟨D, _, (p : Int), _, rfl, rfl, .of f2, at1, .inl ⟨rfl, _, .of e1⟩, bs[p], _, _, rfl, rfl, e1, by rw [iz]; omega, ?_⟩
      refine ⟨D, _, (q : Int), _, rfl, rfl, .of f3, at2, .inl ⟨rfl, _, .of e2⟩, bs[q], _, _, rfl, rfl, e2, by rw [iz]; omega, ?_⟩
      refine ⟨⟨_, rfl⟩, S4, f4, fun u b hb => ?_⟩
      obtain ⟨ns, e, pm⟩ := L2 u b hb
      refine ⟨ns, e, pm.trans ?_⟩
      rw [tk]
      exact nbL_snoc _ _ _ _
    · rintro σ H2 ⟨y3, y4, y5, y6, rfl, S2, f2, L⟩
      refine ⟨_, rfl, D, rfl, ⟨_, .of f2⟩, fun D2 hD2 => ?_⟩
      refine lc_ref walk_list (fun u o => ∃ ms : List Nat, o = .lst (intL ms) ∧ ms.Perm (nbL ps u) ∧ ms.Pairwise (· ≤ ·)) hD2 (by rw [List.length_map]; omega) (fun H' S => .of (S _ _ f2)) ?_ ?_
      · rintro i x Ha Hb R hi S ⟨rfl, hx⟩ kR
        refine ⟨rfl, ?_⟩
        walk_at "rx"
        rw [List.getElem?_map] at hx
        cases hb : bs[i]? with
        | none =>
          rw [hb] at hx
          cases hx
        | some b =>
          rw [hb] at hx
          cases hx
          obtain ⟨ns, e, pm⟩ := L i b hb
          have lps : xs.length = ps.length := by
            rw [hx'.length, List.length_map]
          rw [lps, List.take_length] at pm
          refine ⟨b, ns.map fun (x : Nat) => (x : Int), rfl, .of (by rw [S _ _ e, List.map_map]; rfl), fun zs c pz sz hc => ?_⟩
          obtain ⟨ms, em, p1, p2⟩ := ints_back pz sz
          rw [em]
          exact kR c _ _ (Same.new hc) hc upd_same ⟨ms, rfl, p1.trans pm, p2⟩
      · intro cs H3 lc nc oc pc S3 f3
        refine k _ _ (S2.trans S3) ⟨cs, f3, ?_, ?_⟩ fun es he b hb => ?_
        rotate_left
        rotate_left
        · rw [f3] at he
          injection he with he
          injection he with he
          rw [← refs_inj he] at hb
          exact fresh_of S2 (oc b hb).1
        · rw [lc, List.length_map, lb]
        · intro u b hb
          obtain ⟨o, ho, ms, rfl, r⟩ := pc u b hb
          exact ⟨ms, ho, r⟩
end
end K32



namespace K32
open PySem L2 Nv Gr

/-- what a dict of houses holds -/
def dOf (l : List Rd) : List (Key × V) := l.map fun x => (.inl (x.1 : Int), V.int (x.2 : Int))
theorem dOf_some (h : Nat) : ∀ l : List Rd, (valV (dOf l) (.inl (h : Int))).isSome = decide (h ∈ l.map (·.1)) := by
  intro l
  rw [← valV_any]
  induction l with
  | nil => rfl
  | cons x r ih =>
    show (decide ((Sum.inl (x.1 : Int) : Key) = .inl (h : Int)) || (dOf r).any fun kv => decide (kv.1 = .inl (h : Int))) = decide (h ∈ x.1 :: r.map (·.1))
    rw [ih]
    by_cases e : x.1 = h
    · subst e
      simp
    · have e1 : ¬ ((Sum.inl (x.1 : Int) : Key) = .inl (h : Int)) := fun q => e (by
        injection q with q
        exact Int.ofNat_inj.mp q)
      have e2 : ¬ h = x.1 := fun q => e q.symm
      rw [decide_eq_false e1, Bool.false_or]
      simp [e2]
theorem dOf_none {h : Nat} {l : List Rd} (n : h ∉ l.map (·.1)) : valV (dOf l) (.inl (h : Int)) = none := by
  have := dOf_some h l
  rw [decide_eq_false n] at this
  cases q : valV (dOf l) (.inl (h : Int)) with
  | none => rfl
  | some v =>
    rw [q] at this
    cases this
theorem dOf_snoc (l : List Rd) (h p : Nat) (n : h ∉ l.map (·.1)) : putK (dOf l) (.inl (h : Int)) (V.int (p : Int)) = dOf (l ++ [(h, p)]) := by
  rw [putK_new _ (dOf_none n)]
  unfold dOf
  rw [List.map_append]
  rfl
/-- where the search stands: the houses found, those to be looked at -/
structure Mid (ps : List Rd) (n g : Nat) (l : List Rd) (rs : List Nat) (here : Option Nat) : Prop where
  st : St ps n g l
  nd : rs.Nodup
  sub : ∀ x ∈ rs, x ∈ l.map (·.1)
  done : ∀ h ∈ l.map (·.1), h ∉ rs → some h ≠ here → ∀ x, Nbr ps h x → x ∈ l.map (·.1)
theorem Mid.len {ps : List Rd} {n g : Nat} {l : List Rd} {rs : List Nat} {here : Option Nat} (m : Mid ps n g l rs here) : rs.length ≤ n :=
  nodup_len n rs m.nd fun x hx => by
    obtain ⟨y, hy, rfl⟩ := List.mem_map.mp (m.sub x hx)
    exact m.st.lt y hy
theorem Mid.add {ps : List Rd} {n g h u : Nat} {l : List Rd} {rs : List Nat} (m : Mid ps n g l rs (some u)) (hu : u ∈ l.map (·.1)) (nb : Nbr ps u h) (nh : h ∉ l.map (·.1)) (lt : h < n) : Mid ps n g (l ++ [(h, u)]) (rs ++ [h]) (some u) := by
  refine ⟨m.st.add hu nb nh lt, ?_, ?_, ?_⟩
  · rw [List.nodup_append]
    refine ⟨m.nd, by simp, ?_⟩
    intro a ha b hb e
    simp at hb
    subst hb
    subst e
    exact nh (m.sub _ ha)
  · intro x hx
    rw [List.map_append, List.mem_append]
    rcases List.mem_append.mp hx with hx | hx
    · exact .inl (m.sub x hx)
    · simp at hx
      subst hx
      exact .inr (by simp)
  · intro x hx nx ne y hy
    rw [List.map_append, List.mem_append] at hx ⊢
    rcases hx with hx | hx
    · exact .inl (m.done x hx (fun q => nx (List.mem_append_left _ q)) ne y hy)
    · simp at hx
      subst hx
      exact absurd (by simp) nx
def spSteps : Sp := fun vs H Q _ => ∃ (n : Nat) (a : Addr) (ps : List Rd) (g : Nat), vs = [.ref a, .int (g : Int)] ∧ n ≤ 100 ∧ NearAt H a n ps ∧ (∀ p ∈ ps, p.1 < n ∧ p.2 < n) ∧ g < n ∧
  ∀ (l : List Rd) (d : Addr) (H' : Hp), Same H H' → H d = none → StA ps n g l → H' d = some (.dK (dOf l)) → Q (.ref d) H'
section
variable {P : Program} {w : World} {K : PySem.W.Frag} {mg : Str → Option Value} {base : Heap}
theorem ok_steps_to (T : Tx K mg w.params) : FnG P w K mg base 1 T.d_steps_to.f T.d_steps_to.fd ["near", "goal"] spSteps := by
  refine okG0 T.d_steps_to.F sc_steps_to (fun vs H Q E h => ?_) (fun cdv A outer s H vs Q E hg hr h => ?_)
  · obtain ⟨n, l, ps, g, rfl, _⟩ := h
    rfl
  obtain ⟨n, a, ps, g, rfl, hn, hN, inb, hgn, k⟩ := h
  have sz : sizeLine = 16777216 := sizeLine_eq
  obtain ⟨bs, fa, lb, each⟩ := id hN
  refine ⟨_, (pss_cons (ps_set (i := 2) sc_steps_to.nd rfl (Or.inl rfl) (pe_disp (pps_cons (pv 1) (pv 1) pps_nil) (by rfl) (by rfl) (fun z => by cases z) (by decide)))
    (pss_cons (ps_set (i := 3) sc_steps_to.nd rfl (Or.inl rfl) (pe_lst1 (pa_cons (pv 1) pa_nil)))
    (pss_cons (ps_while PassesOwn.never (pt_cmpR op_gt (pe_callB call_len_seq (by rfl) T.n_len (by decide +kernel) (pa_cons (pv 3) pa_nil)) pe_int (nomark _))
      (pss_cons (ps_set (i := 4) sc_steps_to.nd rfl (Or.inl rfl) (pe_bm0 PySem.F.plainAttrs_list PySem.F.slot_list_pop PySem.F.type_list_pop mt_pop (pv 3)))
      (pss_one (ps_for PassesOwn.never rfl (pi_list (pe_ix ix_list (pv 0) (pv 4) (fun _ _ => rfl))) (pg_name (i := 5) sc_steps_to.nd rfl (Or.inl rfl))
        (pss_one (ps_if (pt_cmpR (op_notInK (Nat.lt_of_le_of_lt (Nat.add_le_add_left (by decide) _) hr.units)) (pv 5) (pv 2) (by rfl))
          (pss_cons (ps_asg (pv 4) (pg_sub (pv 2) (pv 5) (set_dict (Nat.lt_of_le_of_lt (Nat.add_le_add_left (by decide) _) hr.units))))
          (pss_one (ps_expr (pe_bm PySem.F.plainAttrs_list PySem.F.slot_list_append PySem.F.type_list_append mt_append (pv 3) (pa_cons (pv 5) pa_nil)))))
          pss_nil))))))
    (pss_one (ps_ret (pv 2)))))), ?_⟩
  walk_at "rx"
  intro d hd
  refine ⟨[(.inl (g : Int), V.int (g : Int))], rfl, by simp, by omega, fun r hr _ => ?_⟩
  have rd : r ≠ d := fun e => by
    rw [e, upd_same] at hr
    cases hr
  have rH : H r = none := by
    rw [upd_ne rd] at hr
    exact hr
  refine ⟨fun m σ H' => ∃ (l : List Rd) (rs : List Nat) (y4 y5 : Option V), m = n - l.length + rs.length ∧ σ = [some (.ref a), some (.int (g : Int)), some (.ref d), some (.ref r), y4, y5] ∧ Same H H' ∧
      H' d = some (.dK (dOf l)) ∧ H' r = some (.lst (intL rs)) ∧ Mid ps n g l rs none, ⟨_, [(g, g)], [g], _, _, rfl, rfl, ?_, ?_, ?_, ?_⟩, ?_⟩
  · intro c u hc
    rw [upd_ne (ne_of_none hc rH), upd_ne (ne_of_none hc hd)]
    exact hc
  · rw [upd_ne (Ne.symm rd), upd_same]
    rfl
  · rw [upd_same]
    rfl
  · refine ⟨St.one hgn, by simp, by simp, ?_⟩
    intro h hh nh
    exact absurd hh nh
  · rintro m σ H1 ⟨l, rs, y4, y5, rfl, rfl, S1, fd, fr, md⟩
    walk_at "rx"
    refine ⟨intL rs, .inl (.of fr), ?_⟩
    have iz : ∀ l : List Nat, (intL l).length = l.length := fun l => by
      unfold intL
      rw [List.length_map]
    rcases List.eq_nil_or_concat rs with rfl | ⟨r0, u, rfl⟩
    · rw [if_neg (by simp [intL])]
      exact k l d H1 S1 hd ⟨md.st, fun h hh x hx => md.done h hh (by simp) (by simp) x hx⟩ fd
    · rw [List.concat_eq_append] at fr md ⊢
      rw [if_pos (by rw [iz, List.length_append]; simp)]
      have hu : u ∈ l.map (·.1) := md.sub u (by simp)
      have un : u < n := by
        obtain ⟨y, hy, rfl⟩ := List.mem_map.mp hu
        exact md.st.lt y hy
      have ub : u < bs.length := by omega
      obtain ⟨ms, fb, pm, _⟩ := each u bs[u] (List.getElem?_eq_getElem ub)
      have it : intL (r0 ++ [u]) = intL r0 ++ [V.int (u : Int)] := by
        unfold intL
        rw [List.map_append]
        rfl
      have nd := md.nd
      rw [List.nodup_append] at nd
      refine ⟨_, fun _ _ q => q, .inl ⟨rfl, _, .of fr⟩, r, intL (r0 ++ [u]), V.int (u : Int), rfl, rfl, fr, ?_, ?_⟩
      · rw [it, List.length_append]
        simp
      have S2 : Same H (upd H1 r (.lst (intL (r0 ++ [u])).dropLast)) := fun c o hc => by
        rw [upd_ne (ne_of_none hc rH)]
        exact S1 _ _ hc
      have fr2 : upd H1 r (.lst (intL (r0 ++ [u])).dropLast) r = some (.lst (intL r0)) := by
        rw [upd_same, it, List.dropLast_concat]
      have fd2 : upd H1 r (.lst (intL (r0 ++ [u])).dropLast) d = some (.dK (dOf l)) := by
        rw [upd_ne (Ne.symm rd)]
        exact fd
      generalize upd H1 r (.lst (intL (r0 ++ [u])).dropLast) = H2 at S2 fr2 fd2
      clear fr fd
      have at1 : atI (bs.map V.ref) (u : Int) = some (V.ref bs[u]) := by
        refine atI_nat ?_
        rw [List.getElem?_map, List.getElem?_eq_getElem ub]
        rfl
      have ll := md.st.len
      refine ⟨_, rfl, _, rfl, a, _, (u : Int), _, rfl, rfl, .of (S2 _ _ fa), at1, bs[u], rfl, ⟨_, .of (S2 _ _ fb)⟩, ?_⟩
      refine for_list (K := K) (a := bs[u]) (xs := intL ms) (fun i σ H' => ∃ (l' : List Rd) (rs' : List Nat) (y5 : Option V), σ = [some (.ref a), some (.int (g : Int)), some (.ref d), some (.ref r), some (.int (u : Int)), y5] ∧ Same H H' ∧
          H' d = some (.dK (dOf l')) ∧ H' r = some (.lst (intL rs')) ∧ Mid ps n g l' rs' (some u) ∧ u ∈ l'.map (·.1) ∧ n - l'.length + rs'.length = n - l.length + r0.length ∧ ∀ x ∈ ms.take i, x ∈ l'.map (·.1))
        ⟨l, r0, _, rfl, S2, fd2, fr2, ⟨md.st, nd.1, fun x hx => md.sub x (List.mem_append_left _ hx), ?_⟩, hu, rfl, by simp⟩ (fun i σ H' _ ⟨_, _, _, _, S, _⟩ => .of (S _ _ fb)) ?_ ?_
      · intro h hh nh ne x hx
        refine md.done h hh ?_ (by simp) x hx
        rw [List.mem_append]
        rintro (q | q)
        · exact nh q
        · simp at q
          subst q
          exact ne rfl
      · rintro i x σ H3 hx ⟨l', rs', y5, rfl, S3, fd3, fr3, md3, hu3, M3, tk3⟩
        unfold intL at hx
        rw [List.getElem?_map] at hx
        cases hm : ms[i]? with
        | none =>
          rw [hm] at hx
          cases hx
        | some h =>
          rw [hm] at hx
          cases hx
          have nb : Nbr ps u h := nbL_iff.mp (pm.mem_iff.mp (List.mem_of_getElem? hm))
          have hn2 : h < n := by
            rcases nb with q | q
            · exact (inb _ q).2
            · exact (inb _ q).1
          have tk : ∀ x, x ∈ ms.take (i + 1) → x ∈ ms.take i ∨ x = h := by
            intro x hx
            rw [List.take_succ, hm] at hx
            simpa using hx
          walk_at "rx"
          refine ⟨d, _, rfl, .k (k := .inl (h : Int)) fd3, ?_⟩
          rw [dOf_some]
          by_cases c : h ∈ l'.map (·.1)
          · refine ⟨_, rfl, ?_⟩
            rw [decide_eq_true c, if_neg (by decide)]
            refine ⟨⟨_, rfl⟩, S3, l', fd3, rs', fr3, md3, hu3, M3, fun x hx => ?_⟩
            rcases tk x hx with q | rfl
            · exact tk3 x q
            · exact c
          · refine ⟨_, rfl, ?_⟩
            rw [decide_eq_false c, if_pos (by decide)]
            have mdn := md3.add hu3 nb c hn2
            have l1 := mdn.st.len
            have l2 := mdn.len
            rw [List.length_append] at l1 l2
            simp only [List.length_cons, List.length_nil] at l1 l2
            refine ⟨d, _, rfl, .inl ⟨_, .inl (h : Int), fd3, rfl, by unfold dOf; rw [List.length_map]; omega, rfl⟩, ?_⟩
            rw [dOf_snoc l' h u c]
            have fr4 : upd H3 d (.dK (dOf (l' ++ [(h, u)]))) r = some (.lst (intL rs')) := by
              rw [upd_ne rd]
              exact fr3
            refine ⟨.inl ⟨rfl, _, .of fr4⟩, r, _, _, rfl, rfl, fr4, by rw [iz]; omega, ⟨_, rfl⟩, ?_, l' ++ [(h, u)], ?_, rs' ++ [h], ?_, mdn, ?_, ?_, ?_⟩
            · intro q o hq
              rw [upd_ne (ne_of_none hq rH), upd_ne (ne_of_none hq hd)]
              exact S3 _ _ hq
            · rw [upd_ne (Ne.symm rd), upd_same]
            · rw [upd_same]
              unfold intL
              rw [List.map_append]
              rfl
            · rw [List.map_append]
              exact List.mem_append_left _ hu3
            · rw [List.length_append, List.length_append]
              simp only [List.length_cons, List.length_nil]
              omega
            · intro x hx
              rw [List.map_append, List.mem_append]
              rcases tk x hx with q | rfl
              · exact .inl (tk3 x q)
              · exact .inr (by simp)
      · rintro σ H3 ⟨l', rs', y5, rfl, S3, fd3, fr3, md3, hu3, M3, tk3⟩
        refine ⟨_, ?_, l', rs', rfl, ⟨_, _, rfl⟩, S3, fd3, fr3, ⟨md3.st, md3.nd, md3.sub, ?_⟩⟩
        · rw [M3, List.length_append]
          simp
        · intro h hh nh _ x hx
          by_cases e : h = u
          · subst e
            refine tk3 x ?_
            rw [show (intL ms).length = ms.length from iz ms, List.take_length]
            exact pm.mem_iff.mpr (nbL_iff.mpr hx)
          · exact md3.done h hh nh (fun q => e (Option.some.inj q)) x hx
end
end K32



namespace K32
open PySem L2 Nv Gr

/-! a tree -/
def tfl (n : Nat) (r a L : Addr) : List (Str × V) := [("houses", .int (n : Int)), ("roads", .ref r), ("_near", .ref a), ("_steps", .ref L)]
def StepsAt (H : Hp) (L : Addr) (n : Nat) (ps : List Rd) : Prop := ∃ ss : List Addr, H L = some (.lst (ss.map V.ref)) ∧ ss.length = n ∧
  ∀ (g : Nat) (s : Addr), ss[g]? = some s → ∃ l : List Rd, H s = some (.dK (dOf l)) ∧ StA ps n g l
def TreeAt (C : Addr) (H : Hp) (p : Addr) (n : Nat) (ps : List Rd) : Prop := ∃ (dx r : Addr) (xs : List V) (a L : Addr), H p = some (.ins C dx (tfl n r a L)) ∧ H r = some (.tup xs) ∧ RdsV H xs (ps.map some) ∧ NearAt H a n ps ∧ StepsAt H L n ps
theorem StepsAt.mono {H H' : Hp} {L : Addr} {n : Nat} {ps : List Rd} (S : Same H H') (h : StepsAt H L n ps) : StepsAt H' L n ps := by
  obtain ⟨ss, h1, h2, h3⟩ := h
  refine ⟨ss, S _ _ h1, h2, fun g s hs => ?_⟩
  obtain ⟨l, e, r⟩ := h3 g s hs
  exact ⟨l, S _ _ e, r⟩
theorem RdsV.mono {H H' : Hp} {xs : List V} {rs : List (Option Rd)} (S : Same H H') (h : RdsV H xs rs) : RdsV H' xs rs := paired_same (fun _ _ h => h.mono S) h
theorem TreeAt.mono {C : Addr} {H H' : Hp} {p : Addr} {n : Nat} {ps : List Rd} (S : Same H H') (h : TreeAt C H p n ps) : TreeAt C H' p n ps := by
  obtain ⟨dx, r, xs, a, L, h1, h2, h3, h4, h5⟩ := h
  exact ⟨dx, r, xs, a, L, S _ _ h1, S _ _ h2, h3.mono S, h4.mono S, h5.mono S⟩
/-- an object changes: what is none stands -/
structure Off (x : Addr) (H H' : Hp) : Prop where
  was : ∃ C dx fs, H x = some (.ins C dx fs)
  ext : Ext1 x H H'
theorem Off.at_ {x : Addr} {H H' : Hp} (f : Off x H H') {b : Addr} {o : HO} (e : H b = some o) (h : ∀ C dx fs, o ≠ .ins C dx fs) : H' b = some o := by
  refine f.ext b o ?_ e
  intro q
  subst q
  obtain ⟨C, dx, fs, w⟩ := f.was
  rw [w] at e
  cases e
  exact h _ _ _ rfl
theorem Off.lst {x : Addr} {H H' : Hp} (f : Off x H H') {b : Addr} {xs : List V} (e : H b = some (.lst xs)) : H' b = some (.lst xs) := f.at_ e (by intro _ _ _ q; cases q)
theorem Off.tup {x : Addr} {H H' : Hp} (f : Off x H H') {b : Addr} {xs : List V} (e : H b = some (.tup xs)) : H' b = some (.tup xs) := f.at_ e (by intro _ _ _ q; cases q)
theorem Off.dK {x : Addr} {H H' : Hp} (f : Off x H H') {b : Addr} {xs : List (Key × V)} (e : H b = some (.dK xs)) : H' b = some (.dK xs) := f.at_ e (by intro _ _ _ q; cases q)
theorem Off.near {x : Addr} {H H' : Hp} (f : Off x H H') {a : Addr} {n : Nat} {ps : List Rd} (h : NearAt H a n ps) : NearAt H' a n ps := by
  obtain ⟨bs, h1, h2, h3⟩ := h
  refine ⟨bs, f.lst h1, h2, fun u b hb => ?_⟩
  obtain ⟨ns, e, r⟩ := h3 u b hb
  exact ⟨ns, f.lst e, r⟩
theorem Off.steps {x : Addr} {H H' : Hp} (f : Off x H H') {a : Addr} {n : Nat} {ps : List Rd} (h : StepsAt H a n ps) : StepsAt H' a n ps := by
  obtain ⟨ss, h1, h2, h3⟩ := h
  refine ⟨ss, f.lst h1, h2, fun g s hs => ?_⟩
  obtain ⟨l, e, r⟩ := h3 g s hs
  exact ⟨l, f.dK e, r⟩
theorem Off.rds {x : Addr} {H H' : Hp} (f : Off x H H') {xs : List V} {rs : List (Option Rd)} (h : RdsV H xs rs) : RdsV H' xs rs := by
  refine paired_same (fun v r h => ?_) h
  cases r with
  | none => exact h
  | some p =>
    obtain ⟨u, v2⟩ := p
    obtain ⟨a, e, g⟩ := h
    exact ⟨a, e, f.tup g⟩
/-- the roads are those of a tree -/
structure TreeOk (n : Nat) (rs : List (Option Rd)) : Prop where
  lo : 1 ≤ n
  hi : n ≤ 16
  are : areB n rs = true
  joined : Joined n (rs.filterMap id)
/-- the lists of neighbours of a tree are new -/
def NewT (C : Addr) (H H' : Hp) (x : Addr) : Prop := ∀ (dx r a L : Addr) (n : Nat), H' x = some (.ins C dx (tfl n r a L)) → NewB H H' a
def spInit (C C1 C2 C3 : Addr) : Sp := fun vs H Q E => ∃ (x dx : Addr) (n : Nat) (b : Addr) (xs : List V) (rs : List (Option Rd)), vs = [.ref x, .int (n : Int), .ref b] ∧ H x = some (.ins C dx []) ∧
  H b = some (.lst xs) ∧ RdsV H xs rs ∧ xs.length ≤ 100000 ∧
  (¬ TreeOk n rs → ∀ c d fs H', c ∈ [C1, C2, C3] → Same H H' → H' d = some (.xd fs) → E (.ref c) (some d) H') ∧
  (TreeOk n rs → ∀ H', Ext1 x H H' → TreeAt C H' x n (rs.filterMap id) → NewT C H H' x → Q .non H')
theorem nf1 : (Str.ofString "houses") ≠ Str.ofString "roads" := by decide +kernel
theorem nf2 : (Str.ofString "houses") ≠ Str.ofString "_near" := by decide +kernel
theorem nf3 : (Str.ofString "houses") ≠ Str.ofString "_steps" := by decide +kernel
theorem nf4 : (Str.ofString "roads") ≠ Str.ofString "_near" := by decide +kernel
theorem nf5 : (Str.ofString "roads") ≠ Str.ofString "_steps" := by decide +kernel
theorem nf6 : (Str.ofString "_near") ≠ Str.ofString "_steps" := by decide +kernel
theorem putF_none {f : Str} {y : V} : ∀ {fs : List (Str × V)}, (∀ x ∈ fs, x.1 ≠ f) → putF f y fs = fs ++ [(f, y)]
  | [], _ => rfl
  | (g, x) :: r, h => by
    show (if g = f then _ else _) = _
    rw [if_neg (h (g, x) (by simp)), putF_none fun z hz => h z (by simp [hz])]
    rfl
section
variable {P : Program} {w : World} {K : PySem.W.Frag} {mg : Str → Option Value} {base : Heap}
theorem okn_Tree_init (T : Tx K mg w.params) : FnN P w K mg base 4 T.d_Tree_init.f T.d_Tree_init.fd ["self", "houses", "roads"] (spInit T.C_Tree T.C_InvalidHouses T.C_InvalidRoads T.C_NotJoined) := by
  refine okN T.d_Tree_init.F sc_Tree_init (fun vs H Q E h => ?_) (fun cdv A outer s H vs Q E hg hr h => ?_)
  · obtain ⟨x, dx, n, b, xs, rs, rfl, _⟩ := h
    rfl
  obtain ⟨x, dx, n, b, xs, rs, rfl, hx, hb, hrs, hz, kE, kQ⟩ := h
  have sz : sizeLine = 16777216 := sizeLine_eq
  refine ⟨_, (pss_cons (ps_if (PW.pt (pw_or (pt_not (pt_val (pe_cG (ok_is_int T) T.d_is_int.b takes0 hg (hr.mono (by decide)) T.d_is_int.m T.d_is_int.F.kp (pa_cons (pv 1) pa_nil)))) (pw_or1 (pt_not (pt_chain op_le op_le pe_int (pv 1) (pe_glob (v := .int 16) rfl T.g_MOST_HOUSES ⟨_, rfl⟩))))))
      (pss_one (L2N.ps_raise rfl (L2N.takes_of rfl rfl rfl rfl) (pmk_E1p T.E_InvalidHouses (hr.mono (by decide)) (pv 1))))
      pss_nil)
    (pss_cons (ps_if (pt_not (pt_val (pe_cG (ok_are_roads T) T.d_are_roads.b takes0 hg (hr.mono (by decide)) T.d_are_roads.m T.d_are_roads.F.kp (pa_cons (pv 1) (pa_cons (pv 2) pa_nil)))))
      (pss_one (L2N.ps_raise rfl (L2N.takes_of rfl rfl rfl rfl) (pmk_E1p T.E_InvalidRoads (hr.mono (by decide)) (pv 2))))
      pss_nil)
    (pss_cons (ps_set (i := 3) sc_Tree_init.nd rfl (Or.inr rfl) (pe_cG (ok_near T) T.d_near.b takes0 hg (hr.mono (by decide)) T.d_near.m T.d_near.F.kp (pa_cons (pv 1) (pa_cons (pv 2) pa_nil))))
    (pss_cons (ps_set (i := 4) sc_Tree_init.nd rfl (Or.inl rfl) (pe_cG (ok_steps_to T) T.d_steps_to.b takes0 hg (hr.mono (by decide)) T.d_steps_to.m T.d_steps_to.F.kp (pa_cons (pv 3) (pa_cons pe_int pa_nil))))
    (pss_cons (ps_for (passes_of rfl) rfl (pi_range1 (by rfl) T.n_range (pa_cons (pv 1) pa_nil)) (pg_name (i := 5) sc_Tree_init.nd rfl (Or.inl rfl))
      (pss_one (ps_if (pt_cmpR (op_notInK (Nat.lt_of_le_of_lt (Nat.add_le_add_left (by decide) _) hr.units)) (pv 5) (pv 4) (by rfl))
        (pss_one (L2N.ps_raise rfl (L2N.takes_of rfl rfl rfl rfl) (pmk_E1p T.E_NotJoined (hr.mono (by decide)) (pv 5))))
        pss_nil)))
    (pss_cons (ps_fld (pv 0) (pv 1) rfl)
    (pss_cons (ps_fld (pv 0) (pe_callTy call_tuple_of (by rfl) T.n_tuple (by decide +kernel) (pa_cons (pv 2) pa_nil)) rfl)
    (pss_cons (ps_fld (pv 0) (pv 3) rfl)
    (pss_one (ps_fld (pv 0) (pe_lc (own := [("goal", 6)]) (g := gName 6) (tt := tYes) rfl sc_Tree_init.nd (pi_range1 (by rfl) T.n_range (pa_cons (pv 1) pa_nil)) (blkOk_by (N := ["self", "houses", "roads", "near", "reached", "house", "goal"]) (sc := defScope s_Tree_init) (by decide +kernel)) (fun _ _ _ _ _ => pg_name (i := 6) sc_Tree_init.nd rfl (Or.inl rfl)) (fun _ _ _ _ _ => pts_nil) (fun _ _ _ _ _ => (pe_cG (ok_steps_to T) T.d_steps_to.b takes0 hg (hr.mono (by decide)) T.d_steps_to.m T.d_steps_to.F.kp (pa_cons (pv 3) (pa_cons (pv 6) pa_nil))))) rfl)))))))))), ?_⟩
  walk_at "rx"
  refine ⟨_, .int (n : Int), rfl, .int _, _, rfl, ?_⟩
  rw [if_neg (show ¬ (isIx (.int (n : Int)) = false) from (by show ¬ (true = false); decide))]
  by_cases h1 : 1 ≤ n
  · rw [if_pos (show (1 : Int) ≤ (n : Int) from by omega)]
    by_cases h2 : n ≤ 16
    · rw [if_neg (show ¬ (decide ((n : Int) ≤ 16) = false) from by rw [decide_eq_true (by omega)]; decide)]
      refine ⟨n, b, xs, rs, rfl, h1, hb, hrs, hz, fun H1 S1 => ⟨_, rfl, ?_⟩⟩
      cases ha : areB n rs with
      | false =>
        rw [if_pos rfl]
        exact fun d H2 S2 _ e => kE (fun t => by have := t.are; rw [ha] at this; cases this) _ d _ H2 (by simp) (S1.trans S2) e
      | true =>
        rw [if_neg (by decide)]
        have are := ha
        unfold areB at are
        simp only [Bool.and_eq_true, decide_eq_true_eq] at are
        obtain ⟨len, all, asc⟩ := are
        obtain ⟨ps, rfl⟩ := somes all
        have eps : (ps.map some).filterMap id = ps := by
          rw [List.filterMap_map]
          exact List.filterMap_some
        rw [eps] at kQ
        have inb : ∀ p ∈ ps, p.1 < n ∧ p.2 < n := by
          intro p hp
          have := List.all_eq_true.mp all (some p) (List.mem_map.mpr ⟨p, hp, rfl⟩)
          obtain ⟨u, v⟩ := p
          simp only [roadB, Bool.and_eq_true, decide_eq_true_eq] at this
          exact ⟨by show u < n; omega, this.2⟩
        have hb1 := S1 _ _ hb
        refine ⟨n, b, xs, ps, rfl, by omega, hb1, hrs.mono S1, hz, inb, fun a H2 S2 hN2 nb2 => ?_⟩
        refine ⟨n, a, ps, 0, rfl, by omega, hN2, inb, by omega, fun l d H3 S3 nd st fd => ?_⟩
        have S13 : Same H H3 := S1.trans (S2.trans S3)
        refine ⟨_, rfl, (n : Int), rfl, by omega, by omega, ?_⟩
        refine for_range (fun i σ H' => H' = H3 ∧ (∃ y5, σ = [some (.ref x), some (.int (n : Int)), some (.ref b), some (.ref a), some (.ref d), y5, none]) ∧ ∀ v, v < i → v ∈ l.map (·.1)) ⟨rfl, ⟨_, rfl⟩, by omega⟩ ?_ ?_
        · rintro i σ H4 hi ⟨rfl, ⟨y5, rfl⟩, up⟩
          rw [show (0 : Int) + (i : Int) = (i : Int) from by omega]
          walk_at "rx"
          refine ⟨d, _, rfl, .k (k := .inl (i : Int)) fd, _, rfl, ?_⟩
          rw [dOf_some]
          by_cases c : i ∈ l.map (·.1)
          · rw [decide_eq_true c, if_neg (by decide)]
            refine ⟨rfl, ⟨_, rfl⟩, fun v hv => ?_⟩
            by_cases e : v = i
            · subst e
              exact c
            · exact up v (by omega)
          · rw [decide_eq_false c, if_pos (by decide)]
            refine fun d2 H5 S5 _ e => kE (fun t => c ?_) _ d2 _ H5 (by simp) (S13.trans S5) e
            have j := t.joined
            rw [eps] at j
            exact st.joined.mpr j i (by simpa using hi)
        · rintro σ H4 ⟨rfl, ⟨y5, rfl⟩, up⟩
          rw [Int.toNat_natCast] at up
          have ok : TreeOk n (ps.map some) := ⟨h1, h2, ha, by rw [eps]; exact st.joined.mp up⟩
          clear kE
          walk_at "rx"
          have hx3 := S13 _ _ hx
          refine r_stF hx3 T.cl_Tree T.na_Tree_houses (by decide) ?_
          rw [putF_none (by simp)]
          generalize g1 : upd H4 x (.ins T.C_Tree dx ([] ++ [(Str.ofString "houses", V.int (n : Int))])) = G1
          have f1 : G1 x = some (.ins T.C_Tree dx ([] ++ [(Str.ofString "houses", V.int (n : Int))])) := by rw [← g1, upd_same]
          have o1 : Off x H4 G1 := ⟨⟨_, _, _, hx3⟩, by rw [← g1]; exact Ext1.upd⟩
          refine ⟨xs, .inl ⟨.of (o1.lst (S13 _ _ hb)), fun r hr => ?_⟩⟩
          have xr : x ≠ r := fun e => by
            rw [← e, f1] at hr
            cases hr
          obtain ⟨G2, eh, S2', fr⟩ := gen_new (.tup xs) hr
          rw [eh]
          have f2 := S2' _ _ f1
          refine r_stF f2 T.cl_Tree T.na_Tree_roads (by show 1 < 1000; decide) ?_
          rw [putF_none (by simp [nf1])]
          generalize g3 : upd G2 x (.ins T.C_Tree dx _) = G3
          have f3 : G3 x = some (.ins T.C_Tree dx ([] ++ [(Str.ofString "houses", V.int (n : Int))] ++ [(Str.ofString "roads", V.ref r)])) := by rw [← g3, upd_same]
          have o3 : Off x G2 G3 := ⟨⟨_, _, _, f2⟩, by rw [← g3]; exact Ext1.upd⟩
          refine r_stF f3 T.cl_Tree T.na_Tree_near (by show 2 < 1000; decide) ?_
          rw [putF_none (by simp [nf2, nf4])]
          generalize g4 : upd G3 x (.ins T.C_Tree dx _) = G4
          have f4 : G4 x = some (.ins T.C_Tree dx ([] ++ [(Str.ofString "houses", V.int (n : Int))] ++ [(Str.ofString "roads", V.ref r)] ++ [(Str.ofString "_near", V.ref a)])) := by rw [← g4, upd_same]
          have o4 : Off x G3 G4 := ⟨⟨_, _, _, f3⟩, by rw [← g4]; exact Ext1.upd⟩
          have hN4 : NearAt G4 a n ps := o4.near (o3.near ((o1.near (hN2.mono S3)).mono S2'))
          refine ⟨_, rfl, (n : Int), rfl, by omega, by omega, fun D hD => ?_⟩
          refine lc_ref walk_range (fun g o => ∃ l : List Rd, o = .dK (dOf l) ∧ StA ps n g l) hD (by rw [Int.toNat_natCast]; omega) (fun _ _ => trivial) ?_ ?_
          · rintro i y Ha Hb R hi S ⟨rfl, rfl⟩ kR
            refine ⟨rfl, ?_⟩
            walk_at "rx"
            refine ⟨n, a, ps, i, by simp, by omega, hN4.mono S, inb, by simpa using hi, fun l2 d2 H5 S5 nd2 st2 fd2 => ?_⟩
            exact kR d2 _ H5 S5 nd2 fd2 ⟨l2, rfl, st2⟩
          · intro ss H5 ls _ _ pv S5 f5
            rw [Int.toNat_natCast] at ls
            have f6 := S5 _ _ f4
            refine r_stF f6 T.cl_Tree T.na_Tree_steps (by show 3 < 1000; decide) ?_
            rw [putF_none (by simp [nf3, nf5, nf6])]
            generalize g6 : upd H5 x (.ins T.C_Tree dx _) = G6
            have f7 : G6 x = some (.ins T.C_Tree dx (tfl n r a D)) := by
              rw [← g6, upd_same]
              rfl
            have o6 : Off x H5 G6 := ⟨⟨_, _, _, f6⟩, by rw [← g6]; exact Ext1.upd⟩
            have nt : NewT T.C_Tree H G6 x := by
              intro dx' r' a' L' n' e bs hbs b hb
              rw [f7] at e
              injection e with e
              injection e with _ _ e
              simp only [tfl, List.cons.injEq, Prod.mk.injEq, true_and, V.int.injEq, V.ref.injEq, and_true] at e
              obtain ⟨_, _, e3, _⟩ := e
              subst e3
              obtain ⟨bs0, g0, _⟩ := id hN2
              obtain ⟨bs1, g1, _⟩ := id (o6.near (hN4.mono S5))
              have q0 := o6.lst (S5 _ _ (o4.lst (o3.lst (S2' _ _ (o1.lst (S3 _ _ g0))))))
              rw [q0] at hbs
              injection hbs with hbs
              injection hbs with hbs
              rw [← refs_inj hbs] at hb
              exact fresh_of S1 (nb2 bs0 g0 b hb)
            refine kQ ok G6 ?_ ⟨dx, r, xs, a, D, f7, ?_, ?_, ?_, ?_⟩ nt
            · intro c o nc hc
              exact o6.ext _ _ nc (S5 _ _ (o4.ext _ _ nc (o3.ext _ _ nc (S2' _ _ (o1.ext _ _ nc (S13 _ _ hc))))))
            · exact o6.tup (S5 _ _ (o4.tup (o3.tup fr)))
            · exact o6.rds ((o4.rds (o3.rds ((o1.rds (hrs.mono S13)).mono S2'))).mono S5)
            · exact o6.near (hN4.mono S5)
            · refine o6.steps ⟨ss, f5, ls, fun g s hs => ?_⟩
              obtain ⟨o, ho, l2, rfl, st2⟩ := pv g s hs
              exact ⟨l2, ho, st2⟩
    · rw [if_pos (show decide ((n : Int) ≤ 16) = false from decide_eq_false (by omega))]
      exact fun d H2 S2 _ e => kE (fun t => h2 t.hi) _ d _ H2 (by simp) S2 e
  · rw [if_neg (show ¬ ((1 : Int) ≤ (n : Int)) from by omega)]
    exact fun d H2 S2 _ e => kE (fun t => h1 t.lo) _ d _ H2 (by simp) S2 e
end
end K32



namespace K32
open PySem L2 Nv Gr

theorem xvs_len {K : PySem.W.Frag} {C : Addr} {H : Hp} : ∀ {xs : List V} {ds : List XD}, XVs K C H xs ds → xs.length = ds.length
  | _, _, .nil => rfl
  | _, _, .cons _ r => by rw [List.length_cons, List.length_cons, xvs_len r]
theorem xvs_at {K : PySem.W.Frag} {C : Addr} {H : Hp} : ∀ {xs : List V} {ds : List XD} {i : Nat} {x : V}, XVs K C H xs ds → xs[i]? = some x → ∃ d, ds[i]? = some d ∧ XV K C H x d
  | _, _, _, _, .nil, h => by simp at h
  | _, _, 0, _, .cons a _, h => by
    cases h
    exact ⟨_, rfl, a⟩
  | _, _, i + 1, _, .cons _ r, h => xvs_at (i := i) r (by simpa using h)
theorem sz_at : ∀ {ds : List XD} {i : Nat} {d : XD}, szXs ds = true → ds[i]? = some d → szX d = true
  | [], _, _, _, h => by simp at h
  | a :: r, 0, d, s, h => by
    cases h
    unfold szXs at s
    rw [Bool.and_eq_true] at s
    exact s.1
  | a :: r, i + 1, d, s, h => by
    unfold szXs at s
    rw [Bool.and_eq_true] at s
    exact sz_at (i := i) s.2 (by simpa using h)
theorem sz_tup {ds : List XD} (h : szX (.tup ds) = true) : ds.length < 64 ∧ szXs ds = true := by
  unfold szX at h
  rw [Bool.and_eq_true, decide_eq_true_eq] at h
  exact h
theorem xvs_four {K : PySem.W.Frag} {C : Addr} {H : Hp} {xs : List V} {a b c d : XD} (h : XVs K C H xs [a, b, c, d]) : ∃ x0 x1 x2 x3, xs = [x0, x1, x2, x3] ∧ XV K C H x0 a ∧ XV K C H x1 b ∧ XV K C H x2 c ∧ XV K C H x3 d := by
  cases h with
  | cons h0 h =>
    cases h with
    | cons h1 h =>
      cases h with
      | cons h2 h =>
        cases h with
        | cons h3 h =>
          cases h
          exact ⟨_, _, _, _, rfl, h0, h1, h2, h3⟩
/-- a house of a tree of n -/
def idxB (n : Nat) : XD → Bool
  | .int i => decide (0 ≤ i) && decide (i < (n : Int))
  | _ => false
def homeB (n : Nat) : XD → Bool
  | .tup (d :: _) => idxB n d
  | _ => false
def keyX : XD → List Int
  | .tup (.int h :: .int n :: _) => [h, n]
  | _ => []
def rowB (n : Nat) (ds : List XD) : Bool := ds.all lineB && (ds.all (homeB n) && decide (ds.map keyX).Nodup)
theorem lineB_of {d : XD} (h : lineB d = true) : ∃ i n z y, d = .tup [.int i, .int n, .str z, .str y] ∧ 0 ≤ i ∧ 0 ≤ n := by
  unfold lineB at h
  split at h
  · rename_i a b c e
    simp only [Bool.and_eq_true] at h
    obtain ⟨h1, h2, h3, h4⟩ := h
    cases a with
    | int i =>
      cases b with
      | int n =>
        cases c with
        | str z =>
          cases e with
          | str y => exact ⟨i, n, z, y, rfl, of_decide_eq_true h1, of_decide_eq_true h2⟩
          | _ => cases h4
        | _ => cases h3
      | _ => cases h2
    | _ => cases h1
  · cases h
def spHasX (K : PySem.W.Frag) (C : Addr) : Sp := fun vs H Q _ => ∃ (p : Addr) (n : Nat) (ps : List Rd) (v : V) (d : XD), vs = [.ref p, v] ∧ TreeAt C H p n ps ∧ XV K C H v d ∧ Q (.bl (idxB n d)) H
def spXL (K : PySem.W.Frag) (C : Addr) (g : List XD → Bool) : Sp := fun vs H Q _ => ∃ v ds, vs = [v] ∧ XV K C H v (.tup ds) ∧ szX (.tup ds) = true ∧ ∀ H', Same H H' → Q (.bl (g ds)) H'
def spXT (K : PySem.W.Frag) (C : Addr) (g : Nat → List XD → Bool) : Sp := fun vs H Q _ => ∃ (p : Addr) (n : Nat) (ps : List Rd) (v : V) (ds : List XD), vs = [.ref p, v] ∧ TreeAt C H p n ps ∧ XV K C H v (.tup ds) ∧ szX (.tup ds) = true ∧ ∀ H', Same H H' → Q (.bl (g n ds)) H'
def spKeyOf (K : PySem.W.Frag) (C : Addr) : Sp := fun vs H Q _ => ∃ v d, vs = [v] ∧ XV K C H v d ∧ lineB d = true ∧ ∀ t H', Same H H' → H' t = some (.tup ((keyX d).map V.int)) → Q (.ref t) H'
section
variable {P : Program} {w : World} {K : PySem.W.Frag} {mg : Str → Option Value} {base : Heap}
theorem ok_Tree___contains__ (T : Tx K mg w.params) : FnG P w K mg base 2 T.d_Tree___contains__.f T.d_Tree___contains__.fd ["self", "value"] (spHasX K T.C_Tree) := by
  refine okG0 T.d_Tree___contains__.F sc_Tree___contains__ (fun vs H Q E h => ?_) (fun cdv A outer s H vs Q E hg hr h => ?_)
  · obtain ⟨p, n, ps, v, d, rfl, _⟩ := h
    rfl
  obtain ⟨p, n, ps, v, d, rfl, t, hv, k⟩ := h
  refine ⟨_, (pss_one (ps_ret (pe_and (pe_cG (ok_is_int T) T.d_is_int.b takes0 hg (hr.mono (by decide)) T.d_is_int.m T.d_is_int.F.kp (pa_cons (pv 1) pa_nil)) (pe_one (pe_chain op_le op_lt pe_int (pv 1) (pe_fld (pv 0) rfl)))))), ?_⟩
  walk_at "rx"
  obtain ⟨dx, r, xs, a, L, h1, _⟩ := t
  refine ⟨v, d, rfl, hv, _, rfl, ?_⟩
  cases hv with
  | int i =>
    rw [if_pos (show isIx (.int i) = true from rfl)]
    simp only [idxB] at k
    by_cases c : 0 ≤ i
    · walk_at "rx"
      rw [if_pos c]
      have lkh : (tfl n r a L).lookup (Str.ofString "houses") = some (.int (n : Int)) := by
        simp [tfl, List.lookup]
      refine r_fld h1 T.cl_Tree T.na_Tree_houses lkh ⟨_, _, rfl, rfl, ?_⟩
      rw [decide_eq_true c, Bool.true_and] at k
      exact k
    · walk_at "rx"
      rw [if_neg c]
      rw [decide_eq_false c, Bool.false_and] at k
      exact k
  | _ =>
    rw [if_neg (by simp [isIx])]
    exact k
theorem ok_is_line (T : Tx K mg w.params) : FnG P w K mg base 3 T.d_is_line.f T.d_is_line.fd ["value"] (spXS K T.C_Tree lineB) := by
  refine okG0 T.d_is_line.F sc_is_line (fun vs H Q E h => ?_) (fun cdv A outer s H vs Q E hg hr h => ?_)
  · obtain ⟨v, d, rfl, _⟩ := h
    rfl
  obtain ⟨v, d, rfl, hd, hl, fin⟩ := h
  refine ⟨_, (pss_cons (ps_if (PW.pt (pw_or (pt_not (pt_val (pe_callB call_isiA (by rfl) T.n_isinstance (by decide +kernel) (pa_cons (pv 0) (pa_cons (pe_bltn (v := .ty "tuple") (by rfl) T.n_tuple (by decide +kernel) rfl) pa_nil))))) (pw_or1 (pt_cmpR op_ne (pe_callB call_len_seq (by rfl) T.n_len (by decide +kernel) (pa_cons (pv 0) pa_nil)) pe_int (nomark _)))))
      (pss_one (ps_ret pe_bl))
      pss_nil)
    (pss_cons (ps_asg (pv 0) (pg_tup rfl (pgs_cons (pg_name (i := 1) sc_is_line.nd rfl (Or.inl rfl)) (pgs_cons (pg_name (i := 2) sc_is_line.nd rfl (Or.inl rfl)) (pgs_cons (pg_name (i := 3) sc_is_line.nd rfl (Or.inl rfl)) (pgs_cons (pg_name (i := 4) sc_is_line.nd rfl (Or.inl rfl)) pgs_nil))))))
    (pss_one (ps_ret (pe_and (pe_cG (ok_is_count T) T.d_is_count.b takes0 hg (hr.mono (by decide)) T.d_is_count.m T.d_is_count.F.kp (pa_cons (pv 1) pa_nil)) (pe_and (pe_cG (ok_is_count T) T.d_is_count.b takes0 hg (hr.mono (by decide)) T.d_is_count.m T.d_is_count.F.kp (pa_cons (pv 2) pa_nil)) (pe_and (pe_cG (ok_is_cell T) T.d_is_cell.b takes0 hg (hr.mono (by decide)) T.d_is_cell.m T.d_is_cell.F.kp (pa_cons (pv 3) pa_nil)) (pe_one (pe_cG (ok_is_text T) T.d_is_text.b takes0 hg (hr.mono (by decide)) T.d_is_text.m T.d_is_text.F.kp (pa_cons (pv 4) pa_nil)))))))))), ?_⟩
  walk_at "rx"
  refine r_isiX (obT T) hd .tuple ?_
  walk_at "rx"
  cases hd with
  | @tup a xs ds ha hr2 =>
    have el := xvs_len hr2
    obtain ⟨_, hs⟩ := sz_tup hl
    simp only [isTx]
    walk_at "rx"
    refine ⟨xs, .inr ha, ?_⟩
    walk_at "rx"
    have noB : ds.length ≠ 4 → lineB (.tup ds) = false := fun h => by
      unfold lineB
      split
      · rename_i q
        cases q
        exact absurd rfl h
      · rfl
    by_cases h4 : ds.length = 4
    · obtain ⟨d0, d1, d2, d3, rfl⟩ : ∃ d0 d1 d2 d3, ds = [d0, d1, d2, d3] := by
        match ds, h4 with
        | [a, b, c, d], _ => exact ⟨a, b, c, d, rfl⟩
      obtain ⟨x0, x1, x2, x3, rfl, q0, q1, q2, q3⟩ := xvs_four hr2
      have z2 : szX d2 = true := sz_at (i := 2) hs rfl
      have z3 : szX d3 = true := sz_at (i := 3) hs rfl
      refine ⟨rfl, ?_⟩
      rw [if_neg (by show ¬ (decide ((4 : Int) = 4) = false); decide)]
      refine r_unp ha rfl ?_
      walk_at "rx"
      refine ⟨x0, d0, rfl, q0, ?_⟩
      simp only [lineB] at fin
      cases e0 : cntB d0 with
      | false =>
        rw [e0] at fin
        simpa using fin
      | true =>
        rw [e0] at fin
        walk_at "rx"
        refine ⟨x1, d1, rfl, q1, ?_⟩
        cases e1 : cntB d1 with
        | false =>
          rw [e1] at fin
          simpa using fin
        | true =>
          rw [e1] at fin
          walk_at "rx"
          refine ⟨x2, d2, rfl, q2, z2, _, rfl, ?_⟩
          cases e2 : cellB d2 with
          | false =>
            rw [e2] at fin
            simpa using fin
          | true =>
            rw [e2] at fin
            walk_at "rx"
            exact ⟨x3, d3, rfl, q3, z3, by simpa using fin⟩
    · have e4 : ¬ ((xs.length : Int) = 4) := by omega
      refine ⟨rfl, ?_⟩
      rw [if_pos (by simpa using e4)]
      rw [noB h4] at fin
      exact fin
  | _ =>
    simp only [isTx]
    walk_at "rx"
    exact fin
theorem ok_are_lines (T : Tx K mg w.params) : FnG P w K mg base 4 T.d_are_lines.f T.d_are_lines.fd ["value"] (spXL K T.C_Tree fun ds => ds.all lineB) := by
  refine okG0 T.d_are_lines.F sc_are_lines (fun vs H Q E h => ?_) (fun cdv A outer s H vs Q E hg hr h => ?_)
  · obtain ⟨v, ds, rfl, _⟩ := h
    rfl
  obtain ⟨v, ds, rfl, hd, hz, k⟩ := h
  have sz : sizeLine = 16777216 := sizeLine_eq
  refine ⟨_, (pss_one (ps_ret (pe_and (pe_cG (ok_is_list T) T.d_is_list.b takes0 hg (hr.mono (by decide)) T.d_is_list.m T.d_is_list.F.kp (pa_cons (pv 0) pa_nil)) (pe_one (pe_callB (cr_all rfl) (by rfl) T.n_all (by decide +kernel) (pa_cons (pe_lc (own := [("line", 1)]) (g := gName 1) (tt := tYes) rfl sc_are_lines.nd (pi_tup (pv 0)) (blkOk_by (N := ["value", "line"]) (sc := defScope s_are_lines) (by decide +kernel)) (fun _ _ _ _ _ => pg_name (i := 1) sc_are_lines.nd rfl (Or.inl rfl)) (fun _ _ _ _ _ => pts_nil) (fun _ _ _ _ _ => (pe_cG (ok_is_line T) T.d_is_line.b takes0 hg (hr.mono (by decide)) T.d_is_line.m T.d_is_line.F.kp (pa_cons (pv 1) pa_nil)))) pa_nil)))))), ?_⟩
  walk_at "rx"
  refine ⟨v, _, rfl, hd, fun H1 S1 => ⟨true, rfl, ?_⟩⟩
  rw [if_pos rfl]
  cases hd with
  | @tup a xs ds0 ha hr2 =>
    have el := xvs_len hr2
    obtain ⟨l64, hs⟩ := sz_tup hz
    have ha1 := sqT_mono S1 ha
    have hr1 := XVs.mono S1 hr2
    refine ⟨_, rfl, a, rfl, ⟨_, ha1⟩, fun D hD => ?_⟩
    refine lc_flat (walk_tup (K := K) (a := a) (xs := xs)) (ds.map fun d => V.bl (lineB d)) hD (by rw [List.length_map, el]) (by omega) (fun H' S => sqT_mono S ha1) ?_ ?_
    · rintro i x y Ha Hb R hy S ⟨rfl, hxi⟩ kR
      obtain ⟨d, hdi, xv⟩ := xvs_at hr1 hxi
      rw [List.getElem?_map, hdi] at hy
      cases hy
      refine ⟨rfl, ?_⟩
      walk_at "rx"
      exact ⟨x, d, rfl, xv.mono S, sz_at hs hdi, kR _ (Same.refl _)⟩
    · intro H2 S2 fD
      refine ⟨D, ds.map lineB, rfl, .of (by rw [fD, List.map_map]; rfl), ?_⟩
      have eall : (ds.map lineB).all id = ds.all lineB := by
        rw [List.all_map]
        rfl
      rw [eall]
      exact k H2 (S1.trans S2)
theorem ok_are_lines_of (T : Tx K mg w.params) : FnG P w K mg base 5 T.d_are_lines_of.f T.d_are_lines_of.fd ["tree", "value"] (spXT K T.C_Tree fun n ds => ds.all lineB && ds.all (homeB n)) := by
  refine okG0 T.d_are_lines_of.F sc_are_lines_of (fun vs H Q E h => ?_) (fun cdv A outer s H vs Q E hg hr h => ?_)
  · obtain ⟨p, n, ps, v, ds, rfl, _⟩ := h
    rfl
  obtain ⟨p, n, ps, v, ds, rfl, t, hd, hz, k⟩ := h
  have sz : sizeLine = 16777216 := sizeLine_eq
  refine ⟨_, (pss_one (ps_ret (pe_and (pe_cG (ok_are_lines T) T.d_are_lines.b takes0 hg (hr.mono (by decide)) T.d_are_lines.m T.d_are_lines.F.kp (pa_cons (pv 1) pa_nil)) (pe_one (pe_callB (cr_all rfl) (by rfl) T.n_all (by decide +kernel) (pa_cons (pe_lc (own := [("line", 2)]) (g := gName 2) (tt := tYes) rfl sc_are_lines_of.nd (pi_tup (pv 1)) (blkOk_by (N := ["tree", "value", "line"]) (sc := defScope s_are_lines_of) (by decide +kernel)) (fun _ _ _ _ _ => pg_name (i := 2) sc_are_lines_of.nd rfl (Or.inl rfl)) (fun _ _ _ _ _ => pts_nil) (fun _ _ _ _ _ => (pe_cmpR (op_inO (ok_Tree___contains__ T) T.d_Tree___contains__.b hg (hr.mono (by decide)) T.d_Tree___contains__.me.at_ (beq_iff_eq.mp T.d_Tree___contains__.me.fn)) (pe_ix (ix_tupK (K := K) rfl) (pv 2) pe_int (fun _ _ => rfl)) (pv 0) (by rfl)))) pa_nil)))))), ?_⟩
  walk_at "rx"
  refine ⟨v, ds, rfl, hd, hz, fun H1 S1 => ⟨_, rfl, ?_⟩⟩
  replace k : ∀ H', Same H H' → Q (.bl (ds.all lineB && ds.all (homeB n))) H' := k
  show (if ds.all lineB = true then _ else _)
  cases e : ds.all lineB with
  | false =>
    rw [if_neg (by decide)]
    rw [e, Bool.false_and] at k
    exact k H1 S1
  | true =>
    rw [if_pos rfl]
    rw [e, Bool.true_and] at k
    cases hd with
    | @tup a xs ds0 ha hr2 =>
      have el := xvs_len hr2
      obtain ⟨l64, hs⟩ := sz_tup hz
      have ha1 := sqT_mono S1 ha
      have hr1 := XVs.mono S1 hr2
      refine ⟨_, rfl, a, rfl, ⟨_, ha1⟩, fun D hD => ?_⟩
      refine lc_flat (walk_tup (K := K) (a := a) (xs := xs)) (ds.map fun d => V.bl (homeB n d)) hD (by rw [List.length_map, el]) (by omega) (fun H' S => sqT_mono S ha1) ?_ ?_
      · rintro i x y Ha Hb R hy S ⟨rfl, hxi⟩ kR
        obtain ⟨d, hdi, xv⟩ := xvs_at hr1 hxi
        rw [List.getElem?_map, hdi] at hy
        cases hy
        have lb := List.all_eq_true.mp e d (List.mem_of_getElem? hdi)
        obtain ⟨h, n2, z, y, rfl, _, _⟩ := lineB_of lb
        cases xv.mono S with
        | @tup b ys ds1 hb hrb =>
          obtain ⟨x0, x1, x2, x3, rfl, q0, q1, q2, q3⟩ := xvs_four hrb
          refine ⟨rfl, ?_⟩
          walk_at "rx"
          refine r_ixT hb (by rfl) ?_
          obtain ⟨dx, r, xs2, a2, L, h1, _⟩ := id ((t.mono S1).mono S)
          refine ⟨p, dx, _, rfl, h1, p, n, ps, x0, _, rfl, (t.mono S1).mono S, q0, _, rfl, ?_⟩
          rw [Bool.bne_false]
          exact kR _ (Same.refl _)
      · intro H2 S2 fD
        refine ⟨D, ds.map (homeB n), rfl, .of (by rw [fD, List.map_map]; rfl), ?_⟩
        have eall : (ds.map (homeB n)).all id = ds.all (homeB n) := by
          rw [List.all_map]
          rfl
        rw [eall]
        exact k H2 (S1.trans S2)
theorem ok_key_of (T : Tx K mg w.params) : FnG P w K mg base 1 T.d_key_of.f T.d_key_of.fd ["line"] (spKeyOf K T.C_Tree) := by
  refine okG0 T.d_key_of.F sc_key_of (fun vs H Q E h => ?_) (fun cdv A outer s H vs Q E hg hr h => ?_)
  · obtain ⟨v, d, rfl, _⟩ := h
    rfl
  obtain ⟨v, d, rfl, hd, lb, k⟩ := h
  refine ⟨_, (pss_one (ps_ret (pe_slice sl_tup (pv 0) po_none (po_some pe_int)))), ?_⟩
  walk_at "rx"
  obtain ⟨h, n, z, y, rfl, _, _⟩ := lineB_of lb
  cases hd with
  | @tup a xs ds ha hr2 =>
    obtain ⟨x0, x1, x2, x3, rfl, q0, q1, q2, q3⟩ := xvs_four hr2
    cases q0
    cases q1
    refine ⟨a, _, rfl, ha, (by show ¬ (HT.sIx 4 0 none = 0 ∧ HT.sIx 4 4 (some 2) = 4); decide), fun p hp => ?_⟩
    exact k p _ (Same.new hp) upd_same
theorem ok_has_no_key_twice (T : Tx K mg w.params) : FnG P w K mg base 2 T.d_has_no_key_twice.f T.d_has_no_key_twice.fd ["lines"] (fun vs H Q E => ∃ v ds, vs = [v] ∧ XV K T.C_Tree H v (.tup ds) ∧ ds.length < 64 ∧ ds.all lineB = true ∧ ∀ H', Same H H' → Q (.bl (decide (ds.map keyX).Nodup)) H') := by
  refine okG0 T.d_has_no_key_twice.F sc_has_no_key_twice (fun vs H Q E h => ?_) (fun cdv A outer s H vs Q E hg hr h => ?_)
  · obtain ⟨v, ds, rfl, _⟩ := h
    rfl
  obtain ⟨v, ds, rfl, hd, l64, al, k⟩ := h
  refine ⟨_, (pss_one (ps_ret (pe_cmpR op_eq (pe_callB call_lenT (by rfl) T.n_len (by decide +kernel) (pa_cons (pe_scT (own := [("line", 1)]) (g := gName 1) (tt := tYes) rfl (unin1 hr) sc_has_no_key_twice.nd (pi_tup (pv 0)) (blkOk_by (N := ["lines", "line"]) (sc := defScope s_has_no_key_twice) (by decide +kernel)) (fun _ _ _ _ _ => pg_name (i := 1) sc_has_no_key_twice.nd rfl (Or.inl rfl)) (fun _ _ _ _ _ => pts_nil) (fun _ _ _ _ _ => (pe_cG (ok_key_of T) T.d_key_of.b takes0 hg (hr.mono (by decide)) T.d_key_of.m T.d_key_of.F.kp (pa_cons (pv 1) pa_nil)))) pa_nil)) (pe_callB call_len_seq (by rfl) T.n_len (by decide +kernel) (pa_cons (pv 0) pa_nil)) (nomark _)))), ?_⟩
  walk_at "rx"
  rw [e_scT]
  cases hd with
  | @tup a xs ds0 ha hr2 =>
    have el := xvs_len hr2
    refine ⟨_, rfl, a, rfl, ⟨_, ha⟩, fun D hD => ?_⟩
    refine scT_keys (walk_tup (K := K) (a := a) (xs := xs)) (fun i => keyX (ds.getD i .non)) hD (by omega) (fun H' S => sqT_mono S ha) ?_ ?_
    · rintro i x Ha Hb R hi S ⟨rfl, hxi⟩ kR
      obtain ⟨d, hdi, xv⟩ := xvs_at hr2 hxi
      have ed : ds.getD i .non = d := by
        rw [List.getD_eq_getElem?_getD, hdi]
        rfl
      rw [ed] at kR
      refine ⟨rfl, ?_⟩
      walk_at "rx"
      exact ⟨x, d, rfl, xv.mono S, List.all_eq_true.mp al d (List.mem_of_getElem? hdi), fun t H' S' et => kR t H' S' et⟩
    · intro L H1 S1 eD nd all
      have kl := keys_len nd all
      have em : (List.range xs.length).map (fun i => keyX (ds.getD i .non)) = ds.map keyX := by
        rw [el]
        apply List.ext_getElem?
        intro i
        rw [List.getElem?_map, List.getElem?_map]
        by_cases c : i < ds.length
        · rw [List.getElem?_range c, List.getElem?_eq_getElem c]
          simp [List.getElem?_eq_getElem c]
        · rw [List.getElem?_eq_none (by rw [List.length_range]; omega), List.getElem?_eq_none (by omega)]
          rfl
      rw [em] at kl
      refine ⟨D, rfl, L, eD, a, rfl, xs, .inr (sqT_mono S1 ha), rfl, ?_⟩
      have e1 : decide ((L.length : Int) = (xs.length : Int)) = decide (ds.map keyX).Nodup := by
        refine decide_eq_decide.mpr ⟨fun e => kl.mp (by omega), fun e => ?_⟩
        have := kl.mpr e
        omega
      have e2 : decide ((V.int (L.length : Int)) = V.int (xs.length : Int)) = decide ((L.length : Int) = (xs.length : Int)) := decide_eq_decide.mpr ⟨fun e => by injection e, fun e => by rw [e]⟩
      first
        | rw [e1]
        | rw [e2, e1]
      exact k H1 S1
theorem ok_is_row (T : Tx K mg w.params) : FnG P w K mg base 6 T.d_is_row.f T.d_is_row.fd ["tree", "value"] (spXT K T.C_Tree rowB) := by
  refine okG0 T.d_is_row.F sc_is_row (fun vs H Q E h => ?_) (fun cdv A outer s H vs Q E hg hr h => ?_)
  · obtain ⟨p, n, ps, v, ds, rfl, _⟩ := h
    rfl
  obtain ⟨p, n, ps, v, ds, rfl, t, hd, hz, k⟩ := h
  refine ⟨_, (pss_one (ps_ret (pe_and (pe_cG (ok_are_lines_of T) T.d_are_lines_of.b takes0 hg (hr.mono (by decide)) T.d_are_lines_of.m T.d_are_lines_of.F.kp (pa_cons (pv 0) (pa_cons (pv 1) pa_nil))) (pe_one (pe_cG (ok_has_no_key_twice T) T.d_has_no_key_twice.b takes0 hg (hr.mono (by decide)) T.d_has_no_key_twice.m T.d_has_no_key_twice.F.kp (pa_cons (pv 1) pa_nil)))))), ?_⟩
  walk_at "rx"
  refine ⟨p, n, ps, v, ds, rfl, t, hd, hz, fun H1 S1 => ⟨_, rfl, ?_⟩⟩
  show (if (ds.all lineB && ds.all (homeB n)) = true then _ else _)
  unfold rowB at k
  cases e : ds.all lineB with
  | false =>
    rw [Bool.false_and, if_neg (by decide)]
    rw [e, Bool.false_and] at k
    exact k H1 S1
  | true =>
    rw [Bool.true_and]
    rw [e, Bool.true_and] at k
    cases e2 : ds.all (homeB n) with
    | false =>
      rw [if_neg (by decide)]
      rw [e2, Bool.false_and] at k
      exact k H1 S1
    | true =>
      rw [if_pos rfl]
      rw [e2, Bool.true_and] at k
      exact ⟨ds, hd.mono S1, (sz_tup hz).1, e, fun H2 S2 => k H2 (S1.trans S2)⟩
end
end K32



namespace K32
open PySem L2 Nv Gr

def forms : List (Str × List Str) := [("halt", []), ("held", ["house", "life", "lines"]), ("sure", []), ("still", ["house", "life"]), ("elder", []), ("take", ["life", "start", "lines"]), ("taken", ["house"]), ("have", ["house", "count"]), ("lines", ["house", "start", "lines"])]
def formL (z : Str) : Option (List Str) := (forms.find? fun x => x.1 == z).map (·.2)
def eraB : XD → Bool
  | .tup [a, b, c] => lifB a && (cntB b && lifB c)
  | _ => false
def eraHome (n : Nat) : XD → Bool
  | .tup [_, b, _] => idxB n b
  | _ => false
def rowX (n : Nat) : XD → Bool
  | .tup ds => rowB n ds
  | _ => false
def itemX (n : Nat) (w : Str) (d : XD) : Bool := if w = "house" then idxB n d else if w = "life" then lifB d else if w = "lines" then rowX n d else cntB d
def restB (n : Nat) (ws : List Str) (e : XD) (ds : List XD) : Bool := eraB e && (eraHome n e && (decide (ds.length = ws.length) && (ws.zip ds).all fun p => itemX n p.1 p.2))
/-- is it a letter, of a tree of n? -/
def letB (n : Nat) : XD → Bool
  | .tup (.str z :: e :: ds) => match formL z with
    | some ws => restB n ws e ds
    | none => false
  | _ => false
theorem formL_len {z : Str} {ws : List Str} (h : formL z = some ws) : ws.length ≤ 3 := by
  unfold formL at h
  obtain ⟨x, hx, rfl⟩ := Option.map_eq_some_iff.mp h
  have : ∀ x ∈ forms, x.2.length ≤ 3 := by decide +kernel
  exact this x (List.mem_of_find?_eq_some hx)
def spItem (K : PySem.W.Frag) (C : Addr) : Sp := fun vs H Q _ => ∃ (p : Addr) (n : Nat) (ps : List Rd) (z : Str) (v : V) (d : XD), vs = [.ref p, .str z, v] ∧ TreeAt C H p n ps ∧ XV K C H v d ∧ szX d = true ∧ ∀ H', Same H H' → Q (.bl (itemX n z d)) H'
def spLet (K : PySem.W.Frag) (C : Addr) : Sp := fun vs H Q _ => ∃ (p : Addr) (n : Nat) (ps : List Rd) (v : V) (d : XD), vs = [.ref p, v] ∧ TreeAt C H p n ps ∧ XV K C H v d ∧ szX d = true ∧ ∀ H', Same H H' → Q (.bl (letB n d)) H'
theorem xvs_three {K : PySem.W.Frag} {C : Addr} {H : Hp} {xs : List V} {a b c : XD} (h : XVs K C H xs [a, b, c]) : ∃ x0 x1 x2, xs = [x0, x1, x2] ∧ XV K C H x0 a ∧ XV K C H x1 b ∧ XV K C H x2 c := by
  cases h with
  | cons h0 h =>
    cases h with
    | cons h1 h =>
      cases h with
      | cons h2 h =>
        cases h
        exact ⟨_, _, _, rfl, h0, h1, h2⟩
section
variable {P : Program} {w : World} {K : PySem.W.Frag} {mg : Str → Option Value} {base : Heap}
theorem forms_w (T : Tx K mg w.params) : ∃ l : List (Str × Value), WDict K w.params T.C_FORMS l ∧ (∀ z, (l.find? fun x => x.1 == z) = none → formL z = none) ∧ ∀ z x, (l.find? fun x => x.1 == z) = some x → ∃ ws a, x = (z, .ref a) ∧ formL z = some ws ∧ KTup K a (ws.map V.str) := by
  refine ⟨_, T.w_FORMS, fun z h => ?_, fun z x h => ?_⟩
  · unfold formL forms
    simp only [List.find?_eq_none, List.mem_cons, List.not_mem_nil, or_false, forall_eq_or_imp, forall_eq] at h
    rw [List.find?_eq_none.mpr]
    · rfl
    · simp only [List.mem_cons, List.not_mem_nil, or_false, forall_eq_or_imp, forall_eq]
      exact h
  · have hx : x.1 = z := by simpa using List.find?_some h
    subst hx
    have hm := List.mem_of_find?_eq_some h
    simp only [List.mem_cons, List.not_mem_nil, or_false] at hm
    rcases hm with rfl | rfl | rfl | rfl | rfl | rfl | rfl | rfl | rfl
    · exact ⟨[], _, rfl, (show formL "halt" = (some [] : Option (List Str)) by decide +kernel), T.q_FORMS_halt⟩
    · exact ⟨["house", "life", "lines"], _, rfl, (show formL "held" = (some ["house", "life", "lines"] : Option (List Str)) by decide +kernel), T.q_FORMS_held⟩
    · exact ⟨[], _, rfl, (show formL "sure" = (some [] : Option (List Str)) by decide +kernel), T.q_FORMS_sure⟩
    · exact ⟨["house", "life"], _, rfl, (show formL "still" = (some ["house", "life"] : Option (List Str)) by decide +kernel), T.q_FORMS_still⟩
    · exact ⟨[], _, rfl, (show formL "elder" = (some [] : Option (List Str)) by decide +kernel), T.q_FORMS_elder⟩
    · exact ⟨["life", "start", "lines"], _, rfl, (show formL "take" = (some ["life", "start", "lines"] : Option (List Str)) by decide +kernel), T.q_FORMS_take⟩
    · exact ⟨["house"], _, rfl, (show formL "taken" = (some ["house"] : Option (List Str)) by decide +kernel), T.q_FORMS_taken⟩
    · exact ⟨["house", "count"], _, rfl, (show formL "have" = (some ["house", "count"] : Option (List Str)) by decide +kernel), T.q_FORMS_have⟩
    · exact ⟨["house", "start", "lines"], _, rfl, (show formL "lines" = (some ["house", "start", "lines"] : Option (List Str)) by decide +kernel), T.q_FORMS_lines⟩
theorem ok_is_era (T : Tx K mg w.params) : FnG P w K mg base 3 T.d_is_era.f T.d_is_era.fd ["value"] (spX K T.C_Tree eraB) := by
  refine okG0 T.d_is_era.F sc_is_era (fun vs H Q E h => ?_) (fun cdv A outer s H vs Q E hg hr h => ?_)
  · obtain ⟨v, d, rfl, _⟩ := h
    rfl
  obtain ⟨v, d, rfl, hd, k⟩ := h
  refine ⟨_, (pss_cons (ps_if (PW.pt (pw_or (pt_not (pt_val (pe_callB call_isiA (by rfl) T.n_isinstance (by decide +kernel) (pa_cons (pv 0) (pa_cons (pe_bltn (v := .ty "tuple") (by rfl) T.n_tuple (by decide +kernel) rfl) pa_nil))))) (pw_or1 (pt_cmpR op_ne (pe_callB call_len_seq (by rfl) T.n_len (by decide +kernel) (pa_cons (pv 0) pa_nil)) pe_int (nomark _)))))
      (pss_one (ps_ret pe_bl))
      pss_nil)
    (pss_one (ps_ret (pe_and (pe_cG (ok_is_life T) T.d_is_life.b takes0 hg (hr.mono (by decide)) T.d_is_life.m T.d_is_life.F.kp (pa_cons (pe_ix ix_tup (pv 0) pe_int (fun _ _ => rfl)) pa_nil)) (pe_and (pe_cG (ok_is_count T) T.d_is_count.b takes0 hg (hr.mono (by decide)) T.d_is_count.m T.d_is_count.F.kp (pa_cons (pe_ix ix_tup (pv 0) pe_int (fun _ _ => rfl)) pa_nil)) (pe_one (pe_cG (ok_is_life T) T.d_is_life.b takes0 hg (hr.mono (by decide)) T.d_is_life.m T.d_is_life.F.kp (pa_cons (pe_ix ix_tup (pv 0) pe_int (fun _ _ => rfl)) pa_nil)))))))), ?_⟩
  walk_at "rx"
  refine r_isiX (obT T) hd .tuple ?_
  walk_at "rx"
  cases hd with
  | @tup a xs ds ha hr2 =>
    have el := xvs_len hr2
    simp only [isTx]
    walk_at "rx"
    refine ⟨xs, .inr ha, rfl, ?_⟩
    by_cases h3 : ds.length = 3
    · obtain ⟨d0, d1, d2, rfl⟩ : ∃ d0 d1 d2, ds = [d0, d1, d2] := by
        match ds, h3 with
        | [a, b, c], _ => exact ⟨a, b, c, rfl⟩
      obtain ⟨x0, x1, x2, rfl, q0, q1, q2⟩ := xvs_three hr2
      rw [if_neg (by show ¬ (decide ((3 : Int) = 3) = false); decide)]
      simp only [eraB] at k
      refine r_ixT ha (by rfl) ⟨x0, d0, rfl, q0, _, rfl, ?_⟩
      cases e0 : lifB d0 with
      | false =>
        rw [e0, Bool.false_and] at k
        exact k
      | true =>
        rw [e0, Bool.true_and] at k
        rw [if_pos rfl]
        refine r_ixT ha (by rfl) ⟨x1, d1, rfl, q1, _, rfl, ?_⟩
        cases e1 : cntB d1 with
        | false =>
          rw [e1, Bool.false_and] at k
          exact k
        | true =>
          rw [e1, Bool.true_and] at k
          rw [if_pos rfl]
          exact r_ixT ha (by rfl) ⟨x2, d2, rfl, q2, k⟩
    · have e4 : ¬ ((xs.length : Int) = 3) := by omega
      rw [if_pos (by simpa using e4)]
      have : eraB (.tup ds) = false := by
        unfold eraB
        split
        · rename_i q
          cases q
          exact absurd rfl h3
        · rfl
      rw [this] at k
      exact k
  | _ =>
    simp only [isTx]
    walk_at "rx"
    exact k
theorem ok_is_item (T : Tx K mg w.params) : FnG P w K mg base 7 T.d_is_item.f T.d_is_item.fd ["tree", "word", "value"] (spItem K T.C_Tree) := by
  refine okG0 T.d_is_item.F sc_is_item (fun vs H Q E h => ?_) (fun cdv A outer s H vs Q E hg hr h => ?_)
  · obtain ⟨p, n, ps, z, v, d, rfl, _⟩ := h
    rfl
  obtain ⟨p, n, ps, z, v, d, rfl, t, hd, hz, k⟩ := h
  refine ⟨_, (pss_cons (ps_if (pt_cmpR op_eq (pv 1) pe_str (nomark _))
      (pss_one (ps_ret (pe_cmpR (op_inO (ok_Tree___contains__ T) T.d_Tree___contains__.b hg (hr.mono (by decide)) T.d_Tree___contains__.me.at_ (beq_iff_eq.mp T.d_Tree___contains__.me.fn)) (pv 2) (pv 0) (by rfl))))
      pss_nil)
    (pss_cons (ps_if (pt_cmpR op_eq (pv 1) pe_str (nomark _))
      (pss_one (ps_ret (pe_cG (ok_is_life T) T.d_is_life.b takes0 hg (hr.mono (by decide)) T.d_is_life.m T.d_is_life.F.kp (pa_cons (pv 2) pa_nil))))
      pss_nil)
    (pss_cons (ps_if (pt_cmpR op_eq (pv 1) pe_str (nomark _))
      (pss_one (ps_ret (pe_and (pe_callB call_isiA (by rfl) T.n_isinstance (by decide +kernel) (pa_cons (pv 2) (pa_cons (pe_bltn (v := .ty "tuple") (by rfl) T.n_tuple (by decide +kernel) rfl) pa_nil))) (pe_one (pe_cG (ok_is_row T) T.d_is_row.b takes0 hg (hr.mono (by decide)) T.d_is_row.m T.d_is_row.F.kp (pa_cons (pv 0) (pa_cons (pv 2) pa_nil)))))))
      pss_nil)
    (pss_one (ps_ret (pe_cG (ok_is_count T) T.d_is_count.b takes0 hg (hr.mono (by decide)) T.d_is_count.m T.d_is_count.F.kp (pa_cons (pv 2) pa_nil))))))), ?_⟩
  walk_at "rx"
  refine ⟨rfl, ?_⟩
  unfold itemX at k
  obtain ⟨dx, r, xs, a, L, h1, _⟩ := id t
  by_cases e1 : z = "house"
  · rw [if_pos e1]
    rw [if_pos e1] at k
    refine ⟨p, dx, _, rfl, h1, p, n, ps, v, d, rfl, t, hd, _, rfl, ?_⟩
    rw [Bool.bne_false]
    exact k H (Same.refl H)
  · rw [if_neg e1]
    rw [if_neg e1] at k
    refine ⟨rfl, ?_⟩
    by_cases e2 : z = "life"
    · rw [if_pos e2]
      rw [if_pos e2] at k
      exact ⟨v, d, rfl, hd, k H (Same.refl H)⟩
    · rw [if_neg e2]
      rw [if_neg e2] at k
      refine ⟨rfl, ?_⟩
      by_cases e3 : z = "lines"
      · rw [if_pos e3]
        rw [if_pos e3] at k
        refine r_isiX (obT T) hd .tuple ⟨_, rfl, ?_⟩
        cases hd with
        | @tup b ys ds hb hrb =>
          rw [if_pos (show isTx (.tup ds) = true from rfl)]
          exact ⟨p, n, ps, _, ds, rfl, t, .tup hb hrb, hz, k⟩
        | _ => exact k H (Same.refl H)
      · rw [if_neg e3]
        rw [if_neg e3] at k
        exact ⟨v, d, rfl, hd, k H (Same.refl H)⟩
theorem ok_is_letter (T : Tx K mg w.params) : FnG P w K mg base 8 T.d_is_letter.f T.d_is_letter.fd ["tree", "value"] (spLet K T.C_Tree) := by
  refine okG0 T.d_is_letter.F sc_is_letter (fun vs H Q E h => ?_) (fun cdv A outer s H vs Q E hg hr h => ?_)
  · obtain ⟨p, n, ps, v, d, rfl, _⟩ := h
    rfl
  obtain ⟨p, n, ps, v, d, rfl, t, hd, hz, k⟩ := h
  have sz : sizeLine = 16777216 := sizeLine_eq
  refine ⟨_, (pss_cons (ps_if (PW.pt (pw_or (pt_not (pt_val (pe_callB call_isiA (by rfl) T.n_isinstance (by decide +kernel) (pa_cons (pv 1) (pa_cons (pe_bltn (v := .ty "tuple") (by rfl) T.n_tuple (by decide +kernel) rfl) pa_nil))))) (pw_or (pt_cmpR op_lt (pe_callB call_len_seq (by rfl) T.n_len (by decide +kernel) (pa_cons (pv 1) pa_nil)) pe_int (nomark _)) (pw_or (pt_not (pt_val (pe_callB call_isiA (by rfl) T.n_isinstance (by decide +kernel) (pa_cons (pe_ix ix_tup (pv 1) pe_int (fun _ _ => rfl)) (pa_cons (pe_bltn (v := .ty "str") (by rfl) T.n_str (by decide +kernel) rfl) pa_nil))))) (pw_or1 (pt_cmpR (op_notInW (Nat.lt_of_le_of_lt (Nat.add_le_add_left (by decide) _) hr.units)) (pe_ix ix_tup (pv 1) pe_int (fun _ _ => rfl)) (pe_glob (v := .ref T.C_FORMS) rfl T.m_FORMS rfl) (by rfl)))))))
      (pss_one (ps_ret pe_bl))
      pss_nil)
    (pss_cons (ps_set (i := 2) sc_is_letter.nd rfl (Or.inl rfl) (pe_ix ix_kdict (pe_glob (v := .ref T.C_FORMS) rfl T.m_FORMS rfl) (pe_ix ix_tup (pv 1) pe_int (fun _ _ => rfl)) (fun _ _ => rfl)))
    (pss_cons (ps_if (PW.pt (pw_or (pt_not (pt_val (pe_cG (ok_is_era T) T.d_is_era.b takes0 hg (hr.mono (by decide)) T.d_is_era.m T.d_is_era.F.kp (pa_cons (pe_ix ix_tup (pv 1) pe_int (fun _ _ => rfl)) pa_nil)))) (pw_or (pt_cmpR (op_notInO (ok_Tree___contains__ T) T.d_Tree___contains__.b hg (hr.mono (by decide)) T.d_Tree___contains__.me.at_ (beq_iff_eq.mp T.d_Tree___contains__.me.fn)) (pe_ix ix_tup (pe_ix ix_tup (pv 1) pe_int (fun _ _ => rfl)) pe_int (fun _ _ => rfl)) (pv 0) (by rfl)) (pw_or1 (pt_cmpR op_ne (pe_callB call_len_seq (by rfl) T.n_len (by decide +kernel) (pa_cons (pv 1) pa_nil)) (pe_op op_add pe_int (pe_callB call_len_seq (by rfl) T.n_len (by decide +kernel) (pa_cons (pv 2) pa_nil))) (nomark _))))))
      (pss_one (ps_ret pe_bl))
      pss_nil)
    (pss_one (ps_ret (pe_callB (cr_all rfl) (by rfl) T.n_all (by decide +kernel) (pa_cons (pe_lc (own := [("word", 3), ("item", 4)]) (g := (gTup K 2 (gCons (gName 3) (gCons (gName 4) gNil)))) (tt := tYes) rfl sc_is_letter.nd (pi_zipT (by rfl) T.n_zip (pa_cons (pv 2) (pa_cons (pe_slice sl_tup (pv 1) (po_some pe_int) po_none) pa_nil))) (blkOk_by (N := ["tree", "value", "form", "word", "item"]) (sc := defScope s_is_letter) (by decide +kernel)) (fun _ _ _ _ _ => (pg_tup rfl (pgs_cons (pg_name (i := 3) sc_is_letter.nd rfl (Or.inl rfl)) (pgs_cons (pg_name (i := 4) sc_is_letter.nd rfl (Or.inl rfl)) pgs_nil)))) (fun _ _ _ _ _ => pts_nil) (fun _ _ _ _ _ => (pe_cG (ok_is_item T) T.d_is_item.b takes0 hg (hr.mono (by decide)) T.d_is_item.m T.d_is_item.F.kp (pa_cons (pv 0) (pa_cons (pv 3) (pa_cons (pv 4) pa_nil)))))) pa_nil))))))), ?_⟩
  walk_at "rx"
  refine r_isiX (obT T) hd .tuple ?_
  walk_at "rx"
  cases hd with
  | @tup a xs ds ha hr2 =>
    have el := xvs_len hr2
    obtain ⟨l64, hs⟩ := sz_tup hz
    simp only [isTx]
    walk_at "rx"
    refine ⟨xs, .inr ha, ?_⟩
    obtain ⟨l, wd, no, yes⟩ := forms_w T
    by_cases l2 : ds.length < 2
    · rw [if_pos (by omega)]
      have : letB n (.tup ds) = false := by
        cases ds with
        | nil => rfl
        | cons d0 ds =>
          cases ds with
          | nil => cases d0 <;> rfl
          | cons _ _ => exact absurd l2 (by rw [List.length_cons, List.length_cons]; omega)
      rw [this] at k
      exact k H (Same.refl H)
    rw [if_neg (by omega)]
    obtain ⟨d0, d1, rest, rfl⟩ : ∃ d0 d1 rest, ds = d0 :: d1 :: rest := by
      cases ds with
      | nil => simp at l2
      | cons d0 ds =>
        cases ds with
        | nil => simp at l2
        | cons d1 rest => exact ⟨d0, d1, rest, rfl⟩
    cases hr2 with
    | @cons x0 xs0 _ _ q0 hr3 =>
      cases hr3 with
      | @cons x1 ys _ _ q1 q2 =>
        have hs1 : szX d1 = true := sz_at (i := 1) hs rfl
        have hsr : szXs rest = true := by
          unfold szXs at hs
          rw [Bool.and_eq_true] at hs
          have h2 := hs.2
          unfold szXs at h2
          rw [Bool.and_eq_true] at h2
          exact h2.2
        refine r_ixT ha (at0 rfl) (r_isiX (obT T) q0 .str ⟨_, rfl, ?_⟩)
        cases q0 with
        | str z =>
          rw [if_neg (by simp [isSx])]
          refine r_ixT ha (at0 rfl) ?_
          have atz := wd.at z
          cases hf : l.find? fun x => x.1 == z with
          | none =>
            rw [hf] at atz
            refine ⟨T.C_FORMS, z, none, rfl, rfl, wd.isW, atz, _, rfl, ?_⟩
            rw [if_pos (by rfl)]
            have : letB n (.tup (.str z :: d1 :: rest)) = false := by
              simp only [letB, no z hf]
            rw [this] at k
            exact k H (Same.refl H)
          | some x =>
            rw [hf] at atz
            obtain ⟨ws, fa, rfl, fl, kt⟩ := yes z x hf
            refine ⟨T.C_FORMS, z, some (.ref fa), rfl, rfl, wd.isW, atz, _, rfl, ?_⟩
            rw [if_neg (by simp)]
            have ek : letB n (.tup (.str z :: d1 :: rest)) = restB n ws d1 rest := by
              simp only [letB, fl]
            rw [ek] at k
            have fl3 := formL_len fl
            clear ek no yes fl
            unfold restB at k
            refine r_ixT ha (at0 rfl) ⟨T.C_FORMS, z, .ref fa, rfl, rfl, wd.kdct hf rfl, ?_⟩
            refine r_ixT ha (Nv.at1 rfl) ⟨x1, d1, rfl, q1, _, rfl, ?_⟩
            cases ee : eraB d1 with
            | false =>
              rw [if_pos rfl]
              rw [ee, Bool.false_and] at k
              exact k H (Same.refl H)
            | true =>
              rw [if_neg (by decide)]
              rw [ee, Bool.true_and] at k
              refine r_ixT ha (Nv.at1 rfl) ?_
              obtain ⟨e0, e1, e2, rfl⟩ : ∃ e0 e1 e2, d1 = .tup [e0, e1, e2] := by
                unfold eraB at ee
                split at ee
                · exact ⟨_, _, _, rfl⟩
                · cases ee
              have q1' := q1
              cases q1 with
              | @tup b zs _ hb hrb =>
                obtain ⟨y0, y1, y2, rfl, p0, p1, p2⟩ := xvs_three hrb
                refine r_ixT hb (by rfl) ?_
                obtain ⟨dx, r, xs2, a2, L, h1, _⟩ := id t
                refine ⟨p, dx, _, rfl, h1, p, n, ps, y1, e1, rfl, t, p1, _, rfl, _, rfl, ?_⟩
                simp only [eraHome] at k
                cases ih : idxB n e1 with
                | false =>
                  rw [if_pos (by decide)]
                  rw [ih, Bool.false_and] at k
                  exact k H (Same.refl H)
                | true =>
                  rw [if_neg (by decide)]
                  rw [ih, Bool.true_and] at k
                  have ely := xvs_len q2
                  refine ⟨_, .inr ha, fa, rfl, _, .inr (kt.sq _), rfl, ?_⟩
                  by_cases le : rest.length = ws.length
                  · rw [if_neg (by
                      rw [decide_eq_true (by rw [List.length_cons, List.length_cons, List.length_map]; omega)]
                      decide)]
                    rw [decide_eq_true le, Bool.true_and] at k
                    refine ⟨.ref fa, rfl, .ref a, rfl, 2, rfl, a, _, rfl, ha, ?_, fun q hq => ?_⟩
                    · intro hx
                      have := hx.1
                      rw [show (2 : Int) = ((2 : Nat) : Int) from rfl, HT.sIx_nat] at this
                      simp only [List.length_cons] at this
                      omega
                    · rw [show (2 : Int) = ((2 : Nat) : Int) from rfl, Nv.cutV_from]
                      obtain ⟨H1, eh, S1, fq⟩ := gen_new (.tup ys) hq
                      have ed : ∀ x y : V, (x :: y :: ys).drop 2 = ys := fun _ _ => rfl
                      rw [ed, eh]
                      clear eh
                      refine ⟨fa, q, _, _, rfl, kt.sq _, .inr ⟨SqT.of fq, fun D hD => ?_⟩⟩
                      refine lc_flat (walk_zipT (n := ws.length) (by rw [List.length_map]; omega)) ((ws.zip rest).map fun p => V.bl (itemX n p.1 p.2)) hD (by simp; omega) (by omega) (fun H' S => ⟨kt.sq _, SqT.of (S _ _ fq)⟩) ?_ ?_
                      · rintro i y u Ha Hb R hu S ⟨t2, y3, y4, rfl, ht, rfl, g1, g2⟩ kR
                        refine r_unp (.of upd_same) rfl ?_
                        walk_at "rx"
                        obtain ⟨z1, hz1, rfl⟩ : ∃ z1, ws[i]? = some z1 ∧ V.str z1 = y3 := by
                          have g1 : (ws.map V.str)[i]? = some y3 := g1
                          rw [List.getElem?_map] at g1
                          exact Option.map_eq_some_iff.mp g1
                        obtain ⟨d4, hd4, xv4⟩ := xvs_at q2 g2
                        have Sa : Same H Ha := S1.trans S
                        have Sb : Same H (upd Ha t2 (.tup [V.str z1, y4])) := Sa.trans (Same.new ht)
                        refine ⟨p, n, ps, z1, y4, d4, rfl, t.mono Sb, xv4.mono Sb, sz_at hsr hd4, fun H' S' => ?_⟩
                        have : u = V.bl (itemX n z1 d4) := by
                          rw [List.getElem?_map, List.getElem?_zip_eq_some (z := (z1, d4)) |>.mpr ⟨hz1, hd4⟩] at hu
                          exact (Option.some.inj hu).symm
                        rw [← this]
                        exact kR _ ((Same.new ht).trans S')
                      · intro H' S f
                        refine ⟨D, (ws.zip rest).map fun p => itemX n p.1 p.2, rfl, .of (by rw [f, List.map_map]; rfl), ?_⟩
                        have e : (((ws.zip rest).map fun p => itemX n p.1 p.2).all id) = ((ws.zip rest).all fun p => itemX n p.1 p.2) := by rw [List.all_map]; rfl
                        rw [e]
                        exact k H' (S1.trans S)
                  · rw [if_pos (by
                      rw [decide_eq_false (by rw [List.length_cons, List.length_cons, List.length_map]; omega)])]
                    rw [decide_eq_false le, Bool.false_and] at k
                    exact k H (Same.refl H)
        | _ =>
          rw [if_pos (by simp [isSx])]
          exact k H (Same.refl H)
  | _ =>
    simp only [isTx]
    walk_at "rx"
    exact k H (Same.refl H)
end
end K32

namespace Nv
open PySem PySem.Spec PyProof.Rows L2

def ones (l : List Nat) : List V := l.map fun c => V.str ⟨#[c]⟩
/-- list(text) -/
theorem call_listS {X : Cx} (calm : X.calm = true) : CallR X (.type "list") (fun xs H Q => ∃ z, xs = [.str z] ∧ z.length ≤ sizeLine ∧ ∀ l, H l = none → l ≠ sysModules → Q (.ref l) (upd H l (.lst (ones (sg z))))) := by
  intro pins s σ H xs us Q J rel hyp
  obtain ⟨z, rfl, hz, post⟩ := hyp
  obtain ⟨u, rfl, t, rfl⟩ := vals1 rel
  refine call_list_str (J.ok.hd calm) z t (hn := hz) fun h' tk acc ct keep new its => ?_
  have big : s.heap.objs.size ≠ sysModules := Nat.ne_of_gt J.big
  have free := J.hok.fresh (Nat.le_refl s.heap.objs.size)
  have vals : Vals (ones (sg z)) acc.toList := by
    have len : (ones (sg z)).length = acc.toList.length := by
      have h1 : (sg z).length = z.cps.size := sg_len z
      have h2 : acc.size = z.cps.size := its.1
      unfold ones
      have h3 : acc.toList.length = acc.size := Array.length_toList
      rw [List.length_map]
      omega
    have at_ : ∀ (j : Nat) x y, (ones (sg z))[j]? = some x → acc.toList[j]? = some y → RelV x y := by
      intro j x y hx hy
      obtain ⟨c, u, hc, rfl⟩ := its.2 j y (by simpa using hy)
      unfold ones at hx
      rw [List.getElem?_map] at hx
      have e : (sg z)[j]? = some c := by
        show z.cps.toList[j]? = _
        rw [Array.getElem?_toList]
        exact hc
      rw [e] at hx
      cases hx
      exact ⟨u, rfl⟩
    generalize ones (sg z) = l at len at_
    generalize acc.toList = m at len at_
    induction l generalizing m with
    | nil =>
      cases m with
      | nil => exact .nil
      | cons _ _ => simp at len
    | cons a l ih =>
      cases m with
      | nil => simp at len
      | cons b m => exact .cons (at_ 0 a b rfl rfl) (ih m (by simpa using len) fun j x y hx hy => at_ (j + 1) x y (by simpa using hx) (by simpa using hy))
  have small : (ones (sg z)).length ≤ sizeLine := by
    unfold ones
    rw [List.length_map, sg_len]
    exact hz
  exact ⟨.ref s.heap.objs.size, _, J.laid (t' := tk) keep (Nat.le_refl _) (show ObjOk X.prog X.w _ _ _ (.lst (ones (sg z))) from ⟨small, acc.toList, ct, vals, by simpa using new⟩), rfl, post _ free big⟩
theorem eqv_ones : ∀ l m : List Nat, PyData.eqvAll (l.map fun c => PyData.str ⟨#[c]⟩) (m.map fun c => PyData.str ⟨#[c]⟩) = decide (l = m)
  | [], [] => by simp [PyData.eqvAll]
  | [], _ :: _ => by simp [PyData.eqvAll]
  | _ :: _, [] => by simp [PyData.eqvAll]
  | a :: l, b :: m => by
    rw [List.map_cons, List.map_cons, PyData.eqvAll, eqv_ones l m]
    have e : PyData.eqv (PyData.str ⟨#[a]⟩) (PyData.str ⟨#[b]⟩) = decide (a = b) := by
      simp only [PyData.eqv]
      rw [Bool.eq_iff_iff, beq_iff_eq, decide_eq_true_eq]
      constructor
      · intro h
        injection h with h
        injection h with h
        injection h
      · rintro rfl
        rfl
    rw [e, ← Bool.decide_and]
    exact decide_eq_decide.mpr (by rw [List.cons.injEq])
/-- the signs that pass, compared with all -/
theorem r_eq_sel {K : PySem.W.Frag} {H : Hp} {Q : VK} {D p : Addr} {l : List Nat} {f : Nat → Bool} (h : ∀ c ∈ l, c < 128) (hD : H D = some (.lst (ones (l.filter f)))) (hp : H p = some (.lst (ones l))) (q : Q (.bl (l.all f)) H) : rEqD K (.ref D) (.ref p) H Q := by
  refine ⟨_, _, .lst (.of hD) (dp_ones _), .lst (.of hp) (dp_ones _), shaped_ones _ (fun c hc => h c (List.mem_filter.mp hc).1), shaped_ones _ h, ?_⟩
  have e : PyData.eqv (.list ((l.filter f).map fun c => PyData.str ⟨#[c]⟩)) (.list (l.map fun c => PyData.str ⟨#[c]⟩)) = l.all f := by
    simp only [PyData.eqv]
    rw [eqv_ones, Bool.eq_iff_iff, decide_eq_true_eq, List.filter_eq_self, List.all_eq_true]
  rw [e]
  exact q
theorem sel_ones {z : Str} {f : Nat → Bool} : (List.range z.cps.size).filterMap (fun i => ((sg z)[i]?).bind fun c => if f c = true then some (V.str ⟨#[c]⟩) else none) = ones ((sg z).filter f) := by
  have e := sel_list (fun c => if f c = true then some (V.str ⟨#[c]⟩) else none) (sg z)
  have hl : (sg z).length = z.cps.size := sg_len z
  rw [hl] at e
  rw [e]
  unfold ones
  induction sg z with
  | nil => rfl
  | cons c r ih =>
    rw [List.filterMap_cons, List.filter_cons]
    cases f c
    · simpa using ih
    · simpa using ih
end Nv



namespace K32
open PySem L2 Nv Gr

def whB (m : Int) : XD → Bool
  | .int i => decide (m ≤ i)
  | _ => false
def spWhole (K : PySem.W.Frag) (C : Addr) : Sp := fun vs H Q _ => ∃ v d m, vs = [v, .int m] ∧ XV K C H v d ∧ Q (.bl (whB m d)) H
def spLine (K : PySem.W.Frag) (C : Addr) (g : Nat → XD → Bool) : Sp := fun vs H Q _ => ∃ v d n, vs = [v, .int ((n : Nat) : Int)] ∧ XV K C H v d ∧ szX d = true ∧ ∀ H', Same H H' → Q (.bl (g n d)) H'
theorem wh0 (d : XD) : whB 0 d = cntB d := by cases d <;> rfl
theorem wh1 (d : XD) : whB 1 d = lifB d := by cases d <;> rfl
theorem cnt_int {d : XD} (h : cntB d = true) : ∃ i, d = .int i ∧ 0 ≤ i := by
  cases d with
  | int i => exact ⟨i, rfl, of_decide_eq_true h⟩
  | _ => cases h
section
variable {P : Program} {w : World} {K : PySem.W.Frag} {mg : Str → Option Value} {base : Heap}
theorem ok_l_whole (T : Tx K mg w.params) : FnG P w K mg base 1 T.d_l_whole.f T.d_l_whole.fd ["_law_value", "_law_least"] (spWhole K T.C_Tree) := by
  refine okG0 T.d_l_whole.F sc_l_whole (fun vs H Q E h => ?_) (fun cdv A outer s H vs Q E hg hr h => ?_)
  · obtain ⟨v, d, m, rfl, _⟩ := h
    rfl
  obtain ⟨v, d, m, rfl, hd, k⟩ := h
  refine ⟨_, (pss_one (ps_ret (pe_and (pe_callB call_isiA (by rfl) T.n_isinstance (by decide +kernel) (pa_cons (pv 0) (pa_cons (pe_bltn (v := .ty "int") (by rfl) T.n_int (by decide +kernel) rfl) pa_nil))) (pe_and (pe_not (pe_callB call_isiA (by rfl) T.n_isinstance (by decide +kernel) (pa_cons (pv 0) (pa_cons (pe_bltn (v := .ty "bool") (by rfl) T.n_bool (by decide +kernel) rfl) pa_nil)))) (pe_one (pe_cmpR op_ge (pv 0) (pv 1) (nomark _))))))), ?_⟩
  walk_at "rx"
  refine r_isiX (obT T) hd .int ?_
  walk_at "rx"
  cases hd with
  | int i =>
    simp only [isIx, isBx, Bool.or_false]
    walk_at "rx"
    refine r_isiX (obT T) (.int i) .bool ?_
    simp only [isBx]
    walk_at "rx"
    simpa only [whB] using k
  | bl b =>
    simp only [isIx, isBx, Bool.or_true]
    walk_at "rx"
    refine r_isiX (obT T) (.bl b) .bool ?_
    simp only [isBx]
    walk_at "rx"
    exact k
  | _ =>
    simp only [isIx, isBx, Bool.or_false]
    walk_at "rx"
    exact k
theorem ok_l_is_line (T : Tx K mg w.params) : FnG P w K mg base 2 T.d_l_is_line.f T.d_l_is_line.fd ["_law_value", "_law_houses"] (spLine K T.C_Tree fun n d => lineB d && homeB n d) := by
  refine okG0 T.d_l_is_line.F sc_l_is_line (fun vs H Q E h => ?_) (fun cdv A outer s H vs Q E hg hr h => ?_)
  · obtain ⟨v, d, n, rfl, _⟩ := h
    rfl
  obtain ⟨v, d, n, rfl, hd, hz, k⟩ := h
  have sz : sizeLine = 16777216 := sizeLine_eq
  refine ⟨_, (pss_cons (ps_if (PW.pt (pw_or (pt_not (pt_val (pe_callB call_isiA (by rfl) T.n_isinstance (by decide +kernel) (pa_cons (pv 0) (pa_cons (pe_bltn (v := .ty "tuple") (by rfl) T.n_tuple (by decide +kernel) rfl) pa_nil))))) (pw_or (pt_cmpR op_ne (pe_callB call_len_seq (by rfl) T.n_len (by decide +kernel) (pa_cons (pv 0) pa_nil)) pe_int (nomark _)) (pw_or (pt_not (pt_val (pe_cG (ok_l_whole T) T.d_l_whole.b takes0 hg (hr.mono (by decide)) T.d_l_whole.m T.d_l_whole.F.kp (pa_cons (pe_ix ix_tup (pv 0) pe_int (fun _ _ => rfl)) (pa_cons pe_int pa_nil))))) (pw_or1 (pt_cmpR op_ge (pe_ix ix_tup (pv 0) pe_int (fun _ _ => rfl)) (pv 1) (nomark _)))))))
      (pss_one (ps_ret pe_bl))
      pss_nil)
    (pss_cons (ps_if (PW.pt (pw_or (pt_not (pt_val (pe_cG (ok_l_whole T) T.d_l_whole.b takes0 hg (hr.mono (by decide)) T.d_l_whole.m T.d_l_whole.F.kp (pa_cons (pe_ix ix_tup (pv 0) pe_int (fun _ _ => rfl)) (pa_cons pe_int pa_nil))))) (pw_or (pt_not (pt_val (pe_callB call_isiA (by rfl) T.n_isinstance (by decide +kernel) (pa_cons (pe_ix ix_tup (pv 0) pe_int (fun _ _ => rfl)) (pa_cons (pe_bltn (v := .ty "str") (by rfl) T.n_str (by decide +kernel) rfl) pa_nil))))) (pw_or1 (pt_not (pt_val (pe_callB call_isiA (by rfl) T.n_isinstance (by decide +kernel) (pa_cons (pe_ix ix_tup (pv 0) pe_int (fun _ _ => rfl)) (pa_cons (pe_bltn (v := .ty "str") (by rfl) T.n_str (by decide +kernel) rfl) pa_nil)))))))))
      (pss_one (ps_ret pe_bl))
      pss_nil)
    (pss_cons (ps_setLc (i := 2) (own := [("_law_sign", 3)]) (g := gName 3) rfl sc_l_is_line.nd rfl rfl (sw_true rfl rfl rfl (by decide +kernel)) (pi_str (pe_ix ix_tup (pv 0) pe_int (fun _ _ => rfl))) (blkOk_by (N := ["_law_value", "_law_houses", "_law_letters", "_law_sign", "_law_plain"]) (sc := defScope s_l_is_line) (by decide +kernel)) (fun _ _ _ _ _ => pg_name (i := 3) sc_l_is_line.nd rfl (Or.inl rfl)) (fun _ _ _ _ _ => (pts_one (pt_cmpR op_in_sign (pv 3) pe_str (by rfl)))) (fun _ _ _ _ _ => (pv 3)))
    (pss_cons (ps_setLc (i := 4) (own := [("_law_sign", 3)]) (g := gName 3) rfl sc_l_is_line.nd rfl rfl (sw_true rfl rfl rfl (by decide +kernel)) (pi_str (pe_ix ix_tup (pv 0) pe_int (fun _ _ => rfl))) (blkOk_by (N := ["_law_value", "_law_houses", "_law_letters", "_law_sign", "_law_plain"]) (sc := defScope s_l_is_line) (by decide +kernel)) (fun _ _ _ _ _ => pg_name (i := 3) sc_l_is_line.nd rfl (Or.inl rfl)) (fun _ _ _ _ _ => (pts_one (pt_chain op_le_str op_le_str pe_str (pv 3) pe_str))) (fun _ _ _ _ _ => (pv 3)))
    (pss_one (ps_ret (pe_and (pe_chain op_le op_le pe_int (pe_callB call_len_str (by rfl) T.n_len (by decide +kernel) (pa_cons (pe_ix ix_tup (pv 0) pe_int (fun _ _ => rfl)) pa_nil)) pe_int) (pe_and (pe_cmpR (op_eqD hr.units) (pv 2) (pe_callTy (call_listS rfl) (by rfl) T.n_list (by decide +kernel) (pa_cons (pe_ix ix_tup (pv 0) pe_int (fun _ _ => rfl)) pa_nil)) (nomark _)) (pe_and (pe_cmpR op_le (pe_callB call_len_str (by rfl) T.n_len (by decide +kernel) (pa_cons (pe_ix ix_tup (pv 0) pe_int (fun _ _ => rfl)) pa_nil)) pe_int (nomark _)) (pe_one (pe_cmpR (op_eqD hr.units) (pv 4) (pe_callTy (call_listS rfl) (by rfl) T.n_list (by decide +kernel) (pa_cons (pe_ix ix_tup (pv 0) pe_int (fun _ _ => rfl)) pa_nil)) (nomark _)))))))))))), ?_⟩
  walk_at "rx"
  refine r_isiX (obT T) hd .tuple ?_
  walk_at "rx"
  cases hd with
  | @tup a xs ds ha hr2 =>
    have el := xvs_len hr2
    obtain ⟨l64, hs⟩ := sz_tup hz
    simp only [isTx]
    walk_at "rx"
    refine ⟨xs, .inr ha, rfl, ?_⟩
    replace k : ∀ H', Same H H' → Q (.bl (lineB (.tup ds) && homeB n (.tup ds))) H' := k
    by_cases h4 : ds.length = 4
    case neg =>
      rw [if_pos (by simpa using (show ¬ ((xs.length : Int) = 4) by omega))]
      have : lineB (.tup ds) = false := by
        unfold lineB
        split
        · rename_i q
          cases q
          exact absurd rfl h4
        · rfl
      rw [this, Bool.false_and] at k
      exact k H (Same.refl H)
    obtain ⟨d0, d1, d2, d3, rfl⟩ : ∃ d0 d1 d2 d3, ds = [d0, d1, d2, d3] := by
      match ds, h4 with
      | [a, b, c, d], _ => exact ⟨a, b, c, d, rfl⟩
    obtain ⟨x0, x1, x2, x3, rfl, q0, q1, q2, q3⟩ := xvs_four hr2
    have z2 : szX d2 = true := sz_at (i := 2) hs rfl
    have z3 : szX d3 = true := sz_at (i := 3) hs rfl
    simp only [lineB, homeB] at k
    rw [if_neg (by show ¬ (decide ((4 : Int) = 4) = false); decide)]
    refine r_ixT ha (by rfl) ⟨x0, d0, 0, rfl, q0, _, rfl, ?_⟩
    rw [wh0]
    cases e0 : cntB d0 with
    | false =>
      rw [if_pos rfl]
      rw [e0, Bool.false_and, Bool.false_and] at k
      exact k H (Same.refl H)
    | true =>
      rw [if_neg (by decide)]
      rw [e0, Bool.true_and] at k
      obtain ⟨h, rfl, hh⟩ := cnt_int e0
      cases q0
      refine r_ixT ha (by rfl) ⟨_, _, rfl, rfl, _, rfl, ?_⟩
      have idx : idxB n (.int h) = decide (h < (n : Int)) := by
        simp only [idxB]
        rw [decide_eq_true hh, Bool.true_and]
      rw [idx] at k
      by_cases c : (n : Int) ≤ h
      · rw [if_pos (decide_eq_true c)]
        rw [decide_eq_false (by omega), Bool.and_false] at k
        exact k H (Same.refl H)
      rw [if_neg (by rw [decide_eq_false c]; decide)]
      rw [decide_eq_true (show h < (n : Int) by omega), Bool.and_true] at k
      refine r_ixT ha (by rfl) ⟨x1, d1, 0, rfl, q1, _, rfl, ?_⟩
      rw [wh0]
      cases e1 : cntB d1 with
      | false =>
        rw [if_pos rfl]
        rw [e1, Bool.false_and] at k
        exact k H (Same.refl H)
      | true =>
        rw [if_neg (by decide)]
        rw [e1, Bool.true_and] at k
        refine r_ixT ha (by rfl) (r_isiX (obT T) q2 .str ⟨_, rfl, ?_⟩)
        cases q2 with
        | str z =>
          rw [if_neg (by simp [isSx])]
          refine r_ixT ha (by rfl) (r_isiX (obT T) q3 .str ⟨_, rfl, ?_⟩)
          cases q3 with
          | str y =>
            rw [if_neg (by simp [isSx])]
            obtain ⟨lz, az⟩ := sz_str z2
            obtain ⟨ly, ay⟩ := sz_str z3
            simp only [cellB, textB, celS] at k
            rw [alow, okS_all] at k
            refine ⟨_, rfl, ?_⟩
            dsimp only
            rw [e_c]
            refine r_ixT (i := 2) (v := .str z) ha (by rfl) ?_
            refine ⟨z, rfl, fun D hD => ?_⟩
            refine lc_sel walk_str (fun i => ((sg z)[i]?).bind fun c => if low c = true then some (V.str ⟨#[c]⟩) else none) hD (by have h1 : z.cps.size = z.length := rfl; omega) (fun _ _ => trivial) ?_ ?_
            · rintro j x Ha Hb R Rn hj S ⟨rfl, c, hc, rfl⟩ kR kN
              have hc' : (sg z)[j]? = some c := by
                show z.cps.toList[j]? = _
                rw [Array.getElem?_toList]
                exact hc
              rw [hc'] at kR kN
              refine ⟨rfl, ?_⟩
              walk_at "rx"
              refine ⟨c, rfl, ?_⟩
              cases hl : low c with
              | true =>
                rw [if_pos (of_decide_eq_true (by rw [alph_in]; exact hl))]
                exact kR _ (by simp [hl]) _ (Same.refl _)
              | false =>
                rw [if_neg (of_decide_eq_false (by rw [alph_in]; exact hl))]
                exact kN (by simp [hl]) _ (Same.refl _)
            intro H1 S1 fD
            rw [sel_ones] at fD
            have ha1 := sqT_mono S1 ha
            refine ⟨_, rfl, ?_⟩
            dsimp only
            rw [e_c]
            refine r_ixT (i := 3) (v := .str y) ha1 (by rfl) ?_
            refine ⟨y, rfl, fun D2 hD2 => ?_⟩
            refine lc_sel walk_str (fun i => ((sg y)[i]?).bind fun c => if pc c = true then some (V.str ⟨#[c]⟩) else none) hD2 (by have h1 : y.cps.size = y.length := rfl; omega) (fun _ _ => trivial) ?_ ?_
            · rintro j x Ha Hb R Rn hj S ⟨rfl, c, hc, rfl⟩ kR kN
              have hc' : (sg y)[j]? = some c := by
                show y.cps.toList[j]? = _
                rw [Array.getElem?_toList]
                exact hc
              rw [hc'] at kR kN
              refine ⟨rfl, ?_⟩
              walk_at "rx"
              have l1 : decide ([c] < (Str.ofString " ").cps.toList) = decide (c < 32) := by
                have : (Str.ofString " ").cps.toList = [32] := by decide +kernel
                rw [this]
                congr 1
                simp [List.cons_lt_cons_iff]
              have l2 : decide ((Str.ofString "~").cps.toList < [c]) = decide (126 < c) := by
                have : (Str.ofString "~").cps.toList = [126] := by decide +kernel
                rw [this]
                congr 1
                simp [List.cons_lt_cons_iff]
              rw [l1, l2]
              by_cases c1 : c < 32
              · rw [if_neg (by simpa using c1)]
                exact kN (by simp [pc]; omega) _ (Same.refl _)
              · rw [if_pos (by simpa using c1)]
                by_cases c2 : 126 < c
                · rw [if_neg (by simpa using c2)]
                  exact kN (by simp [pc]; omega) _ (Same.refl _)
                · rw [if_pos (by simpa using c2)]
                  exact kR _ (by simp [pc]; omega) _ (Same.refl _)
            intro H2 S2 fD2
            rw [sel_ones] at fD2
            have ha2 := sqT_mono S2 ha1
            have S12 := S1.trans S2
            have fD' := S2 _ _ fD
            refine r_ixT (v := .str z) ha2 (by rfl) ⟨z, rfl, by omega, ?_⟩
            by_cases g1 : (1 : Int) ≤ (z.length : Int)
            case neg =>
              rw [if_neg g1]
              rw [decide_eq_false (show ¬ (0 < z.length) by omega), Bool.false_and, Bool.and_false, Bool.false_and] at k
              exact k H2 S12
            rw [if_pos g1]
            rw [decide_eq_true (show 0 < z.length by omega), Bool.true_and] at k
            by_cases g8 : (z.length : Int) ≤ 8
            case neg =>
              rw [if_neg g8]
              rw [decide_eq_false (show ¬ (z.length ≤ 8) by omega), Bool.false_and, Bool.false_and] at k
              exact k H2 S12
            rw [if_pos g8]
            rw [decide_eq_true (show z.length ≤ 8 by omega), Bool.true_and] at k
            refine r_ixT (v := .str z) ha2 (by rfl) ⟨z, rfl, by omega, fun l hl _ => ?_⟩
            obtain ⟨H3, eh, S3, fl⟩ := gen_new (.lst (ones (sg z))) hl
            rw [eh]
            clear eh
            refine r_eq_sel (f := low) (l := sg z) az (S3 _ _ fD') fl ⟨_, rfl, ?_⟩
            cases ea : (sg z).all low with
            | false =>
              rw [if_neg (by decide)]
              rw [ea, Bool.false_and] at k
              exact k H3 (S12.trans S3)
            | true =>
              rw [if_pos rfl]
              rw [ea, Bool.true_and] at k
              have ha3 := sqT_mono S3 ha2
              refine r_ixT (v := .str y) ha3 (by rfl) ⟨y, rfl, by omega, ?_⟩
              by_cases g4 : (y.length : Int) ≤ 40
              case neg =>
                rw [if_neg g4]
                rw [decide_eq_false (show ¬ (y.length ≤ 40) by omega), Bool.and_false] at k
                exact k H3 (S12.trans S3)
              rw [if_pos g4]
              rw [decide_eq_true (show y.length ≤ 40 by omega), Bool.and_true] at k
              refine r_ixT (v := .str y) ha3 (by rfl) ⟨y, rfl, by omega, fun l2 hl2 _ => ?_⟩
              obtain ⟨H4, eh, S4, fl2⟩ := gen_new (.lst (ones (sg y))) hl2
              rw [eh]
              clear eh
              exact r_eq_sel (f := pc) (l := sg y) ay (S4 _ _ (S3 _ _ fD2)) fl2 (k H4 (S12.trans (S3.trans S4)))
          | _ =>
            rw [if_pos (by simp [isSx])]
            simp only [textB, Bool.and_false] at k
            exact k H (Same.refl H)
        | _ =>
          rw [if_pos (by simp [isSx])]
          exact k H (Same.refl H)
  | _ =>
    simp only [isTx]
    walk_at "rx"
    exact k H (Same.refl H)
end
end K32



namespace K32
open PySem L2 Nv Gr

theorem eqv_nil' (ds : List PyData) : PyData.eqv (.list ds) (.list []) = ds.isEmpty := by
  cases ds <;> simp [PyData.eqv, PyData.eqvAll]
theorem cut_take (xs : List V) {k : Nat} (h : k ≤ xs.length) : L2.cutV xs none (some (k : Int)) = xs.take k := by
  unfold L2.cutV
  rw [HT.sIx_none, HT.sIx_nat, List.drop_zero, Nat.sub_zero, Nat.min_eq_left h]
theorem r_take {K : PySem.W.Frag} {H : Hp} {Q : VK} {a : Addr} {xs : List V} {k : Nat} (h : SqT K H a xs) (l : k < xs.length) (q : ∀ p H', Same H H' → H' p = some (.tup (xs.take k)) → Q (.ref p) H') : rSlT K (.ref a) none (some (k : Int)) H Q := by
  refine ⟨a, xs, rfl, h, ?_, fun p hp => ?_⟩
  · rw [HT.sIx_nat]
    omega
  · rw [cut_take xs (by omega)]
    obtain ⟨H', e, S, f⟩ := gen_new (.tup (xs.take k)) hp
    rw [e]
    exact q p H' S f
theorem line_dp {K : PySem.W.Frag} {C : Addr} {H : Hp} {x : V} {d : XD} (h : XV K C H x d) (hl : lineB d = true) (hz : szX d = true) : ∃ e, Dp K H x e ∧ PyData.canLay0 e = true ∧ PyData.depth e ≤ 2 := by
  obtain ⟨i, n, z, y, rfl, _, _⟩ := lineB_of hl
  cases h with
  | @tup b ys ds1 hb hrb =>
    obtain ⟨x0, x1, x2, x3, rfl, q0, q1, q2, q3⟩ := xvs_four hrb
    cases q0
    cases q1
    cases q2
    cases q3
    obtain ⟨_, hs⟩ := sz_tup hz
    obtain ⟨_, a2⟩ := sz_str (sz_at (i := 2) hs rfl)
    obtain ⟨_, a3⟩ := sz_str (sz_at (i := 3) hs rfl)
    have ok : ∀ {z : Str}, Asc z → PyData.strOk z = true := fun {z} h => by
      unfold PyData.strOk
      rw [Array.all_eq_true_iff_forall_mem]
      intro c hc
      have := h c (by simpa using hc)
      exact decide_eq_true (by omega)
    refine ⟨.tuple [.int i, .int n, .str z, .str y], .tup hb (.cons (.int i) (.cons (.int n) (.cons (.str z) (.cons (.str y) .nil)))), ?_, ?_⟩
    · simp only [PyData.canLay0, PyData.canLayAll0, ok a2, ok a3, Bool.and_self]
    · simp only [PyData.depth, PyData.depthAll]
      omega
theorem lines_dp {K : PySem.W.Frag} {C : Addr} {H : Hp} : ∀ {L : List V}, (∀ x ∈ L, ∃ d, XV K C H x d ∧ lineB d = true ∧ szX d = true) → ∃ es, DpAll K H L es ∧ PyData.canLayAll0 es = true ∧ PyData.depth (.list es) ≤ 3 ∧ es.isEmpty = L.isEmpty
  | [], _ => ⟨[], .nil, rfl, by decide, rfl⟩
  | x :: L, h => by
    obtain ⟨d, q1, q2, q3⟩ := h x (List.mem_cons_self ..)
    obtain ⟨e, p1, p2, p3⟩ := line_dp q1 q2 q3
    obtain ⟨es, r1, r2, r3, _⟩ := lines_dp (L := L) fun y hy => h y (List.mem_cons_of_mem _ hy)
    refine ⟨e :: es, .cons p1 r1, by rw [PyData.canLayAll0, p2, r2]; rfl, ?_, rfl⟩
    simp only [PyData.depth, PyData.depthAll] at r3 ⊢
    omega
theorem r_ne_lines {K : PySem.W.Frag} {C : Addr} {H : Hp} {Q : VK} {p e : Addr} {L : List V} (h : H p = some (.lst L)) (he : H e = some (.lst [])) (b : ∀ x ∈ L, ∃ d, XV K C H x d ∧ lineB d = true ∧ szX d = true) (q : Q (.bl (!L.isEmpty)) H) : rNeD K (.ref p) (.ref e) H Q := by
  obtain ⟨es, r1, r2, r3, r4⟩ := lines_dp b
  refine ⟨.list es, .list [], .lst (.of h) r1, .lst (.of he) .nil, ?_, by decide, ?_⟩
  · unfold SeqAt.shaped
    rw [PyData.canLay0, r2, Bool.true_and]
    exact decide_eq_true (by omega)
  · rw [eqv_nil', r4]
    exact q
theorem rowB_iff {n : Nat} {ds : List XD} : rowB n ds = true ↔ (∀ d ∈ ds, lineB d = true ∧ homeB n d = true) ∧ (ds.map keyX).Nodup := by
  unfold rowB
  rw [Bool.and_eq_true, Bool.and_eq_true, List.all_eq_true, List.all_eq_true, decide_eq_true_eq]
  exact ⟨fun ⟨a, b, c⟩ => ⟨fun d hd => ⟨a d hd, b d hd⟩, c⟩, fun ⟨a, c⟩ => ⟨fun d hd => (a d hd).1, fun d hd => (a d hd).2, c⟩⟩
section
variable {P : Program} {w : World} {K : PySem.W.Frag} {mg : Str → Option Value} {base : Heap}
theorem ok_l_is_era (T : Tx K mg w.params) : FnG P w K mg base 2 T.d_l_is_era.f T.d_l_is_era.fd ["_law_value"] (spX K T.C_Tree eraB) := by
  refine okG0 T.d_l_is_era.F sc_l_is_era (fun vs H Q E h => ?_) (fun cdv A outer s H vs Q E hg hr h => ?_)
  · obtain ⟨v, d, rfl, _⟩ := h
    rfl
  obtain ⟨v, d, rfl, hd, k⟩ := h
  refine ⟨_, (pss_cons (ps_if (PW.pt (pw_or (pt_not (pt_val (pe_callB call_isiA (by rfl) T.n_isinstance (by decide +kernel) (pa_cons (pv 0) (pa_cons (pe_bltn (v := .ty "tuple") (by rfl) T.n_tuple (by decide +kernel) rfl) pa_nil))))) (pw_or1 (pt_cmpR op_ne (pe_callB call_len_seq (by rfl) T.n_len (by decide +kernel) (pa_cons (pv 0) pa_nil)) pe_int (nomark _)))))
      (pss_one (ps_ret pe_bl))
      pss_nil)
    (pss_one (ps_ret (pe_and (pe_cG (ok_l_whole T) T.d_l_whole.b takes0 hg (hr.mono (by decide)) T.d_l_whole.m T.d_l_whole.F.kp (pa_cons (pe_ix ix_tup (pv 0) pe_int (fun _ _ => rfl)) (pa_cons pe_int pa_nil))) (pe_and (pe_cG (ok_l_whole T) T.d_l_whole.b takes0 hg (hr.mono (by decide)) T.d_l_whole.m T.d_l_whole.F.kp (pa_cons (pe_ix ix_tup (pv 0) pe_int (fun _ _ => rfl)) (pa_cons pe_int pa_nil))) (pe_one (pe_cG (ok_l_whole T) T.d_l_whole.b takes0 hg (hr.mono (by decide)) T.d_l_whole.m T.d_l_whole.F.kp (pa_cons (pe_ix ix_tup (pv 0) pe_int (fun _ _ => rfl)) (pa_cons pe_int pa_nil))))))))), ?_⟩
  walk_at "rx"
  refine r_isiX (obT T) hd .tuple ?_
  walk_at "rx"
  cases hd with
  | @tup a xs ds ha hr2 =>
    have el := xvs_len hr2
    simp only [isTx]
    walk_at "rx"
    refine ⟨xs, .inr ha, rfl, ?_⟩
    by_cases h3 : ds.length = 3
    · obtain ⟨d0, d1, d2, rfl⟩ : ∃ d0 d1 d2, ds = [d0, d1, d2] := by
        match ds, h3 with
        | [a, b, c], _ => exact ⟨a, b, c, rfl⟩
      obtain ⟨x0, x1, x2, rfl, q0, q1, q2⟩ := xvs_three hr2
      rw [if_neg (by show ¬ (decide ((3 : Int) = 3) = false); decide)]
      simp only [eraB] at k
      refine r_ixT ha (by rfl) ⟨x0, d0, 1, rfl, q0, _, rfl, ?_⟩
      rw [wh1]
      cases e0 : lifB d0 with
      | false =>
        rw [e0, Bool.false_and] at k
        exact k
      | true =>
        rw [e0, Bool.true_and] at k
        rw [if_pos rfl]
        refine r_ixT ha (by rfl) ⟨x1, d1, 0, rfl, q1, _, rfl, ?_⟩
        rw [wh0]
        cases e1 : cntB d1 with
        | false =>
          rw [e1, Bool.false_and] at k
          exact k
        | true =>
          rw [e1, Bool.true_and] at k
          rw [if_pos rfl]
          refine r_ixT ha (by rfl) ⟨x2, d2, 1, rfl, q2, ?_⟩
          rw [wh1]
          exact k
    · have e4 : ¬ ((xs.length : Int) = 3) := by omega
      rw [if_pos (by simpa using e4)]
      have : eraB (.tup ds) = false := by
        unfold eraB
        split
        · rename_i q
          cases q
          exact absurd rfl h3
        · rfl
      rw [this] at k
      exact k
  | _ =>
    simp only [isTx]
    walk_at "rx"
    exact k
theorem ok_l_are_lines (T : Tx K mg w.params) : FnG P w K mg base 3 T.d_l_are_lines.f T.d_l_are_lines.fd ["_law_value", "_law_houses"] (spLine K T.C_Tree rowX) := by
  refine okG0 T.d_l_are_lines.F sc_l_are_lines (fun vs H Q E h => ?_) (fun cdv A outer s H vs Q E hg hr h => ?_)
  · obtain ⟨v, d, n, rfl, _⟩ := h
    rfl
  obtain ⟨v, d, n, rfl, hd, hz, k⟩ := h
  have sz : sizeLine = 16777216 := sizeLine_eq
  refine ⟨_, (pss_cons (ps_if (pt_not (pt_val (pe_callB call_isiA (by rfl) T.n_isinstance (by decide +kernel) (pa_cons (pv 0) (pa_cons (pe_bltn (v := .ty "tuple") (by rfl) T.n_tuple (by decide +kernel) rfl) pa_nil)))))
      (pss_one (ps_ret pe_bl))
      pss_nil)
    (pss_cons (ps_for PassesOwn.never rfl (pi_range1 (by rfl) T.n_range (pa_cons (pe_callB call_len_seq (by rfl) T.n_len (by decide +kernel) (pa_cons (pv 0) pa_nil)) pa_nil)) (pg_name (i := 2) sc_l_are_lines.nd rfl (Or.inr rfl))
      (pss_cons (ps_if (pt_not (pt_val (pe_cG (ok_l_is_line T) T.d_l_is_line.b takes0 hg (hr.mono (by decide)) T.d_l_is_line.m T.d_l_is_line.F.kp (pa_cons (pe_ix ix_tup (pv 0) (pv 2) (fun _ _ => rfl)) (pa_cons (pv 1) pa_nil)))))
        (pss_one (ps_ret pe_bl))
        pss_nil)
      (pss_one (ps_if (pt_cmpR (op_neD hr.units) (pe_lc (own := [("_law_line_here", 3)]) (g := gName 3) rfl sc_l_are_lines.nd (pi_tup (pe_slice sl_tup (pv 0) po_none (po_some (pv 2)))) (blkOk_by (N := ["_law_value", "_law_houses", "_law_k", "_law_line_here"]) (sc := defScope s_l_are_lines) (by decide +kernel)) (fun _ _ _ _ _ => pg_name (i := 3) sc_l_are_lines.nd rfl (Or.inl rfl)) (fun _ _ _ _ _ => (pts_one (pt_cmpR (op_eqDK (K := K) rfl hr.units) (pe_slice (sl_tupK (K := K) rfl) (pv 3) po_none (po_some pe_int)) (pe_slice (sl_tupK (K := K) rfl) (pe_ix (ix_tupK (K := K) rfl) (pv 0) (pv 2) (fun _ _ => rfl)) po_none (po_some pe_int)) (nomark _)))) (fun _ _ _ _ _ => (pv 3))) (pe_lst1 pa_nil) (nomark _))
        (pss_one (ps_ret pe_bl))
        pss_nil))))
    (pss_one (ps_ret pe_bl)))), ?_⟩
  walk_at "rx"
  refine r_isiX (obT T) hd .tuple ?_
  walk_at "rx"
  cases hd with
  | @tup a xs ds ha hr2 =>
    have el := xvs_len hr2
    obtain ⟨l64, hs⟩ := sz_tup hz
    simp only [isTx]
    walk_at "rx"
    replace k : ∀ H', Same H H' → Q (.bl (rowB n ds)) H' := k
    refine ⟨_, rfl, a, rfl, xs, .inr ha, _, rfl, by omega, by omega, ?_⟩
    refine for_range (D := { nx := tRet (tC (V.bl true)) { nx := fun x H' => Q V.non H', rt := Q }, rt := Q }) (fun i σ H' => (∃ u, σ = [some (.ref a), some (.int (n : Int)), u, none]) ∧ Same H H' ∧ (∀ d ∈ ds.take i, lineB d = true ∧ homeB n d = true) ∧ ((ds.take i).map keyX).Nodup) ⟨⟨_, rfl⟩, Same.refl H, by simp, by simp⟩ ?_ ?_
    · rintro i σ Ha hi ⟨⟨u, rfl⟩, S, al, nd⟩
      have hi' : i < ds.length := by omega
      obtain ⟨x, hx⟩ : ∃ x, xs[i]? = some x := ⟨_, List.getElem?_eq_getElem (by omega)⟩
      obtain ⟨d, hdi, xv⟩ := xvs_at hr2 hx
      have haa := sqT_mono S ha
      have hra := XVs.mono S hr2
      have ixe : atI xs (0 + (i : Int)) = some x := by
        simp only [Int.zero_add]
        exact atI_nat hx
      walk_at "rx"
      refine r_ixT haa ixe ⟨x, d, n, rfl, xv.mono S, sz_at hs hdi, fun H1 S1 => ⟨_, rfl, ?_⟩⟩
      cases e : lineB d && homeB n d with
      | false =>
        rw [if_pos (by show (lineB d && homeB n d) = false; exact e)]
        have : rowB n ds = false := by
          rw [Bool.eq_false_iff]
          intro h
          have := (rowB_iff.mp h).1 d (List.mem_of_getElem? hdi)
          rw [this.1, this.2] at e
          cases e
        rw [this] at k
        exact k H1 (S.trans S1)
      | true =>
        rw [if_neg (by show ¬ ((lineB d && homeB n d) = false); rw [e]; decide)]
        walk_at "rx"
        rw [Bool.and_eq_true] at e
        have S01 := S.trans S1
        have ha1 := sqT_mono S1 haa
        refine ⟨_, rfl, _, rfl, ?_⟩
        simp only [Int.zero_add]
        refine ⟨_, rfl, r_take (k := i) ha1 (by omega) fun t H2 S2 ft => ?_⟩
        refine ⟨_, rfl, ⟨_, .inl (.inl ft)⟩, fun D hD => ?_⟩
        have ht : SqT K H2 t (xs.take i) := .inl (.inl ft)
        refine lc_sel (walk_tup (K := K) (a := t) (xs := xs.take i)) (fun j => (xs[j]?).bind fun x => if keyX (ds.getD j .non) = keyX d then some x else none) hD (by rw [List.length_take]; omega) (fun H' S => sqT_mono S ht) ?_ ?_
        · rintro j y Ha Hb R Rn hj S3 ⟨rfl, hy⟩ kR kN
          have hji : j < i := by
            have := hj
            rw [List.length_take] at this
            omega
          rw [List.getElem?_take, if_pos hji] at hy
          obtain ⟨dj, hdj, xvj⟩ := xvs_at hra hy
          have lj : lineB dj = true := (al dj (List.mem_of_getElem? ((List.getElem?_take_of_lt hji).trans hdj))).1
          have S13 := S1.trans (S2.trans S3)
          rw [hy] at kR kN
          have ej : ds.getD j .non = dj := by
            rw [List.getD_eq_getElem?_getD, hdj]
            rfl
          rw [ej] at kR kN
          obtain ⟨h1, n1, z1, y1, rfl, _, _⟩ := lineB_of lj
          obtain ⟨h2, n2, z2, y2, rfl, _, _⟩ := lineB_of e.1
          have hai := sqT_mono S13 haa
          cases xvj.mono S13 with
          | @tup b1 ys1 ds1 hb1 hrb1 =>
            obtain ⟨x0, x1, x2, x3, rfl, q0, q1, q2, q3⟩ := xvs_four hrb1
            cases q0
            cases q1
            cases xv.mono (S.trans S13) with
            | @tup b2 ys2 ds2 hb2 hrb2 =>
              obtain ⟨w0, w1, w2, w3, rfl, p0, p1, p2, p3⟩ := xvs_four hrb2
              cases p0
              cases p1
              refine ⟨rfl, ?_⟩
              walk_at "rx"
              refine r_take (k := 2) hb1 (show 2 < 4 by decide) fun t1 H4 S4 f4 => ?_
              refine r_ixT (sqT_mono S4 hai) (atI_nat hx) ?_
              refine r_take (k := 2) (sqT_mono S4 hb2) (show 2 < 4 by decide) fun t2 H5 S5 f5 => ?_
              refine ⟨_, _, .tup (.inl (.inl (S5 _ _ f4))) (.cons (.int h1) (.cons (.int n1) .nil)), .tup (.inl (.inl f5)) (.cons (.int h2) (.cons (.int n2) .nil)), (show SeqAt.shaped (.tuple [.int h1, .int n1]) = true by rfl), (show SeqAt.shaped (.tuple [.int h2, .int n2]) = true by rfl), _, rfl, ?_⟩
              have ev : PyData.eqv (.tuple [.int h1, .int n1]) (.tuple [.int h2, .int n2]) = decide (keyX (.tup [.int h1, .int n1, .str z1, .str y1]) = keyX (.tup [.int h2, .int n2, .str z2, .str y2])) := by
                simp [PyData.eqv, PyData.eqvAll, keyX, Bool.decide_and]
                rfl
              rw [ev]
              have S45 := S4.trans S5
              by_cases c : keyX (.tup [.int h1, .int n1, .str z1, .str y1]) = keyX (.tup [.int h2, .int n2, .str z2, .str y2])
              · rw [if_pos (decide_eq_true c)]
                exact kR _ (if_pos c) _ S45
              · rw [if_neg (by simpa using c)]
                exact kN (if_neg c) _ S45
        · intro H3 S3 fD
          refine ⟨by omega, fun p hp _ => ?_⟩
          have S23 := S2.trans S3
          obtain ⟨H4, eh, S4, fe⟩ := gen_new (.lst []) hp
          rw [eh]
          clear eh
          have mem : ∀ {x}, x ∈ (List.filterMap (fun j => xs[j]?.bind fun x => if keyX (ds.getD j XD.non) = keyX d then some x else none) (List.range (List.take i xs).length)) ↔ ∃ j dj, j < i ∧ xs[j]? = some x ∧ ds[j]? = some dj ∧ keyX dj = keyX d := by
            intro y
            rw [List.mem_filterMap]
            constructor
            · rintro ⟨j, hj, e2⟩
              rw [List.mem_range, List.length_take] at hj
              obtain ⟨z, hz, e3⟩ := Option.bind_eq_some_iff.mp e2
              obtain ⟨dj, hdj, _⟩ := xvs_at hra hz
              rw [List.getD_eq_getElem?_getD, hdj] at e3
              by_cases c : keyX dj = keyX d
              · rw [show (some dj).getD XD.non = dj from rfl, if_pos c] at e3
                cases e3
                exact ⟨j, dj, by omega, hz, hdj, c⟩
              · rw [show (some dj).getD XD.non = dj from rfl, if_neg c] at e3
                cases e3
            · rintro ⟨j, dj, hj, hz, hdj, c⟩
              refine ⟨j, by rw [List.mem_range, List.length_take]; omega, ?_⟩
              rw [hz, List.getD_eq_getElem?_getD, hdj]
              exact if_pos c
          refine r_ne_lines (S4 _ _ fD) fe (C := T.C_Tree) (fun y hy => ?_) ⟨_, rfl, ?_⟩
          · obtain ⟨j, dj, hj, hz, hdj, _⟩ := mem.mp hy
            obtain ⟨dj2, hdj2, xvj⟩ := xvs_at hra hz
            rw [hdj] at hdj2
            cases hdj2
            exact ⟨dj, xvj.mono (S1.trans (S23.trans S4)), (al dj (List.mem_of_getElem? ((List.getElem?_take_of_lt hj).trans hdj))).1, sz_at hs hdj⟩
          · have tk : ds.take (i + 1) = ds.take i ++ [d] := by
              rw [List.take_succ, hdi]
              rfl
            split
            · rename_i ne
              have : rowB n ds = false := by
                rw [Bool.eq_false_iff]
                intro h
                have nd2 := (rowB_iff.mp h).2
                have nd3 : ((ds.take (i + 1)).map keyX).Nodup := by
                  rw [List.map_take]
                  exact nd2.sublist (List.take_sublist _ _)
                rw [tk, List.map_append, List.nodup_append] at nd3
                rw [Bool.not_eq_true', List.isEmpty_eq_false_iff_exists_mem] at ne
                obtain ⟨y, hy⟩ := ne
                obtain ⟨j, dj, hj, hz, hdj, c⟩ := mem.mp hy
                exact nd3.2.2 _ (List.mem_map_of_mem (List.mem_of_getElem? ((List.getElem?_take_of_lt hj).trans hdj))) _ (List.mem_map_of_mem (List.mem_singleton.mpr rfl)) c
              rw [this] at k
              exact k H4 (S01.trans (S23.trans S4))
            · rename_i ne
              refine ⟨⟨_, rfl⟩, S01.trans (S23.trans S4), ?_, ?_⟩
              · intro y hy
                rw [tk, List.mem_append, List.mem_singleton] at hy
                rcases hy with hy | rfl
                · exact al y hy
                · exact e
              · rw [tk, List.map_append, List.nodup_append]
                refine ⟨nd, by simp, ?_⟩
                intro u hu v hv c
                rw [List.map_singleton, List.mem_singleton] at hv
                obtain ⟨dj, hdj, rfl⟩ := List.mem_map.mp hu
                obtain ⟨j, hj⟩ := List.getElem?_of_mem hdj
                have lj : j < i := by
                  have := (List.getElem?_eq_some_iff.mp hj).1
                  rw [List.length_take] at this
                  omega
                rw [List.getElem?_take_of_lt lj] at hj
                have hxj : xs[j]? = some xs[j] := List.getElem?_eq_getElem (by omega)
                have := mem.mpr ⟨j, dj, lj, hxj, hj, c.trans hv⟩
                exact ne (by
                  rw [List.isEmpty_eq_false_iff_exists_mem.mpr ⟨_, this⟩]
                  rfl)
    · rintro σ Ha ⟨⟨u, rfl⟩, S, al, nd⟩
      walk_at "rx"
      have e : xs.length = ds.length := el
      simp only [Int.toNat_natCast, e, List.take_length] at al nd
      have := rowB_iff.mpr ⟨al, nd⟩
      rw [this] at k
      exact k Ha S
  | _ =>
    simp only [isTx]
    walk_at "rx"
    exact k H (Same.refl H)
end
end K32



namespace K32
open PySem L2 Nv Gr

def wordsL : List Str := ["halt", "held", "sure", "still", "elder", "take", "taken", "have", "lines"]
def shapesL : List Str := ["", "hlt", "", "hl", "", "lct", "h", "hc", "hct"]
def itemL (n : Nat) (z : Str) (d : XD) : Bool := if z = "h" then idxB n d else if z = "t" then rowX n d else if z = "l" then lifB d else cntB d
/-- one sign of a shape against the word in the table -/
def Sg (c : Nat) (w : Str) : Prop := ∀ n d, itemL n ⟨#[c]⟩ d = itemX n w d
theorem sg_h : Sg 104 "house" := fun n d => rfl
theorem sg_t : Sg 116 "lines" := fun n d => rfl
theorem sg_l : Sg 108 "life" := fun n d => rfl
theorem sg_c : Sg 99 "count" := fun n d => rfl
theorem sg_s : Sg 99 "start" := fun n d => rfl
structure Shp (z sh : Str) (ws : List Str) (j : Nat) : Prop where
  at_w : wordsL[j]? = some z
  at_s : shapesL[j]? = some sh
  fm : formL z = some ws
  ln : sh.length = ws.length
  l3 : ws.length ≤ 3
  sg : ∀ (i : Nat) (w : Str), ws[i]? = some w → ∃ c, sh.cps.toList[i]? = some c ∧ Sg c w
inductive SgL : List Nat → List Str → Prop
  | nil : SgL [] []
  | cons {c : Nat} {w : Str} {cs : List Nat} {ws : List Str} : Sg c w → SgL cs ws → SgL (c :: cs) (w :: ws)
theorem shp_at (z : Str) : (z ∉ wordsL ∧ formL z = none) ∨ ∃ sh ws j, Shp z sh ws j := by
  by_cases h : z ∈ wordsL
  · refine .inr ?_
    simp only [wordsL, List.mem_cons, List.not_mem_nil, or_false] at h
    have s0 : ∀ {sh : Str} (i : Nat) (w : Str), ([] : List Str)[i]? = some w → ∃ c, sh.cps.toList[i]? = some c ∧ Sg c w := fun i w e => by simp at e
    have ex : ∀ {cs : List Nat} {ws : List Str}, SgL cs ws → ∀ (i : Nat) (w : Str), ws[i]? = some w → ∃ c, cs[i]? = some c ∧ Sg c w := by
      intro cs ws f
      induction f with
      | nil => intro i w e; simp at e
      | cons a _ ih =>
        intro i w e
        cases i with
        | zero =>
          cases e
          exact ⟨_, rfl, a⟩
        | succ i => exact ih i w e
    rcases h with rfl | rfl | rfl | rfl | rfl | rfl | rfl | rfl | rfl
    · exact ⟨"", [], 0, rfl, rfl, (show formL "halt" = (some [] : Option (List Str)) by decide +kernel), rfl, by decide, s0⟩
    · exact ⟨"hlt", ["house", "life", "lines"], 1, rfl, rfl, (show formL "held" = (some ["house", "life", "lines"] : Option (List Str)) by decide +kernel), rfl, by decide, ex (cs := [104, 108, 116]) (.cons sg_h (.cons sg_l (.cons sg_t .nil)))⟩
    · exact ⟨"", [], 2, rfl, rfl, (show formL "sure" = (some [] : Option (List Str)) by decide +kernel), rfl, by decide, s0⟩
    · exact ⟨"hl", ["house", "life"], 3, rfl, rfl, (show formL "still" = (some ["house", "life"] : Option (List Str)) by decide +kernel), rfl, by decide, ex (cs := [104, 108]) (.cons sg_h (.cons sg_l .nil))⟩
    · exact ⟨"", [], 4, rfl, rfl, (show formL "elder" = (some [] : Option (List Str)) by decide +kernel), rfl, by decide, s0⟩
    · exact ⟨"lct", ["life", "start", "lines"], 5, rfl, rfl, (show formL "take" = (some ["life", "start", "lines"] : Option (List Str)) by decide +kernel), rfl, by decide, ex (cs := [108, 99, 116]) (.cons sg_l (.cons sg_s (.cons sg_t .nil)))⟩
    · exact ⟨"h", ["house"], 6, rfl, rfl, (show formL "taken" = (some ["house"] : Option (List Str)) by decide +kernel), rfl, by decide, ex (cs := [104]) (.cons sg_h .nil)⟩
    · exact ⟨"hc", ["house", "count"], 7, rfl, rfl, (show formL "have" = (some ["house", "count"] : Option (List Str)) by decide +kernel), rfl, by decide, ex (cs := [104, 99]) (.cons sg_h (.cons sg_c .nil))⟩
    · exact ⟨"hct", ["house", "start", "lines"], 8, rfl, rfl, (show formL "lines" = (some ["house", "start", "lines"] : Option (List Str)) by decide +kernel), rfl, by decide, ex (cs := [104, 99, 116]) (.cons sg_h (.cons sg_s (.cons sg_t .nil)))⟩
  · refine .inl ⟨h, ?_⟩
    simp only [wordsL, List.mem_cons, List.not_mem_nil, or_false, not_or] at h
    unfold formL
    rw [List.find?_eq_none.mpr]
    · rfl
    · simp only [forms, List.mem_cons, List.not_mem_nil, or_false, forall_eq_or_imp, forall_eq, beq_iff_eq]
      exact ⟨fun e => h.1 e.symm, fun e => h.2.1 e.symm, fun e => h.2.2.1 e.symm, fun e => h.2.2.2.1 e.symm, fun e => h.2.2.2.2.1 e.symm, fun e => h.2.2.2.2.2.1 e.symm, fun e => h.2.2.2.2.2.2.1 e.symm, fun e => h.2.2.2.2.2.2.2.1 e.symm, fun e => h.2.2.2.2.2.2.2.2 e.symm⟩
theorem xvs_two {K : PySem.W.Frag} {C : Addr} {H : Hp} {xs : List V} {a b : XD} {ds : List XD} (h : XVs K C H xs (a :: b :: ds)) : ∃ x0 x1 xr, xs = x0 :: x1 :: xr ∧ XV K C H x0 a ∧ XV K C H x1 b ∧ XVs K C H xr ds := by
  cases h with
  | cons h0 h =>
    cases h with
    | cons h1 h => exact ⟨_, _, _, rfl, h0, h1, h⟩
theorem in_words (z : Str) : inV (.str z) (wordsL.map V.str) = decide (z ∈ wordsL) := by
  unfold inV
  rw [List.any_map, Bool.eq_iff_iff, List.any_eq_true, decide_eq_true_eq]
  constructor
  · rintro ⟨y, hy, e⟩
    have : (y == z) = true := e
    rw [beq_iff_eq] at this
    rw [← this]
    exact hy
  · intro h
    exact ⟨z, h, show (z == z) = true from beq_self_eq_true z⟩
theorem dp_txts {K : PySem.W.Frag} {H : Hp} : ∀ l : List Str, DpAll K H (l.map V.str) (l.map PyData.str)
  | [] => .nil
  | z :: r => .cons (.str z) (dp_txts r)
theorem letB_cons {n : Nat} {z : Str} {d1 : XD} {dr : List XD} (e1 : eraB d1 = true) : letB n (.tup (.str z :: d1 :: dr)) = match formL z with
    | some ws => eraHome n d1 && (decide (dr.length = ws.length) && (ws.zip dr).all fun p => itemX n p.1 p.2)
    | none => false := by
  simp only [letB, restB, e1, Bool.true_and]
  all_goals (cases formL z <;> rfl)
theorem eraB_of {d : XD} (h : eraB d = true) : ∃ t i u, d = .tup [.int t, .int i, .int u] ∧ 0 ≤ i := by
  unfold eraB at h
  split at h
  · rename_i a b c
    rw [Bool.and_eq_true, Bool.and_eq_true] at h
    obtain ⟨i, rfl, hi⟩ := cnt_int h.2.1
    have l : ∀ {d : XD}, lifB d = true → ∃ i, d = .int i := fun {d} h => by
      cases d with
      | int i => exact ⟨i, rfl⟩
      | _ => cases h
    obtain ⟨t, rfl⟩ := l h.1
    obtain ⟨u, rfl⟩ := l h.2.2
    exact ⟨t, i, u, rfl, hi⟩
  · cases h
theorem asc_ok {z : Str} (h : Asc z) : PyData.canLay0 (.str z) = true := by
  unfold PyData.canLay0 PyData.strOk
  rw [Array.all_eq_true_iff_forall_mem]
  intro c hc
  have := h c (by simpa using hc)
  exact decide_eq_true (by omega)
theorem nodup_words : wordsL.Nodup := by decide +kernel
def spLI (K : PySem.W.Frag) (C : Addr) : Sp := fun vs H Q _ => ∃ v d z n, vs = [v, .str z, .int ((n : Nat) : Int)] ∧ XV K C H v d ∧ szX d = true ∧ ∀ H', Same H H' → Q (.bl (itemL n z d)) H'
section
variable {P : Program} {w : World} {K : PySem.W.Frag} {mg : Str → Option Value} {base : Heap}
theorem ok_l_words (T : Tx K mg w.params) : FnG P w K mg base 1 T.d_l_words.f T.d_l_words.fd [] (fun vs H Q _ => vs = [] ∧ ∀ p H', Same H H' → H' p = some (.lst (wordsL.map V.str)) → Q (.ref p) H') := by
  refine okG0 T.d_l_words.F sc_l_words (fun vs H Q E h => ?_) (fun cdv A outer s H vs Q E hg hr h => ?_)
  · obtain ⟨rfl, _⟩ := h
    rfl
  obtain ⟨rfl, k⟩ := h
  refine ⟨_, (pss_one (ps_ret (pe_lst1 (pa_cons pe_str (pa_cons pe_str (pa_cons pe_str (pa_cons pe_str (pa_cons pe_str (pa_cons pe_str (pa_cons pe_str (pa_cons pe_str (pa_cons pe_str pa_nil)))))))))))), ?_⟩
  have sz : sizeLine = 16777216 := sizeLine_eq
  walk_at "rx"
  refine ⟨by omega, fun p hp _ => ?_⟩
  obtain ⟨H', eh, S, f⟩ := gen_new (.lst (wordsL.map V.str)) hp
  exact k p _ (Same.new hp) upd_same
theorem ok_l_item (T : Tx K mg w.params) : FnG P w K mg base 4 T.d_l_item.f T.d_l_item.fd ["_law_value", "_law_sign", "_law_houses"] (spLI K T.C_Tree) := by
  refine okG0 T.d_l_item.F sc_l_item (fun vs H Q E h => ?_) (fun cdv A outer s H vs Q E hg hr h => ?_)
  · obtain ⟨v, d, z, n, rfl, _⟩ := h
    rfl
  obtain ⟨v, d, z, n, rfl, hd, hz, k⟩ := h
  refine ⟨_, (pss_cons (ps_if (pt_cmpR op_eq (pv 1) pe_str (nomark _))
      (pss_one (ps_ret (pe_and (pe_cG (ok_l_whole T) T.d_l_whole.b takes0 hg (hr.mono (by decide)) T.d_l_whole.m T.d_l_whole.F.kp (pa_cons (pv 0) (pa_cons pe_int pa_nil))) (pe_one (pe_cmpR op_lt (pv 0) (pv 2) (nomark _))))))
      pss_nil)
    (pss_cons (ps_if (pt_cmpR op_eq (pv 1) pe_str (nomark _))
      (pss_one (ps_ret (pe_cG (ok_l_are_lines T) T.d_l_are_lines.b takes0 hg (hr.mono (by decide)) T.d_l_are_lines.m T.d_l_are_lines.F.kp (pa_cons (pv 0) (pa_cons (pv 2) pa_nil)))))
      pss_nil)
    (pss_one (ps_ret (pe_cG (ok_l_whole T) T.d_l_whole.b takes0 hg (hr.mono (by decide)) T.d_l_whole.m T.d_l_whole.F.kp (pa_cons (pv 0) (pa_cons (pe_ifExp (pt_cmpR op_eq (pv 1) pe_str (nomark _)) pe_int pe_int) pa_nil))))))), ?_⟩
  walk_at "rx"
  refine ⟨rfl, ?_⟩
  unfold itemL at k
  by_cases e1 : z = "h"
  · rw [if_pos e1]
    rw [if_pos e1] at k
    refine ⟨v, d, 0, rfl, hd, _, rfl, ?_⟩
    rw [wh0]
    cases e : cntB d with
    | false =>
      rw [if_neg (by decide)]
      have : idxB n d = false := by
        cases d with
        | int i =>
          simp only [cntB] at e
          simp only [idxB]
          rw [e]
          rfl
        | _ => rfl
      rw [this] at k
      exact k H (Same.refl H)
    | true =>
      rw [if_pos rfl]
      obtain ⟨h, rfl, hh⟩ := cnt_int e
      cases hd
      refine ⟨_, _, rfl, rfl, ?_⟩
      simp only [idxB, decide_eq_true hh, Bool.true_and] at k
      exact k H (Same.refl H)
  · rw [if_neg e1]
    rw [if_neg e1] at k
    refine ⟨rfl, ?_⟩
    by_cases e2 : z = "t"
    · rw [if_pos e2]
      rw [if_pos e2] at k
      exact ⟨v, d, n, rfl, hd, hz, k⟩
    · rw [if_neg e2]
      rw [if_neg e2] at k
      refine ⟨rfl, ?_⟩
      by_cases e3 : z = "l"
      · rw [if_pos e3]
        rw [if_pos e3] at k
        refine ⟨v, d, 1, rfl, hd, ?_⟩
        rw [wh1]
        exact k H (Same.refl H)
      · rw [if_neg e3]
        rw [if_neg e3] at k
        refine ⟨v, d, 0, rfl, hd, ?_⟩
        rw [wh0]
        exact k H (Same.refl H)
theorem ok_l_is_letter (T : Tx K mg w.params) : FnG P w K mg base 5 T.d_l_is_letter.f T.d_l_is_letter.fd ["_law_value", "_law_houses"] (spLine K T.C_Tree letB) := by
  refine okG0 T.d_l_is_letter.F sc_l_is_letter (fun vs H Q E h => ?_) (fun cdv A outer s H vs Q E hg hr h => ?_)
  · obtain ⟨v, d, n, rfl, _⟩ := h
    rfl
  obtain ⟨v, d, n, rfl, hd, hz, k⟩ := h
  have sz : sizeLine = 16777216 := sizeLine_eq
  refine ⟨_, (pss_cons (ps_if (PW.pt (pw_or (pt_not (pt_val (pe_callB call_isiA (by rfl) T.n_isinstance (by decide +kernel) (pa_cons (pv 0) (pa_cons (pe_bltn (v := .ty "tuple") (by rfl) T.n_tuple (by decide +kernel) rfl) pa_nil))))) (pw_or (pt_cmpR op_lt (pe_callB call_len_seq (by rfl) T.n_len (by decide +kernel) (pa_cons (pv 0) pa_nil)) pe_int (nomark _)) (pw_or (pt_not (pt_val (pe_callB call_isiA (by rfl) T.n_isinstance (by decide +kernel) (pa_cons (pe_ix ix_tup (pv 0) pe_int (fun _ _ => rfl)) (pa_cons (pe_bltn (v := .ty "str") (by rfl) T.n_str (by decide +kernel) rfl) pa_nil))))) (pw_or1 (pt_not (pt_val (pe_cG (ok_l_is_era T) T.d_l_is_era.b takes0 hg (hr.mono (by decide)) T.d_l_is_era.m T.d_l_is_era.F.kp (pa_cons (pe_ix ix_tup (pv 0) pe_int (fun _ _ => rfl)) pa_nil)))))))))
      (pss_one (ps_ret pe_bl))
      pss_nil)
    (pss_cons (ps_if (PW.pt (pw_or (pt_cmpR op_notIn_seq (pe_ix ix_tup (pv 0) pe_int (fun _ _ => rfl)) (pe_cG0 (ok_l_words T) T.d_l_words.b takes0 hg (hr.mono (by decide)) T.d_l_words.m T.d_l_words.F.kp) (by rfl)) (pw_or1 (pt_cmpR op_ge (pe_ix ix_tup (pe_ix ix_tup (pv 0) pe_int (fun _ _ => rfl)) pe_int (fun _ _ => rfl)) (pv 1) (nomark _)))))
      (pss_one (ps_ret pe_bl))
      pss_nil)
    (pss_cons (ps_set (i := 2) sc_l_is_letter.nd rfl (Or.inl rfl) (pe_ix ix_list (pe_lst1 (pa_cons pe_str (pa_cons pe_str (pa_cons pe_str (pa_cons pe_str (pa_cons pe_str (pa_cons pe_str (pa_cons pe_str (pa_cons pe_str (pa_cons pe_str pa_nil)))))))))) (pe_bm PySem.F.plainAttrs_list PySem.F.slot_list_index PySem.F.type_list_index (mt_indexD (units65 hr)) (pe_cG0 (ok_l_words T) T.d_l_words.b takes0 hg (hr.mono (by decide)) T.d_l_words.m T.d_l_words.F.kp) (pa_cons (pe_ix ix_tup (pv 0) pe_int (fun _ _ => rfl)) pa_nil)) (fun _ _ => rfl)))
    (pss_cons (ps_if (pt_cmpR op_ne (pe_callB call_len_seq (by rfl) T.n_len (by decide +kernel) (pa_cons (pv 0) pa_nil)) (pe_op op_add pe_int (pe_callB call_len_str (by rfl) T.n_len (by decide +kernel) (pa_cons (pv 2) pa_nil))) (nomark _))
      (pss_one (ps_ret pe_bl))
      pss_nil)
    (pss_cons (ps_for PassesOwn.never rfl (pi_range1 (by rfl) T.n_range (pa_cons (pe_callB call_len_str (by rfl) T.n_len (by decide +kernel) (pa_cons (pv 2) pa_nil)) pa_nil)) (pg_name (i := 3) sc_l_is_letter.nd rfl (Or.inl rfl))
      (pss_one (ps_if (pt_not (pt_val (pe_cG (ok_l_item T) T.d_l_item.b takes0 hg (hr.mono (by decide)) T.d_l_item.m T.d_l_item.F.kp (pa_cons (pe_ix ix_tup (pv 0) (pe_op op_add pe_int (pv 3)) (fun _ _ => rfl)) (pa_cons (pe_ix ix_str (pv 2) (pv 3) (fun _ _ => rfl)) (pa_cons (pv 1) pa_nil))))))
        (pss_one (ps_ret pe_bl))
        pss_nil)))
    (pss_one (ps_ret pe_bl))))))), ?_⟩
  walk_at "rx"
  refine r_isiX (obT T) hd .tuple ?_
  walk_at "rx"
  cases hd with
  | @tup a xs ds ha hr2 =>
    have el := xvs_len hr2
    obtain ⟨l64, hs⟩ := sz_tup hz
    simp only [isTx]
    walk_at "rx"
    replace k : ∀ H', Same H H' → Q (.bl (letB n (.tup ds))) H' := k
    refine ⟨xs, .inr ha, ?_⟩
    by_cases h2 : ds.length < 2
    · rw [if_pos (by omega)]
      have : letB n (.tup ds) = false := by
        match ds, h2 with
        | [], _ => rfl
        | [x], _ => cases x <;> rfl
        | _ :: _ :: _, h => exact absurd h (by simp)
      rw [this] at k
      exact k H (Same.refl H)
    rw [if_neg (by omega)]
    obtain ⟨d0, d1, dr, rfl⟩ : ∃ d0 d1 dr, ds = d0 :: d1 :: dr := by
      match ds, h2 with
      | [], h => exact absurd (by decide) h
      | [_], h => exact absurd (by simp) h
      | a :: b :: c, _ => exact ⟨a, b, c, rfl⟩
    obtain ⟨x0, x1, xr, rfl, q0, q1, qr⟩ := xvs_two hr2
    refine r_ixT ha (at0 rfl) (r_isiX (obT T) q0 .str ⟨_, rfl, ?_⟩)
    cases q0 with
    | str z =>
      rw [if_neg (by simp [isSx])]
      refine r_ixT ha (Nv.at1 rfl) ⟨x1, d1, rfl, q1, _, rfl, ?_⟩
      cases e1 : eraB d1 with
      | false =>
        rw [if_pos rfl]
        have : letB n (.tup (.str z :: d1 :: dr)) = false := by
          simp only [letB]
          cases formL z with
          | none => rfl
          | some ws => simp only [restB, e1, Bool.false_and]
        rw [this] at k
        exact k H (Same.refl H)
      | true =>
        rw [if_neg (by decide)]
        refine r_ixT ha (at0 rfl) fun p H1 S1 f1 => ?_
        have ha1 := sqT_mono S1 ha
        refine ⟨p, _, rfl, .inl (.of f1), rfl, by decide, _, rfl, ?_⟩
        replace k : ∀ H', Same H H' → Q (.bl (letB n (.tup (.str z :: d1 :: dr)))) H' := k
        rw [letB_cons e1] at k
        rw [if_pos rfl, in_words]
        rcases shp_at z with ⟨nw, fz⟩ | ⟨sh, ws, j, sp⟩
        · rw [if_pos (by rw [decide_eq_false nw]; rfl)]
          rw [fz] at k
          exact k H1 S1
        rw [if_neg (by rw [decide_eq_true (List.mem_of_getElem? sp.at_w)]; decide)]
        rw [sp.fm] at k
        replace k : ∀ H', Same H H' → Q (.bl (eraHome n d1 && (decide (dr.length = ws.length) && (ws.zip dr).all fun p => itemX n p.1 p.2))) H' := k
        obtain ⟨t, h, u, rfl, hh⟩ := eraB_of e1
        cases q1.mono S1 with
        | @tup b ys ds2 hb hr3 =>
          obtain ⟨y0, y1, y2, rfl, p0, p1, p2⟩ := xvs_three hr3
          cases p1
          refine r_ixT ha1 (Nv.at1 rfl) (r_ixT hb (by rfl) ⟨_, _, rfl, rfl, _, rfl, ?_⟩)
          have idx : eraHome n (.tup [.int t, .int h, .int u]) = decide (h < (n : Int)) := by
            simp only [eraHome, idxB]
            rw [decide_eq_true hh, Bool.true_and]
          rw [idx] at k
          by_cases c : (n : Int) ≤ h
          · rw [if_pos (decide_eq_true c)]
            rw [decide_eq_false (by omega), Bool.false_and] at k
            exact k H1 S1
          rw [if_neg (by rw [decide_eq_false c]; decide)]
          rw [decide_eq_true (show h < (n : Int) by omega), Bool.true_and] at k
          refine ⟨by omega, fun p2 hp2 _ p3 H3 S3 f3 => ?_⟩
          have f2 := S3 _ _ (show upd H1 p2 (.lst (shapesL.map V.str)) p2 = some (.lst (shapesL.map V.str)) from upd_same)
          have S13 := (show Same H1 (upd H1 p2 (.lst (shapesL.map V.str))) from Same.new hp2).trans S3
          have ha3 := sqT_mono S13 ha1
          have zl := (sz_str (sz_at (i := 0) hs rfl)).2
          refine ⟨.inl ⟨rfl, _, .of f3⟩, r_ixT ha3 (at0 rfl) ⟨p3, _, .str z, wordsL.map PyData.str, j, .str z, rfl, rfl, .lst (.of f3) (dp_txts _), .str z, by decide +kernel, ?_, ?_, ?_, ?_, ?_⟩⟩
          · unfold SeqAt.shaped
            rw [asc_ok zl]
            rfl
          · rw [List.getElem?_map, sp.at_w]
            rfl
          · exact beq_self_eq_true z
          · intro m z' hm hz'
            rw [List.getElem?_map, Option.map_eq_some_iff] at hz'
            obtain ⟨y, hy, rfl⟩ := hz'
            show (y == z) = false
            rw [beq_eq_false_iff_ne]
            rintro rfl
            have hj := (List.getElem?_eq_some_iff.mp sp.at_w).1
            have := (List.getElem?_inj hj nodup_words).mp (sp.at_w.trans hy.symm)
            omega
          refine ⟨p2, _, _, .str sh, rfl, rfl, .of f2, atI_nat (by rw [List.getElem?_map, sp.at_s]; rfl), _, .inr ha3, sh, rfl, ?_, rfl, ?_⟩
          · have := sp.ln
            have := sp.l3
            omega
          have ln := sp.ln
          have l3 := sp.l3
          have lr := xvs_len qr
          have S03 := S1.trans S13
          by_cases c3 : dr.length = ws.length
          case neg =>
            rw [if_pos (decide_eq_false (by simp only [List.length_cons]; omega))]
            rw [decide_eq_false c3, Bool.false_and] at k
            exact k H3 S03
          rw [if_neg (by rw [decide_eq_true (by simp only [List.length_cons]; omega)]; decide)]
          rw [decide_eq_true c3, Bool.true_and] at k
          refine ⟨_, rfl, sh, rfl, by omega, _, rfl, by omega, by omega, ?_⟩
          refine for_range (D := { nx := tRet (tC (V.bl true)) { nx := fun x H' => Q V.non H', rt := Q }, rt := Q }) (fun i σ H' => (∃ u, σ = [some (.ref a), some (.int (n : Int)), some (.str sh), u]) ∧ Same H3 H' ∧ ∀ m < i, ∀ w d, ws[m]? = some w → dr[m]? = some d → itemX n w d = true) ⟨⟨_, rfl⟩, Same.refl H3, by intro m h; omega⟩ ?_ ?_
          · rintro i σ Ha hi ⟨⟨u2, rfl⟩, S, al⟩
            have hi' : i < dr.length := by omega
            obtain ⟨x, hx⟩ : ∃ x, xr[i]? = some x := ⟨_, List.getElem?_eq_getElem (by omega)⟩
            obtain ⟨d, hdi, xv⟩ := xvs_at qr hx
            obtain ⟨wd, hw⟩ : ∃ wd, ws[i]? = some wd := ⟨_, List.getElem?_eq_getElem (by omega)⟩
            obtain ⟨cc, hcc, hsg⟩ := sp.sg i wd hw
            have haa := sqT_mono S ha3
            walk_at "rx"
            have ei : (2 : Int) + (0 + (i : Int)) = ((i + 2 : Nat) : Int) := by omega
            rw [ei, Int.zero_add]
            refine r_ixT haa (atI_nat (v := x) (by simpa using hx)) ⟨sh, _, cc, rfl, rfl, by omega, atI_nat hcc, x, d, _, n, rfl, xv.mono (S03.trans S), ?_, fun H4 S4 => ⟨_, rfl, ?_⟩⟩
            · exact sz_at (i := i + 2) hs (by simpa using hdi)
            · rw [hsg n d]
              cases e : itemX n wd d with
              | false =>
                rw [if_pos rfl]
                have : ((ws.zip dr).all fun p => itemX n p.1 p.2) = false := by
                  rw [List.all_eq_false]
                  refine ⟨(wd, d), List.mem_of_getElem? (i := i) (List.getElem?_zip_eq_some.mpr ⟨hw, hdi⟩), ?_⟩
                  rw [e]
                  decide
                rw [this] at k
                exact k H4 (S03.trans (S.trans S4))
              | true =>
                rw [if_neg (by decide)]
                refine ⟨⟨_, rfl⟩, S.trans S4, ?_⟩
                intro m hm w' d' h1 h2
                by_cases c : m = i
                · subst c
                  rw [hw] at h1
                  rw [hdi] at h2
                  cases h1
                  cases h2
                  exact e
                · exact al m (by omega) w' d' h1 h2
          · rintro σ Ha ⟨⟨u2, rfl⟩, S, al⟩
            walk_at "rx"
            have : ((ws.zip dr).all fun p => itemX n p.1 p.2) = true := by
              rw [List.all_eq_true]
              intro q hq
              obtain ⟨m, hm⟩ := List.getElem?_of_mem hq
              obtain ⟨g1, g2⟩ := List.getElem?_zip_eq_some.mp hm
              have := (List.getElem?_eq_some_iff.mp g1).1
              exact al m (by simp only [Int.toNat_natCast]; omega) _ _ g1 g2
            rw [this] at k
            exact k Ha (S03.trans S)
    | _ =>
      rw [if_pos (by simp [isSx])]
      exact k H (Same.refl H)
  | _ =>
    simp only [isTx]
    walk_at "rx"
    exact k H (Same.refl H)
end
end K32

namespace Nv
open PySem PySem.Spec PyProof.Rows L2
section
variable {X : Cx} {k : Nat} {f : Addr} {fd : FuncData} {ps ks : List Str} {sp : Sp} {W : WX} {x : Str} {p pos : Pos} {kws : List Keyword} {t : TA}
/-- f(k = e, ..), keywords in the order that is the parameters' turned about -/
def tCGr (sp : Sp) (W : WX) (t : TA) : TE := fun σ H Q => t σ H fun vs H1 => sp vs.reverse H1 Q (WE W σ)
theorem vals_revN {vs : List V} {us : List Value} (r : Vals vs us) : Vals vs.reverse us.reverse := vals_rev r
theorem pe_cGr (F : FnG X.prog X.w X.K X.mg X.base k f fd ps sp) (b : KwP fd ps ks 0 List.reverse) (hlen : ps.length = ks.length) (tk : Takes X W) (hG : X.A.guards = some []) (hr : Room k X.A)
    (hm : X.mg x = some (.ref f)) (hk : PySem.W.keepIn X.K (.ref f) = true) (ha : PK X kws t) (hg : Gl X x := by rfl)
    (hall : (backToKw pos (keywordEach kws X.env)).all (·.1.isSome) = true := by rfl) (hks : (backToKw pos (keywordEach kws X.env)).filterMap (·.1) = ks := by rfl)
    (hdb : (x == ("__debug__" : Str)) = false := by decide)
    (hpl : ((backTo pos (starEach [] X.env)).any (·.1) || (backToKw pos (keywordEach kws X.env)).any (·.1.isNone)) = false := by rfl) :
    PE X (.Call (.Name x p) [] kws pos) (tCGr sp W t) := by
  constructor
  intro pins s σ H Q I h
  refine wpAny_Call_Name_kw (ld_glob I hg hm ?_ hdb)
  refine PySem.W.callWith_KW0 (h₀ := X.base) I.ok.mod.kin hk hall ?_ hpl
  refine thn (ha.run pos pins s σ H _ I h) ?_
  intro ws s2 ⟨zs, H2, I2, rz, q2⟩
  refine ⟨I2.kIn, ?_⟩
  rw [hks]
  have rr := vals_revN rz
  exact runG F tk hG hr (.of_eq (b [] ws rfl (by have := (lenG F rr q2).trans hlen; rwa [List.length_reverse] at this))) I2 rr q2
end
end Nv



namespace K32
open PySem L2 Nv Gr

def spLR (K : PySem.W.Frag) (C : Addr) : Sp := fun vs H Q _ => ∃ (p : Addr) (n : Nat) (ps : List Rd) (v : V) (d : XD) (u : Int), vs = [.ref p, .int ((n : Nat) : Int), v, .int u] ∧ TreeAt C H p n ps ∧ XV K C H v d ∧ szX d = true ∧ ∀ H', Same H H' → Q (.bl true) H'
def spER (K : PySem.W.Frag) (C : Addr) : Sp := fun vs H Q _ => ∃ (v : V) (d : XD) (u : Int), vs = [v, .int u] ∧ XV K C H v d ∧ ∀ H', Same H H' → Q (.bl true) H'
section
variable {P : Program} {w : World} {K : PySem.W.Frag} {mg : Str → Option Value} {base : Heap}
theorem kwr_is_letter (T : Tx K mg w.params) : KwP T.d_is_letter.fd ["tree", "value"] ["value", "tree"] 0 List.reverse := by
  obtain ⟨oc, od, kV, doc, pm, an, cdv, ct, osl, e, lk, hcd⟩ := T.d_is_letter.F.ex
  rw [e]
  intro us ws h1 h2
  match us, ws, h1, h2 with
  | [], [a, b], _, _ => rfl
theorem ok_l_letter_right (T : Tx K mg w.params) : FnG P w K mg base 9 T.d_l_letter_right.f T.d_l_letter_right.fd ["_law_tree_here", "_law_houses", "_law_value", "_law_turn"] (spLR K T.C_Tree) := by
  refine okG0 T.d_l_letter_right.F sc_l_letter_right (fun vs H Q E h => ?_) (fun cdv A outer s H vs Q E hg hr h => ?_)
  · obtain ⟨p, n, ps, v, d, u, rfl, _⟩ := h
    rfl
  obtain ⟨p, n, ps, v, d, u, rfl, t, hd, hz, k⟩ := h
  have sz : sizeLine = 16777216 := sizeLine_eq
  refine ⟨_, (pss_cons (ps_set (i := 4) sc_l_letter_right.nd rfl (Or.inl rfl) (pe_cG (ok_l_is_letter T) T.d_l_is_letter.b takes0 hg (hr.mono (by decide)) T.d_l_is_letter.m T.d_l_is_letter.F.kp (pa_cons (pv 2) (pa_cons (pv 1) pa_nil))))
    (pss_cons (ps_for PassesOwn.never rfl (pi_list (pe_lst1 (pa_cons (pv 3) (pa_cons (pe_op op_sub pe_int (pv 3)) pa_nil)))) (pg_name (i := 5) sc_l_letter_right.nd rfl (Or.inl rfl))
      (pss_cons (ps_set (i := 6) sc_l_letter_right.nd rfl (Or.inl rfl) (pe_ifExp (pt_cmpR op_eq (pv 5) pe_int (nomark _)) (pe_cG (ok_is_letter T) T.d_is_letter.b takes0 hg (hr.mono (by decide)) T.d_is_letter.m T.d_is_letter.F.kp (pa_cons (pv 0) (pa_cons (pv 2) pa_nil))) (pe_cGr (ok_is_letter T) (kwr_is_letter T) rfl takes0 hg (hr.mono (by decide)) T.d_is_letter.m T.d_is_letter.F.kp (pk_cons (pv 2) (pk_cons (pv 0) pk_nil)))))
      (pss_one (ps_if (PW.pt (pw_or (pt_not (pt_val (pe_callB call_isiA (by rfl) T.n_isinstance (by decide +kernel) (pa_cons (pv 6) (pa_cons (pe_bltn (v := .ty "bool") (by rfl) T.n_bool (by decide +kernel) rfl) pa_nil))))) (pw_or1 (pt_cmpR op_ne (pv 6) (pv 4) (nomark _)))))
        (pss_one (ps_ret pe_bl))
        pss_nil))))
    (pss_one (ps_ret pe_bl)))), ?_⟩
  walk_at "rx"
  refine ⟨v, d, n, rfl, hd, hz, fun H1 S1 => ?_⟩
  unfold tFor iList
  dsimp only
  refine ⟨_, rfl, _, rfl, _, _, rfl, rfl, by simp; omega, fun L hL _ => ⟨L, rfl, ⟨_, .of upd_same⟩, ?_⟩⟩
  obtain ⟨H2, eh, S2, fL⟩ := gen_new (.lst [V.int u, V.int (1 - u)]) hL
  rw [eh]
  clear eh
  refine for_list (K := K) (a := L) (xs := [V.int u, V.int (1 - u)]) (D := { nx := tRet (tC (V.bl true)) { nx := fun x H' => Q V.non H', rt := Q }, rt := Q }) (fun i σ H' => (∃ y5 y6, σ = [some (.ref p), some (.int (n : Int)), some v, some (.int u), some (.bl (letB n d)), y5, y6]) ∧ Same H2 H') ⟨⟨_, _, rfl⟩, Same.refl H2⟩ (fun i σ H' _ ⟨_, S⟩ => .of (S _ _ fL)) ?_ ?_
  · rintro i x σ Ha hx ⟨⟨y5, y6, rfl⟩, S⟩
    obtain ⟨j, rfl⟩ : ∃ j, x = V.int j := by
      have := List.mem_of_getElem? hx
      simp only [List.mem_cons, List.not_mem_nil, or_false] at this
      rcases this with rfl | rfl
      · exact ⟨_, rfl⟩
      · exact ⟨_, rfl⟩
    have Sa := S1.trans (S2.trans S)
    walk_at "rx"
    refine ⟨rfl, ?_⟩
    split
    · refine ⟨p, n, ps, v, d, rfl, t.mono Sa, hd.mono Sa, hz, fun H3 S3 => ?_⟩
      dsimp only
      refine r_isiX (obT T) (.bl _) .bool ⟨_, rfl, ?_⟩
      rw [if_neg (by simp [isBx])]
      refine ⟨rfl, ?_⟩
      rw [if_neg (by simp)]
      exact ⟨⟨_, rfl⟩, S.trans S3⟩
    · refine ⟨_, rfl, _, rfl, p, n, ps, v, d, rfl, t.mono Sa, hd.mono Sa, hz, fun H3 S3 => ?_⟩
      dsimp only
      refine r_isiX (obT T) (.bl _) .bool ⟨_, rfl, ?_⟩
      rw [if_neg (by simp [isBx])]
      refine ⟨rfl, ?_⟩
      rw [if_neg (by simp)]
      exact ⟨⟨_, rfl⟩, S.trans S3⟩
  · rintro σ Ha ⟨⟨y5, y6, rfl⟩, S⟩
    walk_at "rx"
    exact k Ha (S1.trans (S2.trans S))
theorem ok_l_era_right (T : Tx K mg w.params) : FnG P w K mg base 4 T.d_l_era_right.f T.d_l_era_right.fd ["_law_value", "_law_turn"] (spER K T.C_Tree) := by
  refine okG0 T.d_l_era_right.F sc_l_era_right (fun vs H Q E h => ?_) (fun cdv A outer s H vs Q E hg hr h => ?_)
  · obtain ⟨v, d, u, rfl, _⟩ := h
    rfl
  obtain ⟨v, d, u, rfl, hd, k⟩ := h
  have sz : sizeLine = 16777216 := sizeLine_eq
  refine ⟨_, (pss_cons (ps_set (i := 2) sc_l_era_right.nd rfl (Or.inl rfl) (pe_cG (ok_l_is_era T) T.d_l_is_era.b takes0 hg (hr.mono (by decide)) T.d_l_is_era.m T.d_l_is_era.F.kp (pa_cons (pv 0) pa_nil)))
    (pss_cons (ps_for PassesOwn.never rfl (pi_list (pe_lst1 (pa_cons (pv 1) (pa_cons (pe_op op_sub pe_int (pv 1)) pa_nil)))) (pg_name (i := 3) sc_l_era_right.nd rfl (Or.inl rfl))
      (pss_cons (ps_set (i := 4) sc_l_era_right.nd rfl (Or.inl rfl) (pe_ifExp (pt_cmpR op_eq (pv 3) pe_int (nomark _)) (pe_cG (ok_is_era T) T.d_is_era.b takes0 hg (hr.mono (by decide)) T.d_is_era.m T.d_is_era.F.kp (pa_cons (pv 0) pa_nil)) (pe_cGk (ok_is_era T) T.d_is_era.kb rfl takes0 hg (hr.mono (by decide)) T.d_is_era.m T.d_is_era.F.kp (pk_cons (pv 0) pk_nil))))
      (pss_one (ps_if (PW.pt (pw_or (pt_not (pt_val (pe_callB call_isiA (by rfl) T.n_isinstance (by decide +kernel) (pa_cons (pv 4) (pa_cons (pe_bltn (v := .ty "bool") (by rfl) T.n_bool (by decide +kernel) rfl) pa_nil))))) (pw_or1 (pt_cmpR op_ne (pv 4) (pv 2) (nomark _)))))
        (pss_one (ps_ret pe_bl))
        pss_nil))))
    (pss_one (ps_ret pe_bl)))), ?_⟩
  walk_at "rx"
  refine ⟨v, d, rfl, hd, ?_⟩
  unfold tFor iList
  dsimp only
  refine ⟨_, rfl, _, rfl, _, _, rfl, rfl, by simp; omega, fun L hL _ => ⟨L, rfl, ⟨_, .of upd_same⟩, ?_⟩⟩
  obtain ⟨H2, eh, S2, fL⟩ := gen_new (.lst [V.int u, V.int (1 - u)]) hL
  rw [eh]
  clear eh
  refine for_list (K := K) (a := L) (xs := [V.int u, V.int (1 - u)]) (D := { nx := tRet (tC (V.bl true)) { nx := fun x H' => Q V.non H', rt := Q }, rt := Q }) (fun i σ H' => (∃ y5 y6, σ = [some v, some (.int u), some (.bl (eraB d)), y5, y6]) ∧ Same H2 H') ⟨⟨_, _, rfl⟩, Same.refl H2⟩ (fun i σ H' _ ⟨_, S⟩ => .of (S _ _ fL)) ?_ ?_
  · rintro i x σ Ha hx ⟨⟨y5, y6, rfl⟩, S⟩
    obtain ⟨j, rfl⟩ : ∃ j, x = V.int j := by
      have := List.mem_of_getElem? hx
      simp only [List.mem_cons, List.not_mem_nil, or_false] at this
      rcases this with rfl | rfl
      · exact ⟨_, rfl⟩
      · exact ⟨_, rfl⟩
    have Sa := S2.trans S
    walk_at "rx"
    refine ⟨rfl, ?_⟩
    have fin : ∀ H3, Same Ha H3 → Same H2 H3 := fun H3 S3 => S.trans S3
    split
    · refine ⟨v, d, rfl, hd.mono Sa, ?_⟩
      dsimp only
      refine r_isiX (obT T) (.bl _) .bool ⟨_, rfl, ?_⟩
      rw [if_neg (by simp [isBx])]
      refine ⟨rfl, ?_⟩
      rw [if_neg (by simp)]
      exact ⟨⟨_, rfl⟩, S⟩
    · refine ⟨v, d, rfl, hd.mono Sa, ?_⟩
      dsimp only
      refine r_isiX (obT T) (.bl _) .bool ⟨_, rfl, ?_⟩
      rw [if_neg (by simp [isBx])]
      refine ⟨rfl, ?_⟩
      rw [if_neg (by simp)]
      exact ⟨⟨_, rfl⟩, S⟩
  · rintro σ Ha ⟨⟨y5, y6, rfl⟩, S⟩
    walk_at "rx"
    exact k Ha (S2.trans S)
end
end K32

namespace Nv
open PySem PySem.Spec PyProof.Rows L2

/-! drawn things that no list bears: what is told of them outlives the box's changes -/
theorem extTN {H H' : Hp} {p : Addr} {N : Nat} (bx : BoxAt H p N) (E : Ext1 p H H') : SameT H H' := fun b o no hb => by
  refine E b o ?_ hb
  intro e
  subst e
  obtain ⟨n, bb, m, c, f, _⟩ := bx
  rw [f] at hb
  cases hb
  exact no _ rfl
theorem sameT_lstN {H : Hp} {p : Addr} {xs ys : List V} (h : H p = some (.lst xs)) : SameT H (upd H p (.lst ys)) := fun b o no hb => by
  by_cases e : b = p
  · subst e
    rw [h] at hb
    cases hb
    exact absurd rfl (no _)
  · rw [upd_ne e]
    exact hb
theorem sameT_tr {H H1 H2 : Hp} (a : SameT H H1) (b : SameT H1 H2) : SameT H H2 := fun c o no h => b c o no (a c o no h)
section
variable {J : It} {n : Nat} {G : Hp → Prop} {Y : Nat → Hp → V → Hp → Prop} {g : TG} {te : TE} {vs : List Nat} {σ : L2.St} {H : Hp} {D : Addr} {Qd : Hp → Prop}
theorem lc_boxT (w : Walk J n G Y) (p : Addr) (N M : Nat) (Rl : Hp → Nat → V → Prop) (mono : ∀ H H' i v, SameT H H' → Rl H i v → Rl H' i v) (hp : BoxAt H p N) (hD : H D = none) (hz : n ≤ sizeLine) (hG : ∀ H', Ext1 p H H' → G H')
    (hs : ∀ i x Ha Hb (R : VK), i < n → BoxAt Ha p (N + i * M) → Ext1 p H Ha → Y i Ha x Hb → (∀ v H4, Rl H4 i v → BoxAt H4 p (N + (i + 1) * M) → Ext1 p Ha H4 → R v H4) → g x (wipe σ vs) Hb fun σ2 H2 => wipe σ2 vs = wipe σ vs ∧ te σ2 H2 R)
    (hd : ∀ ws H', ws.length = n → (∀ (i : Nat) (v : V), ws[i]? = some v → Rl H' i v) → H' D = some (.lst ws) → BoxAt H' p (N + n * M) → Ext1 p H H' → Qd H') :
    ∃ W : Nat → Nat → Hp → Prop, (∃ m, W 0 m (upd H D (.lst []))) ∧ ∀ i m H, W i m H →
      (J.stop i H ∧ Qd H) ∨ (J.go i H ∧ ∃ Nx : Hp → Prop, (∀ H', Nx H' → ∃ m', m' < m ∧ W (i + 1) m' H') ∧ ∀ x H', J.yld i H x H' → g x (wipe σ vs) H' fun σ2 H2 => wipe σ2 vs = wipe σ vs ∧ tYes σ2 H2 fun b H3 =>
        if b = true then te σ2 H3 fun y H4 => ∃ acc, H4 D = some (.lst acc) ∧ acc.length < sizeLine ∧ Nx (upd H4 D (.lst (acc ++ [y]))) else Nx H3) := by
  have nD : D ≠ p := hp.ne hD
  refine lc_it w (fun i H' => ∃ ws : List V, H' D = some (.lst ws) ∧ ws.length = i ∧ (∀ (j : Nat) (v : V), ws[j]? = some v → Rl H' j v) ∧ BoxAt H' p (N + i * M) ∧ Ext1 p H H')
    ⟨[], upd_same, rfl, fun j v h => (by rw [List.getElem?_nil] at h; cases h), by rw [Nat.zero_mul]; exact hp.off hD, ext_new _ hD⟩ (fun i H' _ ⟨_, _, _, _, _, e⟩ => hG H' e) ?_ ?_
  · rintro i x Ha Hb hi ⟨ws, f, lw, pw, hB, E⟩ y
    let C : Hp → Prop := fun H' => ∃ ws : List V, H' D = some (.lst ws) ∧ ws.length = i + 1 ∧ (∀ (j : Nat) (v : V), ws[j]? = some v → Rl H' j v) ∧ BoxAt H' p (N + (i + 1) * M) ∧ Ext1 p H H'
    have key := hs i x Ha Hb (fun v' H4 => ∃ acc, H4 D = some (.lst acc) ∧ acc.length < sizeLine ∧ C (upd H4 D (.lst (acc ++ [v'])))) hi hB E y ?_
    · have e : (fun (σ2 : L2.St) (H2 : Hp) => wipe σ2 vs = wipe σ vs ∧ tYes σ2 H2 fun b H3 => if b = true then te σ2 H3 fun y H4 => ∃ acc, H4 D = some (.lst acc) ∧ acc.length < sizeLine ∧ C (upd H4 D (.lst (acc ++ [y]))) else C H3)
          = fun σ2 H2 => wipe σ2 vs = wipe σ vs ∧ te σ2 H2 fun v' H4 => ∃ acc, H4 D = some (.lst acc) ∧ acc.length < sizeLine ∧ C (upd H4 D (.lst (acc ++ [v']))) := by
        funext σ2 H2
        rw [e_tyes, if_pos rfl]
      show g x (wipe σ vs) Hb fun σ2 H2 => wipe σ2 vs = wipe σ vs ∧ tYes σ2 H2 fun b H3 => if b = true then te σ2 H3 fun y H4 => ∃ acc, H4 D = some (.lst acc) ∧ acc.length < sizeLine ∧ C (upd H4 D (.lst (acc ++ [y]))) else C H3
      rw [e]
      exact key
    · intro v H4 pv hB4 e4
      have f4 := e4 _ _ nD f
      have T4 : SameT Ha (upd H4 D (.lst (ws ++ [v]))) := sameT_tr (extTN hB e4) (sameT_lstN f4)
      refine ⟨ws, f4, by omega, ws ++ [v], upd_same, by simp [lw], fun j u hu => ?_, hB4.keep (H' := H4) nD, fun a o na ha => ?_⟩
      · by_cases hj : j < ws.length
        · rw [List.getElem?_append_left hj] at hu
          exact mono _ _ _ _ T4 (pw j u hu)
        · have : j = ws.length := by
            have := (List.getElem?_eq_some_iff.mp hu).1
            simp at this
            omega
          subst this
          rw [List.getElem?_concat_length] at hu
          cases hu
          rw [lw]
          exact mono _ _ _ _ (sameT_lstN f4) pv
      · rw [upd_ne (ne_of_none ha hD)]
        exact e4 a o na (E a o na ha)
  · rintro H' ⟨ws, f, lw, pw, hB, E⟩
    exact hd ws H' lw pw f hB E
end
theorem Fts_nats : ∀ {l : List Nat}, (∀ x ∈ l, x ≤ 10 ^ 9) → Fts (72 * l.length) 0 (l.map fun (x : Nat) => PyData.int (x : Int))
  | [], _ => Fts.nil
  | x :: r, h => by
    have ih := Fts_nats (l := r) fun y hy => h y (by simp [hy])
    have := h x (by simp)
    refine (Fts.cons (Ft.int (by omega)) ih).le ?_ (Nat.le_refl _)
    rw [List.length_cons]
    omega
end Nv

namespace Gr
theorem nodup_full {n : Nat} {l : List Nat} (nd : l.Nodup) (lt : ∀ x ∈ l, x < n) (len : n ≤ l.length) : ∀ v, v < n → v ∈ l := by
  intro v hv
  by_cases h : v ∈ l
  · exact h
  · have := nodup_len n (v :: l) (List.nodup_cons.mpr ⟨h, nd⟩) (by
      intro x hx
      rcases List.mem_cons.mp hx with e | e
      · omega
      · exact lt x e)
    rw [List.length_cons] at this
    omega
theorem full_len : ∀ (n : Nat) (l : List Nat), (∀ v, v < n → v ∈ l) → n ≤ l.length
  | 0, _, _ => Nat.zero_le _
  | n + 1, l, h => by
    have ih := full_len n (l.erase n) fun v hv => (List.mem_erase_of_ne (by omega)).mpr (h v (by omega))
    have := List.length_erase_of_mem (h n (by omega))
    have : 0 < l.length := List.length_pos_of_mem (h n (by omega))
    omega
theorem StA.full {rs : List Rd} {n : Nat} {l : List Rd} (s : StA rs n 0 l) : l.length = n ↔ Joined n rs := by
  have lt : ∀ x ∈ l.map (·.1), x < n := by
    intro x hx
    obtain ⟨y, hy, rfl⟩ := List.mem_map.mp hx
    exact s.lt y hy
  constructor
  · intro e
    exact s.joined.mp (nodup_full s.nd lt (by rw [List.length_map]; omega))
  · intro j
    have := full_len n (l.map (·.1)) (s.joined.mpr j)
    rw [List.length_map] at this
    have := s.len
    omega
theorem nbr_snoc {ps : List Rd} {p q u x : Nat} : Nbr (ps ++ [(p, q)]) u x ↔ Nbr ps u x ∨ (p = u ∧ q = x) ∨ (q = u ∧ p = x) := by
  unfold Nbr
  simp only [List.mem_append, List.mem_singleton, Prod.mk.injEq]
  constructor
  · rintro ((h | ⟨h1, h2⟩) | (h | ⟨h1, h2⟩))
    · exact .inl (.inl h)
    · exact .inr (.inl ⟨h1.symm, h2.symm⟩)
    · exact .inl (.inr h)
    · exact .inr (.inr ⟨h2.symm, h1.symm⟩)
  · rintro ((h | h) | (⟨h1, h2⟩ | ⟨h1, h2⟩))
    · exact .inl (.inl h)
    · exact .inr (.inl h)
    · exact .inl (.inr ⟨h1.symm, h2.symm⟩)
    · exact .inr (.inr ⟨h2.symm, h1.symm⟩)
end Gr

namespace Gr
/-- the lesser one first -/
def srt (a b : Nat) : Rd := if a ≤ b then (a, b) else (b, a)
/-- a tree that grows house by house -/
inductive Grown (ns : List Nat) : Nat → List Rd → Prop
  | one : Grown ns 1 []
  | step {k : Nat} {ps : List Rd} {a b j : Nat} : Grown ns k ps → ns[k]? = some a → j < k → ns[j]? = some b → Grown ns (k + 1) (ps ++ [srt a b])
theorem srt_mem (a b : Nat) : ((srt a b).1 = a ∧ (srt a b).2 = b) ∨ ((srt a b).1 = b ∧ (srt a b).2 = a) := by
  unfold srt
  split
  · exact .inl ⟨rfl, rfl⟩
  · exact .inr ⟨rfl, rfl⟩
theorem srt_lt {a b : Nat} (h : a ≠ b) : (srt a b).1 < (srt a b).2 := by
  unfold srt
  split <;> simp <;> omega
theorem Grown.len {ns : List Nat} {k : Nat} {ps : List Rd} (g : Grown ns k ps) : ps.length + 1 = k := by
  induction g with
  | one => rfl
  | step _ _ _ _ ih => rw [List.length_append]; simp; omega
theorem Grown.pos {ns : List Nat} {k : Nat} {ps : List Rd} (g : Grown ns k ps) : 1 ≤ k := by
  cases g <;> omega
/-- both ends of a road are houses that stand -/
theorem Grown.ends {ns : List Nat} {k : Nat} {ps : List Rd} (g : Grown ns k ps) : ∀ p ∈ ps, (∃ i, i < k ∧ ns[i]? = some p.1) ∧ ∃ i, i < k ∧ ns[i]? = some p.2 := by
  induction g with
  | one => simp
  | @step k ps a b j g ha hj hb ih =>
    intro p hp
    rcases List.mem_append.mp hp with hp | hp
    · obtain ⟨⟨i, hi, e⟩, ⟨i', hi', e'⟩⟩ := ih p hp
      exact ⟨⟨i, by omega, e⟩, ⟨i', by omega, e'⟩⟩
    · simp at hp
      subst hp
      rcases srt_mem a b with ⟨e1, e2⟩ | ⟨e1, e2⟩
      · rw [e1, e2]
        exact ⟨⟨k, by omega, ha⟩, ⟨j, by omega, hb⟩⟩
      · rw [e1, e2]
        exact ⟨⟨j, by omega, hb⟩, ⟨k, by omega, ha⟩⟩
theorem nd_get {ns : List Nat} (nd : ns.Nodup) {i j a : Nat} (hi : ns[i]? = some a) (hj : ns[j]? = some a) : i = j := by
  obtain ⟨l1, e1⟩ := List.getElem?_eq_some_iff.mp hi
  obtain ⟨l2, e2⟩ := List.getElem?_eq_some_iff.mp hj
  exact (List.getElem_inj nd).mp (e1.trans e2.symm)
theorem Grown.lt {ns : List Nat} (nd : ns.Nodup) {k : Nat} {ps : List Rd} (g : Grown ns k ps) : ∀ p ∈ ps, p.1 < p.2 := by
  induction g with
  | one => simp
  | @step k ps a b j g ha hj hb ih =>
    intro p hp
    rcases List.mem_append.mp hp with hp | hp
    · exact ih p hp
    · simp at hp
      subst hp
      refine srt_lt fun e => ?_
      subst e
      have := nd_get nd ha hb
      omega
theorem Grown.nodup {ns : List Nat} (nd : ns.Nodup) {k : Nat} {ps : List Rd} (g : Grown ns k ps) : ps.Nodup := by
  induction g with
  | one => exact List.nodup_nil
  | @step k ps a b j g ha hj hb ih =>
    rw [List.nodup_append]
    refine ⟨ih, by simp, ?_⟩
    intro x hx y hy e
    simp at hy
    subst hy
    subst e
    obtain ⟨⟨i, hi, e1⟩, ⟨i', hi', e2⟩⟩ := g.ends _ hx
    rcases srt_mem a b with ⟨q1, _⟩ | ⟨_, q2⟩
    · rw [q1] at e1
      have := nd_get nd ha e1
      omega
    · rw [q2] at e2
      have := nd_get nd ha e2
      omega
theorem Reach.mono {rs qs : List Rd} (h : ∀ p ∈ rs, p ∈ qs) {a b : Nat} (r : Reach rs a b) : Reach qs a b := by
  induction r with
  | refl => exact .refl
  | step _ n ih => exact .step ih (n.elim (fun q => .inl (h _ q)) fun q => .inr (h _ q))
theorem Grown.reach {ns : List Nat} {k : Nat} {ps : List Rd} (g : Grown ns k ps) : ∀ i a r, i < k → ns[i]? = some a → ns[0]? = some r → Reach ps r a := by
  induction g with
  | one =>
    intro i a r hi ha hr
    obtain rfl : i = 0 := by omega
    rw [hr] at ha
    cases ha
    exact .refl
  | @step k ps c b j g hc hj hb ih =>
    intro i a r hi ha hr
    have up : ∀ p ∈ ps, p ∈ ps ++ [srt c b] := fun p hp => List.mem_append_left _ hp
    by_cases e : i < k
    · exact (ih i a r e ha hr).mono up
    · obtain rfl : i = k := by omega
      rw [hc] at ha
      cases ha
      refine .step ((ih j b r hj hb hr).mono up) ?_
      rcases srt_mem c b with ⟨q1, q2⟩ | ⟨q1, q2⟩
      · exact .inr (List.mem_append_right _ (by simp; exact Prod.ext q1.symm q2.symm))
      · exact .inl (List.mem_append_right _ (by simp; exact Prod.ext q1.symm q2.symm))
/-- all houses are joined, in any order of the roads -/
theorem Grown.joined {ns : List Nat} {n : Nat} {ps qs : List Rd} (pm : ns.Perm (List.range n)) (g : Grown ns n ps) (pq : qs.Perm ps) : Joined n qs := by
  have ln : ns.length = n := by rw [pm.length_eq, List.length_range]
  have at_ : ∀ v, v < n → ∃ i, i < n ∧ ns[i]? = some v := fun v hv => by
    obtain ⟨i, hi⟩ := List.mem_iff_getElem?.mp (pm.mem_iff.mpr (List.mem_range.mpr hv))
    have := (List.getElem?_eq_some_iff.mp hi).1
    exact ⟨i, by omega, hi⟩
  have p1 := g.pos
  have h0 : ns[0]? = some ns[0] := List.getElem?_eq_getElem (by omega)
  intro v hv
  obtain ⟨i, hi, ei⟩ := at_ v hv
  obtain ⟨j, hj, ej⟩ := at_ 0 (by omega)
  have r1 := g.reach i v _ hi ei h0
  have r2 := g.reach j 0 _ hj ej h0
  exact (r2.symm.trans r1).mono fun p hp => pq.mem_iff.mpr hp
end Gr



namespace K32
open PySem L2 Nv Gr

theorem dp_ints {K : PySem.W.Frag} {H : Hp} : ∀ l : List Nat, DpAll K H (intL l) (l.map fun (x : Nat) => PyData.int (x : Int))
  | [] => .nil
  | x :: r => .cons (.int _) (dp_ints r)
theorem paired_of {α β : Type} {R : α → β → Prop} : ∀ {xs : List α} {ys : List β}, xs.length = ys.length → (∀ (j : Nat) x y, xs[j]? = some x → ys[j]? = some y → R x y) → Paired R xs ys
  | [], [], _, _ => .nil
  | [], _ :: _, h, _ => by simp at h
  | _ :: _, [], h, _ => by simp at h
  | x :: xs, y :: ys, h, k => .cons (k 0 x y rfl rfl) (paired_of (by simpa using h) fun j a b ha hb => k (j + 1) a b (by simpa using ha) (by simpa using hb))
theorem sign_at {z : Str} {n : Nat} (hz : z.cps.toList.length = n) (az : ∀ c ∈ z.cps.toList, c < 128) {d : Int} (h0 : 0 ≤ d) (h1 : d < (n : Int)) : ∃ c, c < 128 ∧ atI z.cps.toList d = some c := by
  obtain ⟨j, rfl⟩ : ∃ j : Nat, d = (j : Int) := ⟨d.toNat, by omega⟩
  have hj : j < z.cps.toList.length := by omega
  exact ⟨z.cps.toList[j], az _ (List.getElem_mem hj), atI_nat (by simp [hj])⟩
theorem erase_intL : ∀ (l : List Nat) (j : Nat), (intL l).eraseIdx j = intL (l.eraseIdx j)
  | [], _ => rfl
  | _ :: _, 0 => rfl
  | a :: r, j + 1 => by
    have ih := erase_intL r j
    unfold intL at ih ⊢
    rw [List.map_cons, List.eraseIdx_cons_succ, List.eraseIdx_cons_succ, List.map_cons, ih]
theorem erase_perm : ∀ (l : List Nat) (j : Nat) (h : j < l.length), (l[j] :: l.eraseIdx j).Perm l
  | [], _, h => by simp at h
  | a :: r, 0, _ => .refl _
  | a :: r, j + 1, h => by
    have ih := erase_perm r j (by simpa using h)
    rw [List.getElem_cons_succ, List.eraseIdx_cons_succ]
    exact (List.Perm.swap _ _ _).trans (.cons a ih)
def spSignX : Sp := fun vs H Q _ => ∃ p N, vs = [.ref p] ∧ BoxAt H p N ∧ N ≤ 999000 ∧ ∀ c H', c < 128 → BoxAt H' p (N + 2) → Ext1 p H H' → Q (.str ⟨#[c]⟩) H'
def spMixed : Sp := fun vs H Q _ => ∃ p a N l, vs = [.ref p, .ref a] ∧ BoxAt H p N ∧ N ≤ 999000 ∧ H a = some (.lst (intL l)) ∧ a ≠ p ∧ l.length ≤ 100 ∧ (∀ x ∈ l, x ≤ 10 ^ 9) ∧
  ∀ q l' H', H q = none → Ext1 p H H' → H' q = some (.lst (intL l')) → l'.Perm l → BoxAt H' p (N + l.length) → Q (.ref q) H'
theorem r_ne_nilN {K : PySem.W.Frag} {H : Hp} {Q : VK} {p e : Addr} {l : List Nat} (h : H p = some (.lst (intL l))) (he : H e = some (.lst [])) (b : ∀ x ∈ l, x ≤ 10 ^ 9) (q : Q (.bl (!l.isEmpty)) H) : rNeD K (.ref p) (.ref e) H Q := by
  have sh : SeqAt.shaped (.list (l.map fun (x : Nat) => PyData.int (x : Int))) = true := by
    have f := Ft.list (Fts_nats b)
    unfold SeqAt.shaped
    have := f.s.p
    rw [f.c, Bool.true_and, decide_eq_true_eq]
    omega
  refine ⟨_, .list [], .lst (.of h) (dp_ints l), .lst (.of he) .nil, sh, by decide, ?_⟩
  rw [eqv_nil']
  have : (l.map fun (x : Nat) => PyData.int (x : Int)).isEmpty = l.isEmpty := by cases l <;> rfl
  rw [this]
  exact q
theorem two_sorted {a b : Nat} {zs : List Int} (pm : zs.Perm [(a : Int), (b : Int)]) (so : zs.Pairwise (· ≤ ·)) : zs = [((srt a b).1 : Int), ((srt a b).2 : Int)] := by
  have l := pm.length_eq
  match zs, l with
  | [x, y], _ =>
    have hx : x = a ∨ x = b := by
      have := pm.mem_iff.mp (show x ∈ [x, y] by simp)
      simpa using this
    have hle : x ≤ y := by simpa using so
    rcases hx with rfl | rfl
    · have : y = b := by simpa using pm.cons_inv
      subst this
      unfold srt
      split
      · rfl
      · omega
    · have : y = a := by simpa using (pm.trans (List.Perm.swap _ _ _)).cons_inv
      subst this
      unfold srt
      split
      · rename_i h
        have : (b : Int) = a := by omega
        simp [this]
      · rfl
theorem asc_of : ∀ {l : List Rd}, l.Pairwise (fun x y => lexB x y = true) → ascB l = true
  | [], _ => rfl
  | [_], _ => rfl
  | a :: b :: r, h => by
    rw [List.pairwise_cons] at h
    simp only [ascB, Bool.and_eq_true]
    exact ⟨h.1 b (by simp), asc_of h.2⟩
theorem none_ext {H H' : Hp} {a p : Addr} (np : a ≠ p) (E : Ext1 p H H') (h : H' a = none) : H a = none := by
  cases q : H a with
  | none => rfl
  | some o =>
    rw [E _ _ np q] at h
    cases h
theorem extT {H H' : Hp} {p : Addr} {N : Nat} (bx : BoxAt H p N) (E : Ext1 p H H') : SameT H H' := fun b o no hb => by
  refine E b o ?_ hb
  intro e
  subst e
  obtain ⟨n, bb, m, c, f, _⟩ := bx
  rw [f] at hb
  cases hb
  exact no _ rfl
/-- the two numbers that stand behind a value -/
def keyOf (H : Hp) : V → Int × Int
  | .ref t => match H t with
    | some (.tup [.int a, .int b]) => (a, b)
    | _ => (0, 0)
  | _ => (0, 0)
theorem keyOf_at {H : Hp} {t : Addr} {a b : Int} (h : H t = some (.tup [.int a, .int b])) : keyOf H (.ref t) = (a, b) := by
  unfold keyOf
  simp only [h]
theorem paired_in {α β : Type} {R : α → β → Prop} : ∀ {xs : List α} {ys : List β}, Paired R xs ys → ∀ x ∈ xs, ∃ y ∈ ys, R x y
  | _, _, .nil, x, h => by simp at h
  | _, _, .cons a r, x, h => by
    rcases List.mem_cons.mp h with rfl | h
    · exact ⟨_, by simp, a⟩
    · obtain ⟨y, hy, q⟩ := paired_in r x h
      exact ⟨y, by simp [hy], q⟩
theorem key_at {H : Hp} {xs : List V} {ps : List Rd} (r : RdsV H xs (ps.map some)) : ∀ x ∈ xs, ∃ t, x = V.ref t ∧ H t = some (.tup [.int (keyOf H x).1, .int (keyOf H x).2]) := by
  intro x hx
  obtain ⟨y, hy, q⟩ := paired_in r x hx
  obtain ⟨p, _, rfl⟩ := List.mem_map.mp hy
  obtain ⟨u, v⟩ := p
  obtain ⟨t, rfl, g⟩ := q
  exact ⟨t, rfl, by rw [keyOf_at g]; exact g⟩
def natK (H : Hp) (v : V) : Rd := ((keyOf H v).1.toNat, (keyOf H v).2.toNat)
theorem natK_map {H : Hp} : ∀ {xs : List V} {ps : List Rd}, RdsV H xs (ps.map some) → xs.map (natK H) = ps
  | _, [], .nil => rfl
  | _, p :: r, .cons h t => by
    obtain ⟨u, v⟩ := p
    obtain ⟨a, rfl, g⟩ := h
    rw [List.map_cons, natK_map t]
    unfold natK
    rw [keyOf_at g]
    rfl
theorem sort_rds {H : Hp} {xs ys : List V} {ps : List Rd} (r : RdsV H xs (ps.map some)) (pm : ys.Perm xs) (so : SrtO.Srtd (ltP (keyOf H)) ys) (nd : ps.Nodup) :
    ∃ qs : List Rd, RdsV H ys (qs.map some) ∧ qs.Perm ps ∧ qs.Pairwise fun x y => lexB x y = true := by
  have e := natK_map r
  have pq : (ys.map (natK H)).Perm ps := by
    rw [← e]
    exact pm.map _
  have at_ : ∀ y ∈ ys, ∃ u v : Nat, (∃ t, y = V.ref t ∧ H t = some (.tup [.int (u : Int), .int (v : Int)])) ∧ keyOf H y = ((u : Int), (v : Int)) ∧ natK H y = (u, v) := by
    intro y hy
    obtain ⟨z, hz, q⟩ := paired_in r y (pm.mem_iff.mp hy)
    obtain ⟨p, _, rfl⟩ := List.mem_map.mp hz
    obtain ⟨u, v⟩ := p
    obtain ⟨t, rfl, g⟩ := q
    refine ⟨u, v, ⟨t, rfl, g⟩, keyOf_at g, ?_⟩
    unfold natK
    rw [keyOf_at g]
    rfl
  refine ⟨ys.map (natK H), ?_, pq, ?_⟩
  · refine paired_of (by rw [List.length_map, List.length_map]) fun j x y hx hy => ?_
    rw [List.getElem?_map, List.getElem?_map, hx] at hy
    cases hy
    obtain ⟨u, v, ⟨t, rfl, g⟩, _, e2⟩ := at_ x (List.mem_of_getElem? hx)
    rw [e2]
    exact ⟨t, rfl, g⟩
  · have nq : (ys.map (natK H)).Nodup := pq.nodup_iff.mpr nd
    rw [List.pairwise_map]
    unfold List.Nodup at nq
    rw [List.pairwise_map] at nq
    refine (List.Pairwise.and so nq).imp_of_mem ?_
    rintro a b ha hb ⟨h1, h2⟩
    obtain ⟨u, v, _, k1, n1⟩ := at_ a ha
    obtain ⟨u2, v2, _, k2, n2⟩ := at_ b hb
    rw [n1, n2] at h2 ⊢
    have h3 := SrtO.lexB_no.mp h1
    rw [k1, k2] at h3
    simp only [ne_eq, Prod.mk.injEq] at h2
    unfold lexB
    simp only [Bool.or_eq_true, Bool.and_eq_true, decide_eq_true_eq]
    omega
section
variable {P : Program} {w : World} {K : PySem.W.Frag} {mg : Str → Option Value} {base : Heap}
theorem ok_l_mixed (T : Tx K mg w.params) : FnG P w K mg base 2 T.d_l_mixed.f T.d_l_mixed.fd ["_law_box_here", "_law_items"] spMixed := by
  refine okG0 T.d_l_mixed.F sc_l_mixed (fun vs H Q E h => ?_) (fun cdv A outer s H vs Q E hg hr h => ?_)
  · obtain ⟨p, a, N, l, rfl, _⟩ := h
    rfl
  obtain ⟨p, a, N, l, rfl, hp, hN, ha, nap, lz, big, k⟩ := h
  have sz : sizeLine = 16777216 := sizeLine_eq
  refine ⟨_, (pss_cons (ps_par (i := 2) (j := 3) rfl sc_l_mixed.nd rfl rfl (by decide) rfl rfl (pa_cons (pe_callTy call_list_new (by rfl) T.n_list (by decide +kernel) (pa_cons (pv 1) pa_nil)) (pa_cons (pe_lst1 pa_nil) pa_nil)) (by rfl))
    (pss_cons (ps_while PassesOwn.never (pt_cmpR (op_neD hr.units) (pv 2) (pe_lst1 pa_nil) (nomark _))
      (pss_one (ps_expr (pe_bm PySem.F.plainAttrs_list PySem.F.slot_list_append PySem.F.type_list_append mt_append (pv 3) (pa_cons (pe_bm PySem.F.plainAttrs_list PySem.F.slot_list_pop PySem.F.type_list_pop mt_popAt (pv 2) (pa_cons (pe_cG (ok_l_take T) T.d_l_take.b takes0 hg (hr.mono (by decide)) T.d_l_take.m T.d_l_take.F.kp (pa_cons (pv 0) (pa_cons (pe_callB call_len_seq (by rfl) T.n_len (by decide +kernel) (pa_cons (pv 2) pa_nil)) pa_nil))) pa_nil)) pa_nil)))))
    (pss_one (ps_ret (pv 3))))), ?_⟩
  walk_at "rx"
  refine ⟨_, .inl (.of ha), fun s1 hs1 _ => ⟨by omega, fun s2 hs2 _ => ?_⟩⟩
  have n21 : s2 ≠ s1 := fun e => by
    rw [e, upd_same] at hs2
    cases hs2
  have hs2H : H s2 = none := by
    rw [upd_ne n21] at hs2
    exact hs2
  have n1p : s1 ≠ p := hp.ne hs1
  have n2p : s2 ≠ p := hp.ne hs2H
  refine ⟨fun m σ H' => ∃ ls fs, m = ls.length ∧ σ = [some (.ref p), some (.ref a), some (.ref s1), some (.ref s2)] ∧ Ext1 p H H' ∧ H' s1 = some (.lst (intL ls)) ∧ H' s2 = some (.lst (intL fs)) ∧ (fs ++ ls).Perm l ∧ BoxAt H' p (N + fs.length),
    ⟨_, l, [], rfl, rfl, ?_, ?_, ?_, by simp, (hp.off hs1).off hs2⟩, ?_⟩
  · intro c o _ hc
    rw [upd_ne (ne_of_none hc hs2H), upd_ne (ne_of_none hc hs1)]
    exact hc
  · rw [upd_ne (Ne.symm n21), upd_same]
  · rw [upd_same]
    rfl
  rintro m σ H1 ⟨ls, fs, rfl, rfl, E1, f1, f2, pm, bx⟩
  have lpm := pm.length_eq
  rw [List.length_append] at lpm
  walk_at "rx"
  refine ⟨by omega, fun e he _ => ?_⟩
  have Se : Same H1 (upd H1 e (.lst [])) := Same.new he
  refine r_ne_nilN (Se _ _ f1) upd_same (fun x hx => big x (pm.mem_iff.mp (List.mem_append_right _ hx))) ?_
  have bx2 := bx.off (o := .lst []) he
  generalize upd H1 e (.lst []) = H2 at Se bx2
  have f12 := Se _ _ f1
  have f22 := Se _ _ f2
  have E2 : Ext1 p H H2 := E1.trans (Same.ext1 Se)
  cases ls with
  | nil =>
    refine ⟨_, rfl, ?_⟩
    rw [if_neg (show ¬ (!([] : List Nat).isEmpty) = true from by decide)]
    rw [List.append_nil] at pm
    simp only [List.length_nil, Nat.add_zero] at lpm
    exact k s2 fs H2 hs2H E2 f22 pm (by rw [← lpm]; exact bx2)
  | cons b r =>
    refine ⟨_, rfl, ?_⟩
    rw [if_pos (show (!(b :: r).isEmpty) = true from rfl)]
    have iz : ∀ l : List Nat, (intL l).length = l.length := fun l => by
      unfold intL
      rw [List.length_map]
    refine ⟨_, fun _ _ z => z, .inl ⟨rfl, _, .of f22⟩, .inl ⟨rfl, _, .of f12⟩, _, .inl (.of f12), p, _, _, rfl, bx2, by omega, by rw [iz, List.length_cons]; omega, by rw [iz]; omega, fun d H3 d0 d1 bx3 e3 => ?_⟩
    rw [iz] at d1
    generalize hls : b :: r = ls at *
    obtain ⟨j, rfl⟩ : ∃ j : Nat, d = (j : Int) := ⟨d.toNat, by omega⟩
    have hj : j < ls.length := by omega
    have f13 := e3 _ _ n1p f12
    have f23 := e3 _ _ n2p f22
    have hat : atI (intL ls) (j : Int) = some (V.int (ls[j] : Int)) := atI_nat (by unfold intL; rw [List.getElem?_map, List.getElem?_eq_getElem hj]; rfl)
    obtain ⟨j', sq, gj, lj, _⟩ := atI_get hat
    rw [iz] at lj
    have ej : ls[j'] = ls[j] := by
      unfold intL at gj
      rw [List.getElem?_map, List.getElem?_eq_getElem lj] at gj
      simp only [Option.map_some, Option.some.injEq, V.int.injEq] at gj
      exact Int.ofNat_inj.mp gj
    refine ⟨s1, _, (j : Int), j', _, rfl, rfl, f13, by omega, by omega, sq, gj, ?_⟩
    have er : (intL ls).eraseIdx j' = intL (ls.eraseIdx j') := by
      exact erase_intL _ _
    rw [er]
    have f24 : upd H3 s1 (.lst (intL (ls.eraseIdx j'))) s2 = some (.lst (intL fs)) := by
      rw [upd_ne n21]
      exact f23
    refine ⟨s2, _, _, rfl, rfl, f24, by rw [iz]; omega, ls.length - 1, by omega, ls.eraseIdx j', ?_, rfl, ?_, ?_, fs ++ [ls[j]], ?_, ?_, ?_⟩
    · rw [List.length_eraseIdx_of_lt lj]
    · intro c o nc hc
      rw [upd_ne (ne_of_none hc hs2H), upd_ne (ne_of_none hc hs1)]
      exact e3 _ _ nc (E2 _ _ nc hc)
    · rw [upd_ne (Ne.symm n21), upd_same]
    · rw [upd_same]
      unfold intL
      simp
    · refine List.Perm.trans ?_ pm
      rw [List.append_assoc]
      refine .append_left _ ?_
      rw [← ej]
      exact erase_perm _ _ lj
    · have b4 := BoxAt.keep (H' := H3) (xs := intL fs ++ [V.int (ls[j] : Int)]) (BoxAt.keep (H' := H3) (xs := intL (ls.eraseIdx j')) bx3 n1p) n2p
      exact b4.le (by rw [List.length_append]; simp; omega)
end
end K32



namespace K32
open PySem L2 Nv Gr

def spTree (C : Addr) : Sp := fun vs H Q _ => ∃ p N n, vs = [.ref p, .int ((n : Nat) : Int)] ∧ BoxAt H p N ∧ N ≤ 900000 ∧ 1 ≤ n ∧ n ≤ 16 ∧
  ∀ x ps H0 H', Ext1 p H H0 → Same H0 H' → TreeAt C H' x n ps → NewT C H0 H' x → BoxAt H' p (N + 40) → Q (.ref x) H'
section
variable {P : Program} {w : World} {K : PySem.W.Frag} {mg : Str → Option Value} {base : Heap}
theorem ok_l_tree (T : Tx K mg w.params) : FnG P w K mg base 6 T.d_l_tree.f T.d_l_tree.fd ["_law_box_here", "_law_houses"] (spTree T.C_Tree) := by
  refine okG0 T.d_l_tree.F sc_l_tree (fun vs H Q E h => ?_) (fun cdv A outer s H vs Q E hg hr h => ?_)
  · obtain ⟨p, N, n, rfl, _⟩ := h
    rfl
  obtain ⟨p, N, n, rfl, hp, hN, n1, n16, k⟩ := h
  have sz : sizeLine = 16777216 := sizeLine_eq
  refine ⟨_, (pss_cons (ps_set (i := 2) sc_l_tree.nd rfl (Or.inr rfl) (pe_cG (ok_l_take T) T.d_l_take.b takes0 hg (hr.mono (by decide)) T.d_l_take.m T.d_l_take.F.kp (pa_cons (pv 0) (pa_cons pe_int pa_nil))))
    (pss_cons (ps_setLc (i := 3) (own := [("_law_k", 4)]) (g := gName 4) (tt := tYes) rfl sc_l_tree.nd rfl rfl (sw_true rfl rfl rfl (by decide +kernel)) (pi_range2 (by rfl) T.n_range (pa_cons pe_int (pa_cons (pv 1) pa_nil))) (blkOk_by (N := ["_law_box_here", "_law_houses", "_law_kind", "_law_pairs", "_law_k", "_law_names", "_law_a", "_law_b"]) (sc := defScope s_l_tree) (by decide +kernel)) (fun _ _ _ _ _ => pg_name (i := 4) sc_l_tree.nd rfl (Or.inl rfl)) (fun _ _ _ _ _ => pts_nil) (fun _ _ _ _ _ => (pe_tup (pa_cons (pv 4) (pa_cons (pe_ix (ix_listK (K := K) rfl) (pe_lst1 (pa_cons (pe_op op_sub (pv 4) pe_int) (pa_cons pe_int (pa_cons (pe_cG (ok_l_take T) T.d_l_take.b takes0 hg (hr.mono (by decide)) T.d_l_take.m T.d_l_take.F.kp (pa_cons (pv 0) (pa_cons (pv 4) pa_nil))) pa_nil)))) (pv 2) (fun _ _ => rfl)) pa_nil)))))
    (pss_cons (ps_set (i := 5) sc_l_tree.nd rfl (Or.inr rfl) (pe_cG (ok_l_mixed T) T.d_l_mixed.b takes0 hg (hr.mono (by decide)) T.d_l_mixed.m T.d_l_mixed.F.kp (pa_cons (pv 0) (pa_cons (pe_listRg rfl (by rfl) T.n_list (prg_1 (by rfl) T.n_range (pv 1))) pa_nil))))
    (pss_one (ps_ret (pe_makeG T.k_Tree (okn_Tree_init T).g T.d_Tree_init.bi takes0 hg (hr.mono (by decide)) rfl T.m_Tree (pa_cons (pv 1) (pa_cons (pe_callB cr_sortedPO (by rfl) T.n_sorted (by decide +kernel) (pa_cons (pe_lc (own := [("_law_a", 6), ("_law_b", 7)]) (g := (gTup K 2 (gCons (gName 6) (gCons (gName 7) gNil)))) (tt := tYes) rfl sc_l_tree.nd (pi_list (pv 3)) (blkOk_by (N := ["_law_box_here", "_law_houses", "_law_kind", "_law_pairs", "_law_k", "_law_names", "_law_a", "_law_b"]) (sc := defScope s_l_tree) (by decide +kernel)) (fun _ _ _ _ _ => (pg_tup rfl (pgs_cons (pg_name (i := 6) sc_l_tree.nd rfl (Or.inl rfl)) (pgs_cons (pg_name (i := 7) sc_l_tree.nd rfl (Or.inl rfl)) pgs_nil)))) (fun _ _ _ _ _ => pts_nil) (fun _ _ _ _ _ => (pe_callTy (call_tuple_ofK (K := K) rfl) (by rfl) T.n_tuple (by decide +kernel) (pa_cons (pe_callB (cr_sortedIK (K := K) rfl) (by rfl) T.n_sorted (by decide +kernel) (pa_cons (pe_lst1 (pa_cons (pe_ix (ix_listK (K := K) rfl) (pv 5) (pv 6) (fun _ _ => rfl)) (pa_cons (pe_ix (ix_listK (K := K) rfl) (pv 5) (pv 7) (fun _ _ => rfl)) pa_nil))) pa_nil)) pa_nil)))) pa_nil)) pa_nil)))))))), ?_⟩
  walk_at "rx"
  refine ⟨p, 3, N, rfl, hp, by omega, by decide, by decide, fun kd H1 k0 k1 bx1 e1 => ?_⟩
  obtain ⟨kn, rfl⟩ : ∃ kn : Nat, kd = (kn : Int) := ⟨kd.toNat, by omega⟩
  refine ⟨_, rfl, 1, (n : Int), rfl, ⟨by omega, by omega, by omega, by omega⟩, fun D hD => ?_⟩
  refine lc_boxT walk_range p (N + 1) 1 (fun G i v => ∃ (t : Addr) (j : Nat), v = V.ref t ∧ G t = some (.tup [V.int ((i + 1 : Nat) : Int), V.int (j : Int)]) ∧ j ≤ i) ?_ bx1 hD (by omega) (fun _ _ => trivial) ?_ ?_
  · rintro G G' i v ST ⟨t, j, rfl, g, l⟩
    exact ⟨t, j, rfl, ST _ _ (by intro _ q; cases q) g, l⟩
  · rintro i z Ha Hb R hi bxa Ea ⟨rfl, rfl⟩ kR
    refine ⟨rfl, ?_⟩
    walk_at "rx"
    rw [show (1 : Int) + (i : Int) = ((i + 1 : Nat) : Int) from by omega]
    refine ⟨p, _, _, rfl, bxa, by omega, by omega, by omega, fun jj H2 j0 j1 bx2 e2 => ?_⟩
    obtain ⟨jn, rfl⟩ : ∃ jn : Nat, jj = (jn : Int) := ⟨jj.toNat, by omega⟩
    refine ⟨by omega, fun w8 hw8 _ => ?_⟩
    have hjj : ∃ j : Nat, j ≤ i ∧ atI [V.int (((i + 1 : Nat) : Int) - 1), V.int 0, V.int (jn : Int)] (kn : Int) = some (V.int (j : Int)) := by
      obtain h | h | h : kn = 0 ∨ kn = 1 ∨ kn = 2 := by omega
      all_goals subst h
      · exact ⟨i, by omega, by rw [show (((i + 1 : Nat) : Int) - 1) = (i : Int) from by omega]; rfl⟩
      · exact ⟨0, by omega, rfl⟩
      · exact ⟨jn, by omega, rfl⟩
    obtain ⟨j, j1', hat8⟩ := hjj
    refine ⟨w8, _, (kn : Int), _, rfl, rfl, .of upd_same, hat8, ?_⟩
    refine ⟨by omega, fun t ht => ?_⟩
    obtain ⟨H3, eh, S3, _⟩ := gen_new (.lst [V.int (((i + 1 : Nat) : Int) - 1), V.int 0, V.int (jn : Int)]) hw8
    rw [eh] at ht ⊢
    obtain ⟨H4, eh4, S4, ft⟩ := gen_new (.tup [V.int ((i + 1 : Nat) : Int), V.int (j : Int)]) ht
    rw [eh4]
    exact kR _ _ ⟨t, j, rfl, ft, j1'⟩ ((bx2.mono (S3.trans S4)).le (by omega)) (e2.trans (Same.ext1 (S3.trans S4)))
  · intro ws H2 lw hws fD bx2 E2
    have lws : ws.length = n - 1 := by omega
    refine ⟨⟨by omega, by omega, by omega, by omega, by omega⟩, fun q hq => ?_⟩
    have erg : rgV 0 (n : Int) = intL (List.range n) := by
      unfold rgV intL
      simp
    rw [erg]
    have bq := bx2.off (o := .lst (intL (List.range n))) hq
    have Sq : Same H2 (upd H2 q (.lst (intL (List.range n)))) := Same.new hq
    refine ⟨p, q, _, List.range n, rfl, bq, by omega, upd_same, bx2.ne hq, by rw [List.length_range]; omega, fun x hx => by have := List.mem_range.mp hx; omega, fun s ns H5 hs E5 fs pm bx5 => ?_⟩
    rw [List.length_range] at bx5
    have nDp : D ≠ p := bx1.ne hD
    have fD5 := E5 _ _ nDp (Sq _ _ fD)
    have hws5 : ∀ (i : Nat) (v : V), ws[i]? = some v → ∃ (t : Addr) (j : Nat), v = V.ref t ∧ H5 t = some (.tup [V.int ((i + 1 : Nat) : Int), V.int (j : Int)]) ∧ j ≤ i := by
      intro i v hv
      obtain ⟨t, j, rfl, g, l⟩ := hws i v hv
      exact ⟨t, j, rfl, extTN bq E5 _ _ (by intro _ q; cases q) (Sq _ _ g), l⟩
    have lns : ns.length = n := by rw [pm.length_eq, List.length_range]
    have nd : ns.Nodup := pm.nodup_iff.mpr List.nodup_range
    have ltn : ∀ i a, ns[i]? = some a → a < n := fun i a h => List.mem_range.mp (pm.mem_iff.mp (List.mem_of_getElem? h))
    have E05 : Ext1 p H H5 := e1.trans (E2.trans ((Same.ext1 Sq).trans E5))
    rw [e_makeG]
    refine ⟨_, rfl, _, rfl, D, rfl, ⟨_, .of fD5⟩, fun D2 hD2 => ?_⟩
    refine lc_rel (walk_list (K := K) (a := D) (xs := ws)) (fun G i v => ∃ a b j, ns[i + 1]? = some a ∧ j ≤ i ∧ ns[j]? = some b ∧ RdV G v (some (srt a b))) ?_ hD2 (by omega) (fun H' S => .of (S _ _ fD5)) ?_ ?_
    · rintro G G' i v ST ⟨a, b, j, ha, hj, hb, q, e, g⟩
      exact ⟨a, b, j, ha, hj, hb, q, e, ST _ _ (by intro _ q; cases q) g⟩
    · rintro i z Ha Hb R hi S ⟨rfl, hz⟩ kR
      obtain ⟨t, j, rfl, g, l⟩ := hws5 i z hz
      have ga := S _ _ g
      have fsa := S _ _ fs
      refine ⟨t, _, rfl, .inl (.inl ga), rfl, ?_⟩
      walk_at "rx"
      obtain ⟨a, ea⟩ : ∃ a, ns[i + 1]? = some a := ⟨_, List.getElem?_eq_getElem (by omega)⟩
      obtain ⟨b, eb⟩ : ∃ b, ns[j]? = some b := ⟨_, List.getElem?_eq_getElem (by omega)⟩
      have at1 : atI (intL ns) ((i + 1 : Nat) : Int) = some (V.int (a : Int)) := atI_nat (by unfold intL; rw [List.getElem?_map, ea]; rfl)
      have at2 : atI (intL ns) (j : Int) = some (V.int (b : Int)) := atI_nat (by unfold intL; rw [List.getElem?_map, eb]; rfl)
      refine ⟨s, _, ((i + 1 : Nat) : Int), _, rfl, rfl, .of fsa, at1, s, _, (j : Int), _, rfl, rfl, .of fsa, at2, by omega, fun t ht _ => ?_⟩
      obtain ⟨H9, eh, S9, ft⟩ := gen_new (.lst [V.int (a : Int), V.int (b : Int)]) ht
      rw [eh]
      clear eh
      refine ⟨t, [(a : Int), (b : Int)], rfl, .of ft, fun zs u pz so hu => ?_⟩
      rw [two_sorted pz so]
      obtain ⟨H10, eh, S10, fu⟩ := gen_new (.lst ([((srt a b).1 : Int), ((srt a b).2 : Int)].map V.int)) hu
      rw [eh]
      clear eh
      refine ⟨u, rfl, _, .inl ⟨.of fu, fun v hv => ?_⟩⟩
      obtain ⟨H11, eh, S11, fv⟩ := gen_new (.tup ([((srt a b).1 : Int), ((srt a b).2 : Int)].map V.int)) hv
      rw [eh]
      clear eh
      exact kR _ _ (S9.trans (S10.trans S11)) ⟨a, b, j, ea, l, eb, v, rfl, fv⟩
    · intro acc H6 S6 la fA pA
      have grow : ∀ m, m ≤ acc.length → ∃ ps : List Rd, RdsV H6 (acc.take m) (ps.map some) ∧ Grown ns (m + 1) ps := by
        intro m
        induction m with
        | zero => exact fun _ => ⟨[], .nil, .one⟩
        | succ m ih =>
          intro lm
          obtain ⟨ps, rd, g⟩ := ih (by omega)
          obtain ⟨v, hv⟩ : ∃ v, acc[m]? = some v := ⟨_, List.getElem?_eq_getElem (by omega)⟩
          obtain ⟨a, b, j, ea, hj, eb, rv⟩ := pA m v hv
          refine ⟨ps ++ [srt a b], ?_, g.step ea (by omega) eb⟩
          rw [List.take_succ, hv, List.map_append]
          exact paired_app rd (.cons rv .nil)
      obtain ⟨ps, rds, g⟩ := grow acc.length (Nat.le_refl _)
      rw [List.take_length] at rds
      rw [show acc.length + 1 = n by omega] at g
      have gl := g.len
      refine ⟨D2, acc, keyOf H6, rfl, .of fA, key_at rds, fun ys u so st hu => ?_⟩
      obtain ⟨H7, eh, S7, fu⟩ := gen_new (.lst ys) hu
      rw [eh]
      clear eh
      obtain ⟨qs, rq, pq, sq⟩ := sort_rds rds st.perm so (g.nodup nd)
      have rq7 := rq.mono S7
      have ok : TreeOk n (qs.map some) := by
        have efm : (qs.map some).filterMap id = qs := by
          rw [List.filterMap_map]
          exact List.filterMap_some
        refine ⟨by omega, by omega, ?_, by rw [efm]; exact g.joined pm pq⟩
        unfold areB
        rw [efm, asc_of sq, Bool.and_true, Bool.and_eq_true, decide_eq_true_eq, List.length_map, pq.length_eq]
        refine ⟨gl, ?_⟩
        rw [List.all_eq_true]
        intro x hx
        obtain ⟨q, hq, rfl⟩ := List.mem_map.mp hx
        have hq := pq.mem_iff.mp hq
        have h1 := g.lt nd q hq
        obtain ⟨_, ⟨i, _, e2⟩⟩ := g.ends q hq
        have h2 := ltn i q.2 e2
        obtain ⟨a, b⟩ := q
        simp only [roadB, Bool.and_eq_true, decide_eq_true_eq]
        exact ⟨h1, h2⟩
      intro x dx hx hdx ndx
      have S7c : Same H7 (upd (upd H7 dx (HO.own x)) x (HO.ins T.C_Tree dx [])) := fun b o hb => by
        rw [upd_ne (ne_of_none hb hx), upd_ne (ne_of_none hb hdx)]
        exact hb
      refine ⟨x, dx, n, u, ys, qs.map some, rfl, upd_same, S7c _ _ fu, rq7.mono S7c, by rw [rq.length, List.length_map, pq.length_eq]; omega, fun h => absurd ok h, fun _ H8 E8 tr nt => ⟨rfl, ?_⟩⟩
      have S78 : Same H7 H8 := fun b o hb => E8 _ _ (ne_of_none hb hx) (S7c _ _ hb)
      refine k x _ H7 H8 (E05.trans (Same.ext1 (S6.trans S7))) S78 tr ?_ ?_
      · intro dx' r' a' L' n' h8 bs hbs b hb
        have := nt dx' r' a' L' n' h8 bs hbs b hb
        cases h7 : H7 b with
        | none => rfl
        | some o =>
          rw [S7c _ _ h7] at this
          cases this
      · exact (bx5.mono (S6.trans (S7.trans S78))).le (by omega)
end
end K32



namespace K32
open PySem L2 Nv Gr

def signsZ : Str := Str.ofString ("abcdefghijklmnopqrstuvwxyz ABCDEFGHIJKLMNOPQRSTUVWXYZ0123456789!#$&'()*+,-./:;<=>?@" ++ "[]^_{|}~")
theorem signs_len : signsZ.length = 91 := by decide +kernel
theorem signs_l : signsZ.cps.toList.length = 91 := by decide +kernel
theorem signs_a : ∀ c ∈ signsZ.cps.toList, c < 128 := by decide +kernel
def spNum : Sp := fun vs H Q _ => ∃ p N, vs = [.ref p] ∧ BoxAt H p N ∧ N ≤ 900000 ∧ ∀ i H', 0 ≤ i → i ≤ 10 ^ 19 + 100 → BoxAt H' p (N + 2) → Ext1 p H H' → Q (.int i) H'
structure LineD (d : PyData) : Prop where
  ex : ∃ (h n : Int) (c t : Str), d = .tuple [.int h, .int n, .str c, .str t] ∧ 0 ≤ h ∧ h ≤ 10 ^ 19 ∧ 0 ≤ n ∧ n ≤ 10 ^ 20 ∧ Asc c ∧ c.length ≤ 8 ∧ Asc t ∧ t.length ≤ 40
def spLineD : Sp := fun vs H Q _ => ∃ p N n, vs = [.ref p, .int ((n : Nat) : Int)] ∧ BoxAt H p N ∧ N ≤ 800000 ∧ 1 ≤ n ∧ n ≤ 16 ∧ ∀ v d H', LineD d → DV H' v d → BoxAt H' p (N + 60) → Ext1 p H H' → Q v H'
section
variable {P : Program} {w : World} {K : PySem.W.Frag} {mg : Str → Option Value} {base : Heap}
theorem ok_l_signs (T : Tx K mg w.params) : FnG P w K mg base 1 T.d_l_signs.f T.d_l_signs.fd [] (fun vs H Q _ => vs = [] ∧ Q (.str signsZ) H) := by
  refine okG0 T.d_l_signs.F sc_l_signs (fun vs H Q E h => ?_) (fun cdv A outer s H vs Q E hg hr h => ?_)
  · obtain ⟨rfl, _⟩ := h
    rfl
  obtain ⟨rfl, k⟩ := h
  refine ⟨_, (pss_one (ps_ret pe_str)), ?_⟩
  walk_at "rx"
  have key : ∀ z : Str, z = signsZ → Q (.str z) H := fun z e => e ▸ k
  exact key _ (by decide +kernel)
theorem ok_l_number (T : Tx K mg w.params) : FnG P w K mg base 2 T.d_l_number.f T.d_l_number.fd ["_law_box_here"] spNum := by
  refine okG0 T.d_l_number.F sc_l_number (fun vs H Q E h => ?_) (fun cdv A outer s H vs Q E hg hr h => ?_)
  · obtain ⟨p, N, rfl, _⟩ := h
    rfl
  obtain ⟨p, N, rfl, hp, hN, k⟩ := h
  have sz : sizeLine = 16777216 := sizeLine_eq
  refine ⟨_, (pss_cons (ps_par (i := 1) (j := 2) rfl sc_l_number.nd rfl rfl (by decide) rfl rfl (pa_cons (pe_cG (ok_l_take T) T.d_l_take.b takes0 hg (hr.mono (by decide)) T.d_l_take.m T.d_l_take.F.kp (pa_cons (pv 0) (pa_cons pe_int pa_nil))) (pa_cons (pe_cG (ok_l_take T) T.d_l_take.b takes0 hg (hr.mono (by decide)) T.d_l_take.m T.d_l_take.F.kp (pa_cons (pv 0) (pa_cons pe_int pa_nil))) pa_nil)) (by rfl))
    (pss_one (ps_ret (pe_ix ix_list (pe_lst1 (pa_cons pe_int (pa_cons pe_int (pa_cons (pv 2) (pa_cons (pe_op op_add (pe_op op_pow pe_int pe_int) (pv 2)) pa_nil))))) (pv 1) (fun _ _ => rfl))))), ?_⟩
  walk_at "rx"
  refine ⟨p, 4, N, rfl, hp, by omega, by decide, by decide, fun d H1 d0 d1 hp1 e1 => ⟨p, 100, _, rfl, hp1, by omega, by decide, by decide, fun e H2 e0 e1' hp2 e2 => ?_⟩⟩
  refine ⟨by unfold CPow; decide, _, _, rfl, rfl, by omega, fun w1 hw1 _ => ?_⟩
  obtain ⟨H3, eh, S3, f3⟩ := gen_new (.lst [V.int 0, V.int 1, V.int e, V.int (10 ^ Int.toNat 19 + e)]) hw1
  rw [eh]
  clear eh
  refine r_menu f3 d0 d1 fun v hv => ?_
  obtain ⟨i, rfl, i0, i1⟩ : ∃ i : Int, v = .int i ∧ 0 ≤ i ∧ i ≤ 10 ^ 19 + 100 := by
    simp only [List.mem_cons, List.not_mem_nil, or_false] at hv
    rcases hv with rfl | rfl | rfl | rfl
    · exact ⟨0, rfl, by decide, by decide⟩
    · exact ⟨1, rfl, by decide, by decide⟩
    · exact ⟨e, rfl, e0, by omega⟩
    · exact ⟨10 ^ 19 + e, rfl, by omega, by omega⟩
  exact k i H3 i0 i1 (hp2.mono S3) (e1.trans (e2.trans (Same.ext1 S3)))
theorem ok_l_line (T : Tx K mg w.params) : FnG P w K mg base 3 T.d_l_line.f T.d_l_line.fd ["_law_box_here", "_law_houses"] spLineD := by
  refine okG0 T.d_l_line.F sc_l_line (fun vs H Q E h => ?_) (fun cdv A outer s H vs Q E hg hr h => ?_)
  · obtain ⟨p, N, n, rfl, _⟩ := h
    rfl
  obtain ⟨p, N, n, rfl, hp, hN, n1, n16, k⟩ := h
  have sz : sizeLine = 16777216 := sizeLine_eq
  refine ⟨_, (pss_cons (ps_asg (pe_tup (pa_cons (pe_ix ix_list (pe_lst1 (pa_cons pe_int (pa_cons pe_int (pa_cons pe_int (pa_cons pe_int pa_nil))))) (pe_cG (ok_l_take T) T.d_l_take.b takes0 hg (hr.mono (by decide)) T.d_l_take.m T.d_l_take.F.kp (pa_cons (pv 0) (pa_cons pe_int pa_nil))) (fun _ _ => rfl)) (pa_cons (pe_ix ix_list (pe_lst1 (pa_cons pe_int (pa_cons pe_int (pa_cons pe_int (pa_cons pe_int pa_nil))))) (pe_cG (ok_l_take T) T.d_l_take.b takes0 hg (hr.mono (by decide)) T.d_l_take.m T.d_l_take.F.kp (pa_cons (pv 0) (pa_cons pe_int pa_nil))) (fun _ _ => rfl)) (pa_cons (pe_cG0 (ok_l_signs T) T.d_l_signs.b takes0 hg (hr.mono (by decide)) T.d_l_signs.m T.d_l_signs.F.kp) pa_nil)))) (pg_tup rfl (pgs_cons (pg_name (i := 2) sc_l_line.nd rfl (Or.inl rfl)) (pgs_cons (pg_name (i := 3) sc_l_line.nd rfl (Or.inl rfl)) (pgs_cons (pg_name (i := 4) sc_l_line.nd rfl (Or.inr rfl)) pgs_nil)))))
    (pss_cons (ps_par (i := 5) (j := 6) rfl sc_l_line.nd rfl rfl (by decide) rfl rfl (pa_cons (pe_cG (ok_l_take T) T.d_l_take.b takes0 hg (hr.mono (by decide)) T.d_l_take.m T.d_l_take.F.kp (pa_cons (pv 0) (pa_cons (pv 1) pa_nil))) (pa_cons (pe_cG (ok_l_number T) T.d_l_number.b takes0 hg (hr.mono (by decide)) T.d_l_number.m T.d_l_number.F.kp (pa_cons (pv 0) pa_nil)) pa_nil)) (by rfl))
    (pss_cons (ps_set (i := 7) sc_l_line.nd rfl (Or.inl rfl) (pe_join pe_str (pe_lc (own := [("_law_k", 8)]) (g := gName 8) (tt := tYes) rfl sc_l_line.nd (pi_range1 (by rfl) T.n_range (pa_cons (pv 2) pa_nil)) (blkOk_by (N := ["_law_box_here", "_law_houses", "_law_many", "_law_more", "_law_signs_here", "_law_home", "_law_number_here", "_law_cell_here", "_law_k"]) (sc := defScope s_l_line) (by decide +kernel)) (fun _ _ _ _ _ => pg_name (i := 8) sc_l_line.nd rfl (Or.inl rfl)) (fun _ _ _ _ _ => pts_nil) (fun _ _ _ _ _ => (pe_ix ix_str (pv 4) (pe_cG (ok_l_take T) T.d_l_take.b takes0 hg (hr.mono (by decide)) T.d_l_take.m T.d_l_take.F.kp (pa_cons (pv 0) (pa_cons pe_int pa_nil))) (fun _ _ => rfl))))))
    (pss_one (ps_ret (pe_tup (pa_cons (pv 5) (pa_cons (pv 6) (pa_cons (pv 7) (pa_cons (pe_join pe_str (pe_lc (own := [("_law_k", 8)]) (g := gName 8) (tt := tYes) rfl sc_l_line.nd (pi_range1 (by rfl) T.n_range (pa_cons (pv 3) pa_nil)) (blkOk_by (N := ["_law_box_here", "_law_houses", "_law_many", "_law_more", "_law_signs_here", "_law_home", "_law_number_here", "_law_cell_here", "_law_k"]) (sc := defScope s_l_line) (by decide +kernel)) (fun _ _ _ _ _ => pg_name (i := 8) sc_l_line.nd rfl (Or.inl rfl)) (fun _ _ _ _ _ => pts_nil) (fun _ _ _ _ _ => (pe_ix ix_str (pv 4) (pe_cG (ok_l_take T) T.d_l_take.b takes0 hg (hr.mono (by decide)) T.d_l_take.m T.d_l_take.F.kp (pa_cons (pv 0) (pa_cons (pe_callB call_len_str (by rfl) T.n_len (by decide +kernel) (pa_cons (pv 4) pa_nil)) pa_nil))) (fun _ _ => rfl))))) pa_nil)))))))))), ?_⟩
  walk_at "rx"
  refine ⟨by omega, fun w1 hw1 _ => ?_⟩
  have n1p := hp.ne hw1
  obtain ⟨H1, eh, S1, f1⟩ := gen_new (.lst [V.int 1, V.int 3, V.int 8, V.int 5]) hw1
  rw [eh]
  clear eh
  refine ⟨p, 4, N, rfl, hp.mono S1, by omega, by decide, by decide, fun d H2 d0 d1 hp2 e2 => r_menu (e2 _ _ n1p f1) d0 d1 fun v hv => ?_⟩
  obtain ⟨c, rfl, c8⟩ : ∃ c : Nat, v = .int (c : Int) ∧ c ≤ 8 := by
    simp only [List.mem_cons, List.not_mem_nil, or_false] at hv
    rcases hv with rfl | rfl | rfl | rfl
    · exact ⟨1, rfl, by decide⟩
    · exact ⟨3, rfl, by decide⟩
    · exact ⟨8, rfl, by decide⟩
    · exact ⟨5, rfl, by decide⟩
  refine ⟨by omega, fun w3 hw3 _ => ?_⟩
  have n3p := hp2.ne hw3
  obtain ⟨H3, eh, S3, f3⟩ := gen_new (.lst [V.int 0, V.int 1, V.int 6, V.int 40]) hw3
  rw [eh]
  clear eh
  refine ⟨p, 4, _, rfl, hp2.mono S3, by omega, by decide, by decide, fun d4 H4 d40 d41 hp4 e4 => r_menu (e4 _ _ n3p f3) d40 d41 fun v hv => ?_⟩
  obtain ⟨t, rfl, t40⟩ : ∃ t : Nat, v = .int (t : Int) ∧ t ≤ 40 := by
    simp only [List.mem_cons, List.not_mem_nil, or_false] at hv
    rcases hv with rfl | rfl | rfl | rfl
    · exact ⟨0, rfl, by decide⟩
    · exact ⟨1, rfl, by decide⟩
    · exact ⟨6, rfl, by decide⟩
    · exact ⟨40, rfl, by decide⟩
  refine ⟨by omega, fun w5 hw5 => ?_⟩
  obtain ⟨H5, eh, S5, f5⟩ := gen_new (.tup [V.int (c : Int), V.int (t : Int), V.str signsZ]) hw5
  rw [eh]
  clear eh
  have E5 : Ext1 p H H5 := (Same.ext1 S1).trans (e2.trans ((Same.ext1 S3).trans (e4.trans (Same.ext1 S5))))
  have b5 := hp4.mono S5
  refine ⟨_, _, rfl, .inl (.inl f5), rfl, ?_⟩
  walk_at "rx"
  have zl := signs_len
  have el : (Str.ofString "").length = 0 := by decide +kernel
  have all : (sg signsZ).all (fun c => decide (c < 128)) = true := by decide +kernel
  refine ⟨p, n, _, rfl, b5, by omega, by omega, by omega, fun h H6 h0 h1 b6 e6 => ⟨p, _, rfl, b6, by omega, fun i H7 i0 i1 b7 e7 => ?_⟩⟩
  have E7 := E5.trans (e6.trans e7)
  refine ⟨⟨_, rfl⟩, _, rfl, (c : Int), rfl, by omega, by omega, fun D hD => ?_⟩
  refine lc_box walk_range p (N + 5) 1 (fun _ v => ∃ c, decide (c < 128) = true ∧ v = V.str ⟨#[c]⟩) (b7.le (by omega)) hD (by omega) (fun _ _ => trivial) ?_ ?_
  · rintro j x Ha Hb R hj hBa Ea ⟨rfl, rfl⟩ kR
    refine ⟨rfl, ?_⟩
    walk_at "rx"
    refine ⟨p, 26, _, rfl, hBa, by omega, by decide, by decide, fun d H5 d0 d1 hB5 e5 => ?_⟩
    obtain ⟨c2, hc2, hat2⟩ := Nv.sign_at all d0 (by omega)
    exact ⟨_, _, c2, rfl, rfl, by omega, hat2, kR _ _ ⟨c2, hc2, rfl⟩ (hB5.le (by omega)) e5⟩
  · rintro ws H8 lw pw f8 b8 E8
    obtain ⟨l, lp, ll, rfl⟩ := ones_of ws pw
    rw [List.length_map] at lw
    refine ⟨D, rfl, l.map fun c => ⟨#[c]⟩, .inl (.of (by rw [f8, List.map_map]; rfl)), by rw [el, ones_sum]; omega, ?_⟩
    rw [join_ones]
    refine ⟨⟨_, rfl⟩, _, rfl, (t : Int), rfl, by omega, by omega, fun D2 hD2 => ?_⟩
    refine lc_box walk_range p (N + 13) 1 (fun _ v => ∃ c, decide (c < 128) = true ∧ v = V.str ⟨#[c]⟩) (b8.le (by omega)) hD2 (by omega) (fun _ _ => trivial) ?_ ?_
    · rintro j x Ha Hb R hj hBa Ea ⟨rfl, rfl⟩ kR
      refine ⟨rfl, ?_⟩
      walk_at "rx"
      refine ⟨by omega, p, _, _, rfl, hBa, by omega, by omega, by omega, fun d H5 d0 d1 hB5 e5 => ?_⟩
      obtain ⟨c2, hc2, hat2⟩ := Nv.sign_at all d0 (by omega)
      exact ⟨_, _, c2, rfl, rfl, by omega, hat2, kR _ _ ⟨c2, hc2, rfl⟩ (hB5.le (by omega)) e5⟩
    · rintro ws2 H9 lw2 pw2 f9 b9 E9
      obtain ⟨l2, lp2, ll2, rfl⟩ := ones_of ws2 pw2
      rw [List.length_map] at lw2
      refine ⟨D2, rfl, l2.map fun c => ⟨#[c]⟩, .inl (.of (by rw [f9, List.map_map]; rfl)), by rw [el, ones_sum]; omega, ?_⟩
      rw [join_ones]
      refine ⟨by omega, fun t2 ht2 => ?_⟩
      obtain ⟨H10, eh, S10, f10⟩ := gen_new (.tup [V.int h, V.int i, V.str (tx l), V.str (tx l2)]) ht2
      rw [eh]
      clear eh
      have asc : ∀ {l : List Nat}, (∀ c ∈ l, decide (c < 128) = true) → Asc (tx l) := fun {l} h c hc => of_decide_eq_true (h c (by rw [show (tx l).cps.toList = l from sg_tx l] at hc; exact hc))
      refine k (V.ref t2) _ H10 ⟨h, i, tx l, tx l2, rfl, h0, by omega, i0, by omega, asc lp, by rw [tx_len]; omega, asc lp2, by rw [tx_len]; omega⟩ (.tup f10 (.cons (.int _) (.cons (.int _) (.cons (.str _) (.cons (.str _) .nil))))) ((b9.mono S10).le (by omega)) (E7.trans (E8.trans (E9.trans (Same.ext1 S10))))
end
end K32



namespace K32
open PySem L2 Nv Gr

theorem LineD.t {d : PyData} (h : LineD d) {H H' : Hp} {v : V} (S : SameT H H') (q : DV H v d) : DV H' v d := by
  obtain ⟨a, b, c, t, rfl, _⟩ := h.ex
  cases q with
  | tup f r =>
    cases r with
    | cons r0 r =>
      cases r with
      | cons r1 r =>
        cases r with
        | cons r2 r =>
          cases r with
          | cons r3 r =>
            cases r
            cases r0
            cases r1
            cases r2
            cases r3
            exact .tup (S _ _ (by intro _ q; cases q) f) (.cons (.int _) (.cons (.int _) (.cons (.str _) (.cons (.str _) .nil))))
theorem lines_t {H H' : Hp} (S : SameT H H') : ∀ {vs : List V} {ds : List PyData}, (∀ d ∈ ds, LineD d) → DVs H vs ds → DVs H' vs ds
  | _, _, _, .nil => .nil
  | _, _, h, .cons a r => .cons ((h _ (by simp)).t S a) (lines_t S (fun d hd => h d (by simp [hd])) r)
theorem LineD.ft {d : PyData} (h : LineD d) : Ft 300 1 d := by
  obtain ⟨a, b, c, t, rfl, a0, a1, b0, b1, c0, c1, t0, t1⟩ := h.ex
  refine (Ft.tuple (.cons (Ft.int (by omega)) (.cons (Ft.int (by omega)) (.cons (Ft.str c0) (.cons (Ft.str t0) .nil (W2 := 0)))))).le ?_ (Nat.le_refl _)
  omega
theorem lines_fts : ∀ {ds : List PyData}, (∀ d ∈ ds, LineD d) → Fts (301 * ds.length) 1 ds
  | [], _ => .nil
  | d :: r, h => (Fts.cons (h d (by simp)).ft (lines_fts fun x hx => h x (by simp [hx]))).le (by rw [List.length_cons]; omega) (Nat.le_refl _)
theorem dvs_at {H : Hp} : ∀ {xs : List V} {ds : List PyData} {i : Nat} {x : V}, DVs H xs ds → xs[i]? = some x → ∃ d, ds[i]? = some d ∧ DV H x d
  | _, _, _, _, .nil, h => by simp at h
  | _, _, 0, _, .cons a r, h => by
    cases h
    exact ⟨_, rfl, a⟩
  | _, _, i + 1, _, .cons a r, h => dvs_at (i := i) r h
theorem dvs_len {H : Hp} : ∀ {xs : List V} {ds : List PyData}, DVs H xs ds → xs.length = ds.length
  | _, _, .nil => rfl
  | _, _, .cons _ r => by rw [List.length_cons, List.length_cons, dvs_len r]
theorem sel_lines {H : Hp} : ∀ {L : List V}, (∀ y ∈ L, ∃ d, DV H y d ∧ LineD d) → ∃ es, DVs H L es ∧ (∀ d ∈ es, LineD d) ∧ es.isEmpty = L.isEmpty
  | [], _ => ⟨[], .nil, by simp, rfl⟩
  | y :: L, h => by
    obtain ⟨d, q1, q2⟩ := h y (by simp)
    obtain ⟨es, r1, r2, _⟩ := sel_lines (L := L) fun z hz => h z (by simp [hz])
    exact ⟨d :: es, .cons q1 r1, fun z hz => by
      rcases List.mem_cons.mp hz with rfl | hz
      · exact q2
      · exact r2 z hz, rfl⟩
theorem dvs_app {H : Hp} : ∀ {xs ys : List V} {ds es : List PyData}, DVs H xs ds → DVs H ys es → DVs H (xs ++ ys) (ds ++ es)
  | _, _, _, _, .nil, h => h
  | _, _, _, _, .cons a r, h => .cons a (dvs_app r h)
theorem r_eq_lines {K : PySem.W.Frag} {H : Hp} {Q : VK} {p e : Addr} {L : List V} (h : H p = some (.lst L)) (he : H e = some (.lst [])) (b : ∀ y ∈ L, ∃ d, DV H y d ∧ LineD d) (q : Q (.bl L.isEmpty) H) : rEqD K (.ref p) (.ref e) H Q := by
  obtain ⟨es, r1, r2, r3⟩ := sel_lines b
  have ft := Ft.list (lines_fts r2)
  have nd : PyData.hasDictAll es = false := by
    have := PyData.hasDict_of_canLay (.list es) ft.c
    simpa only [PyData.hasDict] using this
  refine ⟨.list es, .list [], .lst (.of h) (r1.dp nd), .lst (.of he) .nil, ?_, by decide, ?_⟩
  · unfold SeqAt.shaped
    rw [ft.c, Bool.true_and]
    have := ft.s.p
    exact decide_eq_true (by omega)
  · rw [eqv_nil', r3]
    exact q
def keyP : PyData → List Int
  | .tuple (.int a :: .int b :: _) => [a, b]
  | _ => []
theorem LineD.at {d : PyData} (h : LineD d) {H : Hp} {v : V} (q : DV H v d) : ∃ (t : Addr) (a b : Int) (x y : V), v = V.ref t ∧ H t = some (.tup [.int a, .int b, x, y]) ∧ keyP d = [a, b] := by
  obtain ⟨a, b, c, t, rfl, _⟩ := h.ex
  cases q with
  | tup f r =>
    cases r with
    | cons r0 r =>
      cases r with
      | cons r1 r =>
        cases r with
        | cons r2 r =>
          cases r with
          | cons r3 r =>
            cases r
            cases r0
            cases r1
            exact ⟨_, a, b, _, _, rfl, f, rfl⟩
def spLines : Sp := fun vs H Q _ => ∃ p N n, vs = [.ref p, .int ((n : Nat) : Int)] ∧ BoxAt H p N ∧ N ≤ 700000 ∧ 1 ≤ n ∧ n ≤ 16 ∧
  ∀ v ds H', (∀ d ∈ ds, LineD d) → ds.length ≤ 4 → DV H' v (.tuple ds) → BoxAt H' p (N + 300) → Ext1 p H H' → Q v H'
section
variable {P : Program} {w : World} {K : PySem.W.Frag} {mg : Str → Option Value} {base : Heap}
theorem ok_l_lines (T : Tx K mg w.params) : FnG P w K mg base 4 T.d_l_lines.f T.d_l_lines.fd ["_law_box_here", "_law_houses"] spLines := by
  refine okG0 T.d_l_lines.F sc_l_lines (fun vs H Q E h => ?_) (fun cdv A outer s H vs Q E hg hr h => ?_)
  · obtain ⟨p, N, n, rfl, _⟩ := h
    rfl
  obtain ⟨p, N, n, rfl, hp, hN, n1, n16, k⟩ := h
  have sz : sizeLine = 16777216 := sizeLine_eq
  refine ⟨_, (pss_cons (ps_set (i := 2) sc_l_lines.nd rfl (Or.inl rfl) (pe_lst1 pa_nil))
    (pss_cons (ps_for PassesOwn.never rfl (pi_range1 (by rfl) T.n_range (pa_cons (pe_ix ix_list (pe_lst1 (pa_cons pe_int (pa_cons pe_int (pa_cons pe_int (pa_cons pe_int pa_nil))))) (pe_cG (ok_l_take T) T.d_l_take.b takes0 hg (hr.mono (by decide)) T.d_l_take.m T.d_l_take.F.kp (pa_cons (pv 0) (pa_cons pe_int pa_nil))) (fun _ _ => rfl)) pa_nil)) (pg_name (i := 3) sc_l_lines.nd rfl (Or.inl rfl))
      (pss_cons (ps_set (i := 4) sc_l_lines.nd rfl (Or.inr rfl) (pe_cG (ok_l_line T) T.d_l_line.b takes0 hg (hr.mono (by decide)) T.d_l_line.m T.d_l_line.F.kp (pa_cons (pv 0) (pa_cons (pv 1) pa_nil))))
      (pss_one (ps_if (pt_cmpR (op_eqD hr.units) (pe_lc (own := [("_law_one", 5)]) (g := gName 5) rfl sc_l_lines.nd (pi_list (pv 2)) (blkOk_by (N := ["_law_box_here", "_law_houses", "_law_found", "_law_turn", "_law_line_here", "_law_one"]) (sc := defScope s_l_lines) (by decide +kernel)) (fun _ _ _ _ _ => pg_name (i := 5) sc_l_lines.nd rfl (Or.inl rfl)) (fun _ _ _ _ _ => (pts_one (pt_cmpR (op_eqDK (K := K) rfl hr.units) (pe_slice (sl_tupK (K := K) rfl) (pv 5) po_none (po_some pe_int)) (pe_slice (sl_tupK (K := K) rfl) (pv 4) po_none (po_some pe_int)) (nomark _)))) (fun _ _ _ _ _ => (pv 5))) (pe_lst1 pa_nil) (nomark _))
        (pss_one (ps_expr (pe_bm PySem.F.plainAttrs_list PySem.F.slot_list_append PySem.F.type_list_append mt_append (pv 2) (pa_cons (pv 4) pa_nil))))
        pss_nil))))
    (pss_one (ps_ret (pe_callTy call_tuple_of (by rfl) T.n_tuple (by decide +kernel) (pa_cons (pv 2) pa_nil)))))), ?_⟩
  walk_at "rx"
  refine ⟨by omega, fun D hD _ => ?_⟩
  have nDp := hp.ne hD
  obtain ⟨H1, eh, S1, fD1⟩ := gen_new (.lst []) hD
  rw [eh]
  clear eh
  refine ⟨by simp; omega, fun w2 hw2 _ => ?_⟩
  have bx1 := hp.mono S1
  have n2p := bx1.ne hw2
  obtain ⟨H2, eh, S2, f2⟩ := gen_new (.lst [V.int 0, V.int 1, V.int 2, V.int 4]) hw2
  rw [eh]
  clear eh
  refine ⟨_, rfl, p, 4, N, rfl, bx1.mono S2, by omega, by decide, by decide, fun d H3 d0 d1 hp3 e3 => r_menu (e3 _ _ n2p f2) d0 d1 fun v hv => ?_⟩
  obtain ⟨c, rfl, c4⟩ : ∃ c : Nat, v = .int (c : Int) ∧ c ≤ 4 := by
    simp only [List.mem_cons, List.not_mem_nil, or_false] at hv
    rcases hv with rfl | rfl | rfl | rfl
    · exact ⟨0, rfl, by decide⟩
    · exact ⟨1, rfl, by decide⟩
    · exact ⟨2, rfl, by decide⟩
    · exact ⟨4, rfl, by decide⟩
  have E3 : Ext1 p H H3 := (Same.ext1 (S1.trans S2)).trans e3
  have fD3 := e3 _ _ nDp (S2 _ _ fD1)
  refine ⟨_, rfl, by omega, by omega, ?_⟩
  refine for_range (D := { nx := tRet (tCB (fun xs H Q => ∃ p, xs = [V.ref p] ∧ ∃ x, (SqL K H p x ∧ ∀ (l : Addr), H l = none → Q (V.ref l) (upd H l (HO.tup x))) ∨ SqT K H p x ∧ Q (V.ref p) H) (tCons (tVar 2) tNil)) { nx := fun x H' => Q V.non H', rt := Q }, rt := Q })
    (fun i σ H' => (∃ y3 y4, σ = [some (.ref p), some (.int (n : Int)), some (.ref D), y3, y4, none]) ∧ Ext1 p H H' ∧ BoxAt H' p (N + 1 + 60 * i) ∧ ∃ ws ds, H' D = some (.lst ws) ∧ DVs H' ws ds ∧ (∀ d ∈ ds, LineD d) ∧ ds.length ≤ i)
    ⟨⟨_, _, rfl⟩, E3, hp3, [], [], fD3, .nil, by simp, by simp⟩ ?_ ?_
  · rintro i σ Ha hi ⟨⟨y3, y4, rfl⟩, Ea, bxa, ws, ds, fDa, dv, ld, ll⟩
    walk_at "rx"
    refine ⟨p, _, n, rfl, bxa, by omega, n1, n16, fun v d Hb lD dvb bxb Eb => ?_⟩
    have Tb : SameT Ha Hb := extTN bxa Eb
    have dvb2 := lines_t Tb ld dv
    have fDb := Eb _ _ nDp fDa
    have E1b := Ea.trans Eb
    obtain ⟨tv, av, bv, xv, yv, rfl, gv, kv⟩ := lD.at dvb
    refine ⟨_, rfl, D, rfl, ⟨_, .of fDb⟩, fun D2 hD2 => ?_⟩
    have lw : ws.length ≤ 4 := by rw [dvs_len dv]; omega
    refine lc_sel (walk_list (K := K) (a := D) (xs := ws)) (fun j => (ws[j]?).bind fun y => if keyP (ds.getD j .none) = keyP d then some y else none) hD2 (by omega) (fun H' S => .of (S _ _ fDb)) ?_ ?_
    · rintro j y Hc Hd R Rn hj S3 ⟨rfl, hy⟩ kR kN
      rw [hy] at kR kN
      obtain ⟨dj, hdj, dvj⟩ := dvs_at dvb2 hy
      have ej : ds.getD j .none = dj := by
        rw [List.getD_eq_getElem?_getD, hdj]
        rfl
      rw [ej] at kR kN
      obtain ⟨ty, ay, by', xy, yy, rfl, gy, ky⟩ := (ld dj (List.mem_of_getElem? hdj)).at dvj
      refine ⟨rfl, ?_⟩
      walk_at "rx"
      have gy3 := S3 _ _ gy
      have gv3 := S3 _ _ gv
      refine r_take (k := 2) (.inl (.inl gy3)) (show 2 < 4 by decide) fun t1 H4 S4 f4 => ?_
      refine r_take (k := 2) (.inl (.inl (S4 _ _ gv3))) (show 2 < 4 by decide) fun t2 H5 S5 f5 => ?_
      refine ⟨_, _, .tup (.inl (.inl (S5 _ _ f4))) (.cons (.int ay) (.cons (.int by') .nil)), .tup (.inl (.inl f5)) (.cons (.int av) (.cons (.int bv) .nil)), (show SeqAt.shaped (.tuple [.int ay, .int by']) = true by rfl), (show SeqAt.shaped (.tuple [.int av, .int bv]) = true by rfl), _, rfl, ?_⟩
      have ev : PyData.eqv (.tuple [.int ay, .int by']) (.tuple [.int av, .int bv]) = decide (keyP dj = keyP d) := by
        rw [ky, kv]
        simp [PyData.eqv, PyData.eqvAll, Bool.decide_and]
        rfl
      rw [ev]
      have S45 := S4.trans S5
      by_cases c : keyP dj = keyP d
      · rw [if_pos (decide_eq_true c)]
        exact kR _ (if_pos c) _ S45
      · rw [if_neg (by simpa using c)]
        exact kN (if_neg c) _ S45
    · intro H3 S3 fD2
      refine ⟨by omega, fun e he _ => ?_⟩
      obtain ⟨H4, eh, S4, fe⟩ := gen_new (.lst []) he
      rw [eh]
      clear eh
      have S34 := S3.trans S4
      have dv4 := dvb2.mono S34
      refine r_eq_lines (S4 _ _ fD2) fe (fun y hy => ?_) ⟨_, rfl, ?_⟩
      · obtain ⟨j, hj, e2⟩ := List.mem_filterMap.mp hy
        obtain ⟨z, hz, e3⟩ := Option.bind_eq_some_iff.mp e2
        obtain ⟨dj, hdj, dvj⟩ := dvs_at dv4 hz
        split at e3
        · cases e3
          exact ⟨dj, dvj, ld dj (List.mem_of_getElem? hdj)⟩
        · cases e3
      · have fD4 := S34 _ _ fDb
        have bx4 := bxb.mono S34
        have E4 := E1b.trans (Same.ext1 S34)
        split
        · refine ⟨.inl ⟨rfl, _, .of fD4⟩, D, _, _, rfl, rfl, fD4, by omega, ⟨_, rfl⟩, ?_, ?_, _, upd_same, ds ++ [d], ?_, ?_, ?_⟩
          · intro c o nc hc
            rw [upd_ne (ne_of_none hc hD)]
            exact E4 _ _ nc hc
          · exact (BoxAt.keep (H' := H4) bx4 nDp).le (by omega)
          · have T5 := sameT_lstN (ys := ws ++ [V.ref tv]) fD4
            exact dvs_app (lines_t T5 ld dv4) (.cons (lD.t T5 (dvb.mono S34)) .nil)
          · intro x hx
            rcases List.mem_append.mp hx with hx | hx
            · exact ld x hx
            · rw [List.mem_singleton] at hx
              subst hx
              exact lD
          · rw [List.length_append]
            simp only [List.length_cons, List.length_nil]
            omega
        · exact ⟨⟨_, rfl⟩, E4, bx4.le (by omega), ws, fD4, ds, dv4, ld, by omega⟩
  · rintro σ Ha ⟨⟨y3, y4, rfl⟩, Ea, bxa, ws, ds, fDa, dv, ld, ll⟩
    walk_at "rx"
    refine ⟨ws, .inl ⟨.of fDa, fun t ht => ?_⟩⟩
    obtain ⟨Hb, eh, Sb, ft⟩ := gen_new (.tup ws) ht
    rw [eh]
    refine k _ ds Hb ld (by omega) (.tup ft (dv.mono Sb)) ((bxa.mono Sb).le (by omega)) (Ea.trans (Same.ext1 Sb))
end
end K32



namespace K32
open PySem L2 Nv Gr

theorem r_catD {K : PySem.W.Frag} {H : Hp} {Q : VK} {x y : V} {ds es : List PyData} (hx : DV H x (.tuple ds)) (hy : DV H y (.tuple es)) (l : ds.length + es.length ≤ 1000) (q : ∀ v H', Same H H' → DV H' v (.tuple (ds ++ es)) → Q v H') : rCatA K x y H Q := by
  cases hx with
  | @tup a xs _ f r =>
    cases hy with
    | @tup b ys _ g s =>
      have h1 := dvs_len r
      have h2 := dvs_len s
      have sz : sizeLine = 16777216 := sizeLine_eq
      refine ⟨a, b, xs, ys, rfl, rfl, .inl (.inl f), .inl (.inl g), by omega, fun e => ?_, fun _ e => ?_, fun _ _ p hp => ?_⟩
      · subst e
        cases r
        exact q _ H (Same.refl H) (.tup g s)
      · subst e
        cases s
        rw [List.append_nil] at q
        exact q _ H (Same.refl H) (.tup f r)
      · obtain ⟨H', eh, S, fp⟩ := gen_new (.tup (xs ++ ys)) hp
        rw [eh]
        exact q _ H' S (.tup fp (dvs_app (r.mono S) (s.mono S)))
structure NumD (d : PyData) : Prop where
  ex : ∃ i : Int, d = .int i ∧ 0 ≤ i ∧ i ≤ 10 ^ 20
structure LinesD (d : PyData) : Prop where
  ex : ∃ ls, d = .tuple ls ∧ (∀ x ∈ ls, LineD x) ∧ ls.length ≤ 4
def TailD (tl : List PyData) : Prop := tl = [] ∨ (∃ a, tl = [a] ∧ NumD a) ∨ (∃ a b, tl = [a, b] ∧ NumD a ∧ NumD b) ∨ ∃ a b c, tl = [a, b, c] ∧ NumD a ∧ NumD b ∧ LinesD c
structure LetD (d : PyData) : Prop where
  ex : ∃ (z : Str) (t h u : Int) (tl : List PyData), d = .tuple (.str z :: .tuple [.int t, .int h, .int u] :: tl) ∧ Asc z ∧ z.length ≤ 5 ∧ (0 ≤ t ∧ t ≤ 10 ^ 20) ∧ (0 ≤ h ∧ h ≤ 10 ^ 20) ∧ (0 ≤ u ∧ u ≤ 10 ^ 20) ∧
    TailD tl
def spLetter : Sp := fun vs H Q _ => ∃ p N n, vs = [.ref p, .int ((n : Nat) : Int)] ∧ BoxAt H p N ∧ N ≤ 600000 ∧ 1 ≤ n ∧ n ≤ 16 ∧
  ∀ v d H', LetD d → DV H' v d → BoxAt H' p (N + 320) → Ext1 p H H' → Q v H'
section
variable {P : Program} {w : World} {K : PySem.W.Frag} {mg : Str → Option Value} {base : Heap}
theorem ok_l_letter (T : Tx K mg w.params) : FnG P w K mg base 5 T.d_l_letter.f T.d_l_letter.fd ["_law_box_here", "_law_houses"] spLetter := by
  refine okG0 T.d_l_letter.F sc_l_letter (fun vs H Q E h => ?_) (fun cdv A outer s H vs Q E hg hr h => ?_)
  · obtain ⟨p, N, n, rfl, _⟩ := h
    rfl
  obtain ⟨p, N, n, rfl, hp, hN, n1, n16, k⟩ := h
  have sz : sizeLine = 16777216 := sizeLine_eq
  refine ⟨_, (pss_cons (ps_set (i := 2) sc_l_letter.nd rfl (Or.inl rfl) (pe_cG (ok_l_take T) T.d_l_take.b takes0 hg (hr.mono (by decide)) T.d_l_take.m T.d_l_take.F.kp (pa_cons (pv 0) (pa_cons pe_int pa_nil))))
    (pss_cons (ps_set (i := 3) sc_l_letter.nd rfl (Or.inl rfl) (pe_tup (pa_cons (pe_op op_add pe_int (pe_op op_fdivN (pe_cG (ok_l_number T) T.d_l_number.b takes0 hg (hr.mono (by decide)) T.d_l_number.m T.d_l_number.F.kp (pa_cons (pv 0) pa_nil)) pe_int)) (pa_cons (pe_cG (ok_l_take T) T.d_l_take.b takes0 hg (hr.mono (by decide)) T.d_l_take.m T.d_l_take.F.kp (pa_cons (pv 0) (pa_cons (pv 1) pa_nil))) (pa_cons (pe_op op_add pe_int (pe_op op_fdivN (pe_cG (ok_l_number T) T.d_l_number.b takes0 hg (hr.mono (by decide)) T.d_l_number.m T.d_l_number.F.kp (pa_cons (pv 0) pa_nil)) pe_int)) pa_nil)))))
    (pss_cons (ps_par3 (i := 4) (j := 5) (l := 6) rfl sc_l_letter.nd rfl rfl rfl (by decide) (by decide) (by decide) rfl rfl rfl (pa_cons (pe_cG (ok_l_take T) T.d_l_take.b takes0 hg (hr.mono (by decide)) T.d_l_take.m T.d_l_take.F.kp (pa_cons (pv 0) (pa_cons (pv 1) pa_nil))) (pa_cons (pe_op op_add pe_int (pe_op op_fdivN (pe_cG (ok_l_number T) T.d_l_number.b takes0 hg (hr.mono (by decide)) T.d_l_number.m T.d_l_number.F.kp (pa_cons (pv 0) pa_nil)) pe_int)) (pa_cons (pe_cG (ok_l_number T) T.d_l_number.b takes0 hg (hr.mono (by decide)) T.d_l_number.m T.d_l_number.F.kp (pa_cons (pv 0) pa_nil)) pa_nil))) (by rfl))
    (pss_cons (ps_set (i := 7) sc_l_letter.nd rfl (Or.inl rfl) (pe_cG (ok_l_lines T) T.d_l_lines.b takes0 hg (hr.mono (by decide)) T.d_l_lines.m T.d_l_lines.F.kp (pa_cons (pv 0) (pa_cons (pv 1) pa_nil))))
    (pss_cons (ps_set (i := 8) sc_l_letter.nd rfl (Or.inl rfl) (pe_lst1 (pa_cons (pe_tup pa_nil) (pa_cons (pe_tup (pa_cons (pv 4) (pa_cons (pv 5) (pa_cons (pv 7) pa_nil)))) (pa_cons (pe_tup pa_nil) (pa_cons (pe_tup (pa_cons (pv 4) (pa_cons (pv 5) pa_nil))) (pa_cons (pe_tup pa_nil) (pa_cons (pe_tup (pa_cons (pv 5) (pa_cons (pv 6) (pa_cons (pv 7) pa_nil)))) (pa_cons (pe_tup (pa_cons (pv 4) pa_nil)) (pa_cons (pe_tup (pa_cons (pv 4) (pa_cons (pv 6) pa_nil))) pa_nil))))))))))
    (pss_one (ps_ret (pe_op op_catA (pe_tup (pa_cons (pe_ix ix_list (pe_cG0 (ok_l_words T) T.d_l_words.b takes0 hg (hr.mono (by decide)) T.d_l_words.m T.d_l_words.F.kp) (pv 2) (fun _ _ => rfl)) (pa_cons (pv 3) pa_nil))) (pe_ix ix_list (pe_op op_cat (pv 8) (pe_lst1 (pa_cons (pe_tup (pa_cons (pv 4) (pa_cons (pv 6) (pa_cons (pv 7) pa_nil)))) pa_nil))) (pv 2) (fun _ _ => rfl)))))))))), ?_⟩
  walk_at "rx"
  refine ⟨p, 9, N, rfl, hp, by omega, by decide, by decide, fun kd H1 k0 k1 bx1 e1 => ⟨p, _, rfl, bx1, by omega, fun n2 H2 n20 n21 bx2 e2 => ?_⟩⟩
  have fd : ∀ i : Int, 0 ≤ i → i ≤ 10 ^ 19 + 100 → 0 ≤ 1 + i.fdiv 10 ∧ 1 + i.fdiv 10 ≤ 10 ^ 20 := fun i h0 h1 => by
    rw [Int.fdiv_eq_ediv_of_nonneg _ (by decide)]
    omega
  refine ⟨n2, 10, rfl, rfl, ⟨by decide, by decide⟩, 1, _, rfl, rfl, p, n, _, rfl, bx2, by omega, by omega, by omega, fun hh H3 h0 h1 bx3 e3 => ⟨p, _, rfl, bx3, by omega, fun n3 H4 n30 n31 bx4 e4 => ?_⟩⟩
  refine ⟨n3, 10, rfl, rfl, ⟨by decide, by decide⟩, 1, _, rfl, rfl, by omega, fun te hte => ?_⟩
  obtain ⟨H5, eh, S5, f5⟩ := gen_new (.tup [V.int (1 + n2.fdiv 10), V.int hh, V.int (1 + n3.fdiv 10)]) hte
  rw [eh]
  clear eh
  refine ⟨p, n, _, rfl, bx4.mono S5, by omega, by omega, by omega, fun h2 H6 h20 h21 bx6 e6 => ⟨p, _, rfl, bx6, by omega, fun n5 H7 n50 n51 bx7 e7 => ?_⟩⟩
  refine ⟨n5, 10, rfl, rfl, ⟨by decide, by decide⟩, 1, _, rfl, rfl, p, _, rfl, bx7, by omega, fun n6 H8 n60 n61 bx8 e8 => ⟨p, _, n, rfl, bx8, by omega, n1, n16, fun vl ls H9 lls ll4 dvl bx9 e9 => ?_⟩⟩
  have T59 : SameT H5 H9 := sameT_tr (extTN (bx4.mono S5) e6) (sameT_tr (extTN bx6 e7) (sameT_tr (extTN bx7 e8) (extTN bx8 e9)))
  have f9 := T59 _ _ (by intro _ q; cases q) f5
  have E9 : Ext1 p H H9 := e1.trans (e2.trans (e3.trans (e4.trans ((Same.ext1 S5).trans (e6.trans (e7.trans (e8.trans e9)))))))
  refine ⟨by omega, fun t0 ht0 => ?_⟩
  obtain ⟨G0, eh, Z0, g0⟩ := gen_new (.tup []) ht0
  rw [eh]
  clear eh
  refine ⟨by omega, fun t1 ht1 => ?_⟩
  obtain ⟨G1, eh, Z1, g1⟩ := gen_new (.tup [V.int h2, V.int (1 + n5.fdiv 10), vl]) ht1
  rw [eh]
  clear eh
  refine ⟨by omega, fun t2 ht2 => ?_⟩
  obtain ⟨G2, eh, Z2, g2⟩ := gen_new (.tup []) ht2
  rw [eh]
  clear eh
  refine ⟨by omega, fun t3 ht3 => ?_⟩
  obtain ⟨G3, eh, Z3, g3⟩ := gen_new (.tup [V.int h2, V.int (1 + n5.fdiv 10)]) ht3
  rw [eh]
  clear eh
  refine ⟨by omega, fun t4 ht4 => ?_⟩
  obtain ⟨G4, eh, Z4, g4⟩ := gen_new (.tup []) ht4
  rw [eh]
  clear eh
  refine ⟨by omega, fun t5 ht5 => ?_⟩
  obtain ⟨G5, eh, Z5, g5⟩ := gen_new (.tup [V.int (1 + n5.fdiv 10), V.int n6, vl]) ht5
  rw [eh]
  clear eh
  refine ⟨by omega, fun t6 ht6 => ?_⟩
  obtain ⟨G6, eh, Z6, g6⟩ := gen_new (.tup [V.int h2]) ht6
  rw [eh]
  clear eh
  refine ⟨by omega, fun t7 ht7 => ?_⟩
  obtain ⟨G7, eh, Z7, g7⟩ := gen_new (.tup [V.int h2, V.int n6]) ht7
  rw [eh]
  clear eh
  refine ⟨by omega, fun tl htl _ => ?_⟩
  obtain ⟨G8, eh, Z8, g8⟩ := gen_new (.lst [V.ref t0, V.ref t1, V.ref t2, V.ref t3, V.ref t4, V.ref t5, V.ref t6, V.ref t7]) htl
  rw [eh]
  clear eh
  intro pw G9 Z9 gw
  obtain ⟨j, rfl⟩ : ∃ j : Nat, kd = (j : Int) := ⟨kd.toNat, by omega⟩
  have wl : wordsL.length = 9 := rfl
  obtain ⟨z, hz⟩ : ∃ z, wordsL[j]? = some z := ⟨_, List.getElem?_eq_getElem (by omega)⟩
  have hzm := List.mem_of_getElem? hz
  have za : ∀ z ∈ wordsL, (∀ c ∈ z.cps.toList, c < 128) ∧ z.length ≤ 5 := by decide +kernel
  refine ⟨pw, _, (j : Int), .str z, rfl, rfl, .of gw, atI_nat (by rw [List.getElem?_map, hz]; rfl), by omega, fun ta hta => ?_⟩
  obtain ⟨G10, eh, Z10, g10⟩ := gen_new (.tup [V.str z, V.ref te]) hta
  rw [eh]
  clear eh
  refine ⟨by omega, fun t8 ht8 => ?_⟩
  obtain ⟨G11, eh, Z11, g11⟩ := gen_new (.tup [V.int h2, V.int n6, vl]) ht8
  rw [eh]
  clear eh
  refine ⟨by omega, fun l9 hl9 _ => ?_⟩
  obtain ⟨G12, eh, Z12, g12⟩ := gen_new (.lst [V.ref t8]) hl9
  rw [eh]
  clear eh
  have Y11 := Z11.trans Z12
  have Y10 := Z10.trans Y11
  have Y9 := Z9.trans Y10
  have Y8 := Z8.trans Y9
  have Y7 := Z7.trans Y8
  have Y6 := Z6.trans Y7
  have Y5 := Z5.trans Y6
  have Y4 := Z4.trans Y5
  have Y3 := Z3.trans Y4
  have Y2 := Z2.trans Y3
  have Y1 := Z1.trans Y2
  have Y0 := Z0.trans Y1
  refine ⟨tl, l9, _, _, rfl, rfl, Y9 _ _ g8, g12, by simp; omega, fun lc hlc => ?_⟩
  obtain ⟨G13, eh, Z13, g13⟩ := gen_new (.lst ([V.ref t0, V.ref t1, V.ref t2, V.ref t3, V.ref t4, V.ref t5, V.ref t6, V.ref t7] ++ [V.ref t8])) hlc
  rw [eh]
  clear eh
  have f13 := Z13 _ _ (Y0 _ _ f9)
  have dvl := (dvl.mono Y0).mono Z13
  have q0 := Z13 _ _ (Y1 _ _ g0)
  have q1 := Z13 _ _ (Y2 _ _ g1)
  have q2 := Z13 _ _ (Y3 _ _ g2)
  have q3 := Z13 _ _ (Y4 _ _ g3)
  have q4 := Z13 _ _ (Y5 _ _ g4)
  have q5 := Z13 _ _ (Y6 _ _ g5)
  have q6 := Z13 _ _ (Y7 _ _ g6)
  have q7 := Z13 _ _ (Y8 _ _ g7)
  have q8 := Z13 _ _ (Z12 _ _ g11)
  have q10 := Z13 _ _ (Y11 _ _ g10)
  have d1 : NumD (.int h2) := ⟨h2, rfl, h20, by omega⟩
  have d2 : NumD (.int (1 + n5.fdiv 10)) := ⟨_, rfl, fd n5 n50 n51⟩
  have d3 : NumD (.int n6) := ⟨n6, rfl, n60, by omega⟩
  have d4 : LinesD (.tuple ls) := ⟨ls, rfl, lls, ll4⟩
  refine r_menu g13 k0 (by simpa using k1) fun v hv => ?_
  obtain ⟨tD, dv, ok⟩ : ∃ tD, DV G13 v (.tuple tD) ∧ TailD tD := by
    simp only [List.cons_append, List.nil_append, List.mem_cons, List.not_mem_nil, or_false] at hv
    rcases hv with rfl | rfl | rfl | rfl | rfl | rfl | rfl | rfl | rfl
    · exact ⟨[], .tup q0 .nil, .inl rfl⟩
    · exact ⟨_, .tup q1 (.cons (.int _) (.cons (.int _) (.cons dvl .nil))), .inr (.inr (.inr ⟨_, _, _, rfl, d1, d2, d4⟩))⟩
    · exact ⟨[], .tup q2 .nil, .inl rfl⟩
    · exact ⟨_, .tup q3 (.cons (.int _) (.cons (.int _) .nil)), .inr (.inr (.inl ⟨_, _, rfl, d1, d2⟩))⟩
    · exact ⟨[], .tup q4 .nil, .inl rfl⟩
    · exact ⟨_, .tup q5 (.cons (.int _) (.cons (.int _) (.cons dvl .nil))), .inr (.inr (.inr ⟨_, _, _, rfl, d2, d3, d4⟩))⟩
    · exact ⟨_, .tup q6 (.cons (.int _) .nil), .inr (.inl ⟨_, rfl, d1⟩)⟩
    · exact ⟨_, .tup q7 (.cons (.int _) (.cons (.int _) .nil)), .inr (.inr (.inl ⟨_, _, rfl, d1, d3⟩))⟩
    · exact ⟨_, .tup q8 (.cons (.int _) (.cons (.int _) (.cons dvl .nil))), .inr (.inr (.inr ⟨_, _, _, rfl, d1, d3, d4⟩))⟩
  have tl3 : tD.length ≤ 3 := by
    rcases ok with rfl | ⟨a, rfl, _⟩ | ⟨a, b, rfl, _⟩ | ⟨a, b, c, rfl, _⟩ <;> simp
  refine r_catD (ds := [.str z, .tuple [.int (1 + n2.fdiv 10), .int hh, .int (1 + n3.fdiv 10)]]) (.tup q10 (.cons (.str z) (.cons (.tup f13 (.cons (.int _) (.cons (.int _) (.cons (.int _) .nil)))) .nil))) dv (by simp; omega) fun v H' Sx dx => ?_
  have Sall := Y0.trans (Z13.trans Sx)
  refine k v _ H' ⟨z, _, _, _, tD, rfl, (za z hzm).1, (za z hzm).2, fd n2 n20 n21, ⟨h0, by omega⟩, fd n3 n30 n31, ok⟩ dx ((bx9.mono Sall).le (by omega)) (E9.trans (Same.ext1 Sall))
end
end K32



namespace K32
open PySem L2 Nv Gr

/-- what a letter is made of -/
inductive Lk (m : Nat) : PyData → Prop
  | int {i : Int} : 0 ≤ i → i ≤ 10 ^ 20 → Lk m (.int i)
  | str {z : Str} : Asc z → Lk m (.str z)
  | tup {l : List PyData} : l.length ≤ m → (∀ d, d ∈ l → Lk m d) → Lk m (.tuple l)
/-- what a changed letter is made of -/
inductive Ok (m : Nat) : PyData → Prop
  | non : Ok m .none
  | bl (b : Bool) : Ok m (.bool b)
  | int {i : Int} : -(10 ^ 20 + 1) ≤ i → i ≤ 10 ^ 20 + 1 → Ok m (.int i)
  | str {z : Str} : Asc z → Ok m (.str z)
  | tup {l : List PyData} : l.length ≤ m → (∀ d, d ∈ l → Ok m d) → Ok m (.tuple l)
  | lst {l : List PyData} : l.length ≤ m → (∀ d, d ∈ l → Ok m d) → Ok m (.list l)
theorem Lk.ok {m n : Nat} (le : m ≤ n) {d : PyData} (h : Lk m d) : Ok n d := by
  induction h with
  | int a b => exact .int (by omega) (by omega)
  | str a => exact .str a
  | tup a _ ih => exact .tup (Nat.le_trans a le) ih
theorem Ok.le {m n : Nat} (le : m ≤ n) {d : PyData} (h : Ok m d) : Ok n d := by
  induction h with
  | non => exact .non
  | bl b => exact .bl b
  | int a b => exact .int a b
  | str a => exact .str a
  | tup a _ ih => exact .tup (Nat.le_trans a le) ih
  | lst a _ ih => exact .lst (Nat.le_trans a le) ih
theorem all3 {l : List PyData} (h : ∀ d ∈ l, d.canLay0 = true ∧ d.leavesShort 40 = true ∧ d.showable = true) : PyData.canLayAll0 l = true ∧ PyData.leavesShortAll 40 l = true ∧ PyData.showableAll l = true := by
  induction l with
  | nil => exact ⟨rfl, rfl, rfl⟩
  | cons a r ih =>
    obtain ⟨a1, a2, a3⟩ := h a (by simp)
    obtain ⟨r1, r2, r3⟩ := ih fun d hd => h d (by simp [hd])
    simp only [PyData.canLayAll0, PyData.leavesShortAll, PyData.showableAll, a1, a2, a3, r1, r2, r3, Bool.and_self, and_self]
theorem Ok.three {m : Nat} {d : PyData} (h : Ok m d) : d.canLay0 = true ∧ d.leavesShort 40 = true ∧ d.showable = true := by
  induction h with
  | non => exact ⟨rfl, rfl, rfl⟩
  | bl b => exact ⟨rfl, rfl, rfl⟩
  | @int i a b =>
    have f := Ft.int (D := 0) (i := i) ⟨by omega, by omega⟩
    exact ⟨f.c, f.s.s, f.s.h⟩
  | @str z a =>
    have f := Ft.str (D := 0) a
    exact ⟨f.c, f.s.s, f.s.h⟩
  | tup _ _ ih =>
    have := all3 ih
    simpa only [PyData.canLay0, PyData.leavesShort, PyData.showable] using this
  | lst _ _ ih =>
    have := all3 ih
    simpa only [PyData.canLay0, PyData.leavesShort, PyData.showable] using this
theorem Ok.ft {m W D : Nat} {d : PyData} (h : Ok m d) (w : d.weight ≤ W) (p : d.depth ≤ D) : Ft W D d := ⟨h.three.1, h.three.2.1, w, p, h.three.2.2⟩
mutual
def xd : PyData → XD
  | .none => .non
  | .bool b => .bl b
  | .int i => .int i
  | .str z => .str z
  | .tuple l => .tup (xds l)
  | .list _ => .lst
  | .dict _ => .dct
def xds : List PyData → List XD
  | [] => []
  | d :: r => xd d :: xds r
end
theorem xds_len : ∀ l, (xds l).length = l.length
  | [] => rfl
  | d :: r => by rw [xds, List.length_cons, List.length_cons, xds_len r]
mutual
theorem xv_of {K : PySem.W.Frag} {C : Addr} {H : Hp} : ∀ {v : V} {d : PyData}, DV H v d → XV K C H v (xd d)
  | _, _, .non => .non
  | _, _, .bl b => .bl b
  | _, _, .int i => .int i
  | _, _, .str z => .str z
  | _, _, .lst h _ _ => .lst h
  | _, _, .tup h r => .tup (.inl (.inl h)) (xvs_of r)
  | _, _, .dct h _ => .dct h
theorem xvs_of {K : PySem.W.Frag} {C : Addr} {H : Hp} : ∀ {vs : List V} {ds : List PyData}, DVs H vs ds → XVs K C H vs (xds ds)
  | _, _, .nil => .nil
  | _, _, .cons a r => .cons (xv_of a) (xvs_of r)
end
theorem weight_mem {l : List PyData} {d : PyData} (h : d ∈ l) : d.weight + 1 ≤ PyData.weightAll l := by
  induction l with
  | nil => simp at h
  | cons a r ih =>
    rw [PyData.weightAll]
    rcases List.mem_cons.mp h with rfl | h
    · omega
    · have := ih h
      omega
theorem szXs_of {l : List PyData} (h : ∀ d ∈ l, szX (xd d) = true) : szXs (xds l) = true := by
  induction l with
  | nil => rfl
  | cons a r ih =>
    rw [xds, szXs, h a (by simp), ih fun d hd => h d (by simp [hd])]
    rfl
theorem Ok.sz {m : Nat} {d : PyData} (h : Ok m d) (hm : m < 64) (w : d.weight ≤ 100000) : szX (xd d) = true := by
  induction h with
  | @str z a =>
    have l : z.length ≤ 100000 := w
    rw [xd, szX, decide_eq_true l, Bool.true_and, List.all_eq_true]
    exact fun c hc => decide_eq_true (a c hc)
  | @tup l a _ ih =>
    rw [PyData.weight] at w
    rw [xd, szX, xds_len, decide_eq_true (by omega), Bool.true_and]
    exact szXs_of fun d hd => ih d hd (by have := weight_mem hd; omega)
  | _ => rfl
mutual
theorem lk_t {m : Nat} {H H' : Hp} (S : SameT H H') : ∀ {v : V} {d : PyData}, Lk m d → DV H v d → DV H' v d
  | _, _, _, .non => .non
  | _, _, _, .bl b => .bl b
  | _, _, _, .int i => .int i
  | _, _, _, .str z => .str z
  | _, _, h, .lst _ _ _ => nomatch h
  | _, _, .tup _ h, .tup f r => .tup (S _ _ (by intro _ q; cases q) f) (lks_t S h r)
  | _, _, h, .dct _ _ => nomatch h
theorem lks_t {m : Nat} {H H' : Hp} (S : SameT H H') : ∀ {vs : List V} {ds : List PyData}, (∀ d, d ∈ ds → Lk m d) → DVs H vs ds → DVs H' vs ds
  | _, _, _, .nil => .nil
  | _, _, h, .cons a r => .cons (lk_t S (h _ (by simp)) a) (lks_t S (fun d hd => h d (by simp [hd])) r)
end
def cutP (ds : List PyData) (lo hi : Option Int) : List PyData := (ds.drop (HT.sIx ds.length 0 lo)).take (HT.sIx ds.length ds.length hi - HT.sIx ds.length 0 lo)
theorem cutP_sub (ds : List PyData) (lo hi : Option Int) : (cutP ds lo hi).Sublist ds := (List.take_sublist _ _).trans (List.drop_sublist _ _)
theorem dvs_drop {H : Hp} : ∀ {vs : List V} {ds : List PyData} (n : Nat), DVs H vs ds → DVs H (vs.drop n) (ds.drop n)
  | _, _, 0, h => h
  | _, _, n + 1, .nil => .nil
  | _, _, n + 1, .cons _ r => dvs_drop n r
theorem dvs_take {H : Hp} : ∀ {vs : List V} {ds : List PyData} (n : Nat), DVs H vs ds → DVs H (vs.take n) (ds.take n)
  | _, _, 0, h => .nil
  | _, _, n + 1, .nil => .nil
  | _, _, n + 1, .cons a r => .cons a (dvs_take n r)
theorem r_slD {K : PySem.W.Frag} {H : Hp} {Q : VK} {x : V} {ds : List PyData} {lo hi : Option Int} (hx : DV H x (.tuple ds)) (q : ∀ v H', Same H H' → DV H' v (.tuple (cutP ds lo hi)) → Q v H') : rSlA K x lo hi H Q := by
  cases hx with
  | @tup a xs _ f r =>
    have h1 := dvs_len r
    refine ⟨a, xs, rfl, .inl (.inl f), fun hw => ?_, fun _ p hp => ?_⟩
    · have : cutP ds lo hi = ds := by
        unfold cutP
        rw [← h1, hw.1, hw.2, List.drop_zero, Nat.sub_zero, h1, List.take_length]
      rw [this] at q
      exact q _ H (Same.refl H) (.tup f r)
    · obtain ⟨H', eh, S, fp⟩ := gen_new (.tup (cutV xs lo hi)) hp
      rw [eh]
      refine q _ H' S (.tup fp ?_)
      unfold cutV cutP
      rw [← h1]
      exact dvs_take _ (dvs_drop _ (r.mono S))
theorem weight_sub {l r : List PyData} (h : l.Sublist r) : PyData.weightAll l ≤ PyData.weightAll r := by
  induction h with
  | slnil => exact Nat.le_refl _
  | cons a _ ih =>
    simp only [PyData.weightAll]
    omega
  | cons_cons a _ ih =>
    simp only [PyData.weightAll]
    omega
theorem depth_sub {l r : List PyData} (h : l.Sublist r) : PyData.depthAll l ≤ PyData.depthAll r := by
  induction h with
  | slnil => exact Nat.le_refl _
  | cons a _ ih =>
    simp only [PyData.depthAll]
    omega
  | cons_cons a _ ih =>
    simp only [PyData.depthAll]
    omega
theorem weight_app : ∀ (l r : List PyData), PyData.weightAll (l ++ r) = PyData.weightAll l + PyData.weightAll r
  | [], _ => by simp [PyData.weightAll]
  | a :: l, r => by
    rw [List.cons_append, PyData.weightAll, PyData.weightAll, weight_app l r]
    omega
theorem depth_app : ∀ (l r : List PyData), PyData.depthAll (l ++ r) = max (PyData.depthAll l) (PyData.depthAll r)
  | [], _ => by simp [PyData.depthAll]
  | a :: l, r => by
    rw [List.cons_append, PyData.depthAll, PyData.depthAll, depth_app l r]
    omega
theorem Lk.le {m n : Nat} (le : m ≤ n) {d : PyData} (h : Lk m d) : Lk n d := by
  induction h with
  | int a b => exact .int a b
  | str a => exact .str a
  | tup a _ ih => exact .tup (Nat.le_trans a le) ih
theorem int_len {i : Int} (h : -(10 ^ 21) ≤ i ∧ i ≤ 10 ^ 21) : (Str.ofString (toString i)).length ≤ 24 := by
  have h1 := int_text_length_le10 (a := i) (k := 22) (by decide) (by omega)
  have e : (Str.ofString (toString i)).length = (toString i).length := ofString_length _
  omega
theorem asc_int {h : Int} (h0 : 0 ≤ h) : Asc (Str.ofString (toString h)) := by
  obtain ⟨n, rfl⟩ : ∃ n : Nat, h = (n : Int) := ⟨h.toNat, by omega⟩
  intro c hc
  have : c ∈ sg (Str.ofString (toString (n : Int))) := hc
  rw [nat_sg] at this
  exact dig_lt (digits_dig this)
structure OutD (m : Nat) (d d' : PyData) : Prop where
  ok : Ok (2 * m + 2) d'
  w : d'.weight ≤ 2 * d.weight + 200
  p : d'.depth ≤ d.depth + 1
/-- data that stand through all draws to come -/
def DVp (p : Addr) (H : Hp) (v : V) (d : PyData) : Prop := ∀ H', Ext1 p H H' → DV H' v d
def spOdd : Sp := fun vs H Q _ => ∃ p N n v d m, vs = [.ref p, v, .int ((n : Nat) : Int)] ∧ BoxAt H p N ∧ N ≤ 500000 ∧ n ≤ 16 ∧ 1 ≤ m ∧ m ≤ 20 ∧ Lk m d ∧ d.weight ≤ 2000 ∧ DV H v d ∧
  ∀ v' d' H', Ext1 p H H' → BoxAt H' p (N + 4) → DVp p H' v' d' → OutD m d d' → Q v' H'
section
variable {P : Program} {w : World} {K : PySem.W.Frag} {mg : Str → Option Value} {base : Heap}
theorem ok_l_odd (T : Tx K mg w.params) : FnG P w K mg base 2 T.d_l_odd.f T.d_l_odd.fd ["_law_box_here", "_law_value", "_law_houses"] spOdd := by
  refine okG0 T.d_l_odd.F sc_l_odd (fun vs H Q E h => ?_) (fun cdv A outer s H vs Q E hg hr h => ?_)
  · obtain ⟨p, N, n, v, d, m, rfl, _⟩ := h
    rfl
  obtain ⟨p, N, n, v, d, m, rfl, hp, hN, n16, m1, m20, lk, wd, dv, k⟩ := h
  have sz : sizeLine = 16777216 := sizeLine_eq
  refine ⟨_, (pss_cons (ps_par (i := 3) (j := 4) rfl sc_l_odd.nd rfl rfl (by decide) rfl rfl (pa_cons (pe_cG (ok_l_take T) T.d_l_take.b takes0 hg (hr.mono (by decide)) T.d_l_take.m T.d_l_take.F.kp (pa_cons (pv 0) (pa_cons pe_int pa_nil))) (pa_cons (pe_cG (ok_l_take T) T.d_l_take.b takes0 hg (hr.mono (by decide)) T.d_l_take.m T.d_l_take.F.kp (pa_cons (pv 0) (pa_cons pe_int pa_nil))) pa_nil)) (by rfl))
    (pss_cons (ps_if (pt_val (pe_callB call_isiA (by rfl) T.n_isinstance (by decide +kernel) (pa_cons (pv 1) (pa_cons (pe_bltn (v := .ty "tuple") (by rfl) T.n_tuple (by decide +kernel) rfl) pa_nil))))
      (pss_cons (ps_set (i := 5) sc_l_odd.nd rfl (Or.inl rfl) (pe_lst1 (pa_cons (pe_callTy call_list_new (by rfl) T.n_list (by decide +kernel) (pa_cons (pv 1) pa_nil)) (pa_cons (pe_op op_catA (pv 1) (pe_tup (pa_cons (pv 4) pa_nil))) (pa_cons (pe_slice sl_tupA (pv 1) po_none (po_some (pe_un un_neg pe_int))) (pa_cons (pe_slice sl_tupA (pv 1) (po_some pe_int) po_none) (pa_cons pe_non (pa_cons (pe_tup pa_nil) (pa_cons (pe_op op_catA (pv 1) (pv 1)) (pa_cons (pe_tup (pa_cons (pv 1) pa_nil)) (pa_cons pe_str (pa_cons (pv 4) pa_nil))))))))))))
      (pss_one (ps_ret (pe_ix ix_list (pe_op op_cat (pv 5) (pe_lst1 (pa_cons (pe_op op_catA (pv 1) (pe_slice sl_tupA (pv 1) po_none (po_some pe_int))) pa_nil))) (pv 3) (fun _ _ => rfl)))))
      pss_nil)
    (pss_cons (ps_if (pt_val (pe_callB call_isiA (by rfl) T.n_isinstance (by decide +kernel) (pa_cons (pv 1) (pa_cons (pe_bltn (v := .ty "str") (by rfl) T.n_str (by decide +kernel) rfl) pa_nil))))
      (pss_cons (ps_par (i := 6) (j := 7) rfl sc_l_odd.nd rfl rfl (by decide) rfl rfl (pa_cons (pe_cG (ok_l_take T) T.d_l_take.b takes0 hg (hr.mono (by decide)) T.d_l_take.m T.d_l_take.F.kp (pa_cons (pv 0) (pa_cons (pe_op op_add (pe_callB call_len_str (by rfl) T.n_len (by decide +kernel) (pa_cons (pv 1) pa_nil)) pe_int) pa_nil))) (pa_cons (pe_ix ix_str (pe_op op_add_str (pe_cG0 (ok_l_signs T) T.d_l_signs.b takes0 hg (hr.mono (by decide)) T.d_l_signs.m T.d_l_signs.F.kp) pe_str) (pe_cG (ok_l_take T) T.d_l_take.b takes0 hg (hr.mono (by decide)) T.d_l_take.m T.d_l_take.F.kp (pa_cons (pv 0) (pa_cons (pe_op op_add (pe_callB call_len_str (by rfl) T.n_len (by decide +kernel) (pa_cons (pe_cG0 (ok_l_signs T) T.d_l_signs.b takes0 hg (hr.mono (by decide)) T.d_l_signs.m T.d_l_signs.F.kp) pa_nil)) pe_int) pa_nil))) (fun _ _ => rfl)) pa_nil)) (by rfl))
      (pss_cons (ps_set (i := 5) sc_l_odd.nd rfl (Or.inl rfl) (pe_lst1 (pa_cons pe_str (pa_cons (pe_op op_add_str (pe_op op_add_str (pe_slice sl_str (pv 1) po_none (po_some (pv 6))) (pv 7)) (pe_slice sl_str (pv 1) (po_some (pv 6)) po_none)) (pa_cons (pe_op op_add_str (pe_op op_add_str (pe_slice sl_str (pv 1) po_none (po_some (pv 6))) (pv 7)) (pe_slice sl_str (pv 1) (po_some (pe_op op_add (pv 6) pe_int)) po_none)) (pa_cons (pe_op op_add_str (pv 1) (pe_op op_mul_str pe_str pe_int)) (pa_cons pe_non (pa_cons (pv 4) pa_nil))))))))
      (pss_one (ps_ret (pe_ix ix_list (pe_op op_cat (pv 5) (pe_lst1 (pa_cons (pe_tup (pa_cons (pv 1) pa_nil)) (pa_cons (pe_lst1 (pa_cons (pv 1) pa_nil)) (pa_cons (pe_slice sl_str (pv 1) (po_some pe_int) po_none) (pa_cons (pe_ix ix_list (pe_cG0 (ok_l_words T) T.d_l_words.b takes0 hg (hr.mono (by decide)) T.d_l_words.m T.d_l_words.F.kp) (pe_op op_add pe_int (pv 4)) (fun _ _ => rfl)) (pa_cons (pe_op op_add_str (pv 1) (pe_op op_mul_str pe_str pe_int)) pa_nil))))))) (pv 3) (fun _ _ => rfl))))))
      pss_nil)
    (pss_cons (ps_set (i := 5) sc_l_odd.nd rfl (Or.inl rfl) (pe_lst1 (pa_cons pe_bl (pa_cons pe_bl (pa_cons pe_non (pa_cons (pe_callTy call_str_int (by rfl) T.n_str (by decide +kernel) (pa_cons (pv 1) pa_nil)) (pa_cons (pe_un un_neg pe_int) (pa_cons pe_int (pa_cons (pv 2) (pa_cons (pe_op op_add (pv 1) pe_int) (pa_cons (pe_lst1 (pa_cons (pv 1) pa_nil)) (pa_cons (pe_un un_neg (pv 1)) (pa_cons (pe_op op_sub (pv 2) pe_int) pa_nil)))))))))))))
    (pss_one (ps_ret (pe_ix ix_list (pv 5) (pv 3) (fun _ _ => rfl)))))))), ?_⟩
  walk_at "rx"
  refine ⟨p, 11, N, rfl, hp, by omega, by decide, by decide, fun wh H1 w0 w1 bx1 e1 => ⟨p, 4, _, rfl, bx1, by omega, by decide, by decide, fun fr H2 f0 f1 bx2 e2 => ?_⟩⟩
  have E2 := e1.trans e2
  have dv2 := lk_t (extTN bx1 e2) lk (lk_t (extTN hp e1) lk dv)
  have xv2 : XV K T.C_Tree H2 v (xd d) := xv_of dv2
  dsimp only
  refine r_isiX (obT T) xv2 .tuple ⟨_, rfl, ?_⟩
  cases lk with
  | @tup ds lm lks =>
    rw [if_pos (by rfl)]
    have ldv := dv2
    cases dv2 with
    | @tup a xs _ ha hr2 =>
      have el := dvs_len hr2
      refine ⟨a, rfl, xs, .inr (.inl (.inl ha)), fun l1 hl1 ns1 => ?_⟩
      have n1p := bx2.ne hl1
      obtain ⟨H3, eh, S3, f3⟩ := gen_new (.lst xs) hl1
      rw [eh]
      clear eh
      refine ⟨by omega, fun t1 ht1 => ?_⟩
      obtain ⟨H4, eh, S4, f4⟩ := gen_new (.tup [V.int fr]) ht1
      rw [eh]
      clear eh
      have lvD := ldv.mono (S3.trans S4)
      refine r_catD (es := [.int fr]) lvD (.tup f4 (.cons (.int fr) .nil)) (by simp; omega) fun v3 H5 S5 d3 => ?_
      have lv5 := lvD.mono S5
      refine r_slD lv5 fun v4 H6 S6 d4 => r_slD (lv5.mono S6) fun v5 H7 S7 d5 => ?_
      have lv7 := (lv5.mono S6).mono S7
      refine ⟨by omega, fun t2 ht2 => ?_⟩
      obtain ⟨H8, eh, S8, f8⟩ := gen_new (.tup []) ht2
      rw [eh]
      clear eh
      have lv8 := lv7.mono S8
      refine r_catD lv8 lv8 (by omega) fun v6 H9 S9 d6 => ?_
      have lv9 := lv8.mono S9
      refine ⟨by omega, fun t3 ht3 => ?_⟩
      obtain ⟨H10, eh, S10, f10⟩ := gen_new (.tup [V.ref a]) ht3
      rw [eh]
      clear eh
      refine ⟨by omega, fun l2 hl2 _ => ?_⟩
      obtain ⟨H11, eh, S11, f11⟩ := gen_new (.lst [V.ref l1, v3, v4, v5, V.non, V.ref t2, v6, V.ref t3, V.str (Str.ofString "halt"), V.int fr]) hl2
      rw [eh]
      clear eh
      have lv11 := (lv9.mono S10).mono S11
      refine r_slD lv11 fun v7 H12 S12 d7 => r_catD (lv11.mono S12) d7 (by have := (cutP_sub ds none (some 1)).length_le; omega) fun v8 H13 S13 d8 => ?_
      refine ⟨by omega, fun l3 hl3 _ => ?_⟩
      obtain ⟨H14, eh, S14, f14⟩ := gen_new (.lst [v8]) hl3
      rw [eh]
      clear eh
      have f11' := S14 _ _ (S13 _ _ (S12 _ _ f11))
      refine ⟨l2, l3, _, _, rfl, rfl, f11', f14, by simp; omega, fun l4 hl4 => ?_⟩
      obtain ⟨H15, eh, S15, f15⟩ := gen_new (.lst ([V.ref l1, v3, v4, v5, V.non, V.ref t2, v6, V.ref t3, V.str (Str.ofString "halt"), V.int fr] ++ [v8])) hl4
      rw [eh]
      clear eh
      have Y14 := S14.trans S15
      have Y13 := S13.trans Y14
      have Y12 := S12.trans Y13
      have Y11 := S11.trans Y12
      have Y10 := S10.trans Y11
      have Y9 := S9.trans Y10
      have Y8 := S8.trans Y9
      have Y7 := S7.trans Y8
      have Y6 := S6.trans Y7
      have Y5 := S5.trans Y6
      have Y4 := S4.trans Y5
      have Y3 := S3.trans Y4
      have E15 : Ext1 p H H15 := E2.trans (Same.ext1 Y3)
      have bx15 : BoxAt H15 p (N + 4) := (bx2.mono Y3).le (by omega)
      have lkf : Lk (2 * m + 2) (.int fr) := .int f0 (by omega)
      have wf : (PyData.int fr).weight ≤ 71 := (Ft.int (D := 0) (i := fr) ⟨by omega, by omega⟩).s.w
      have lkd : ∀ d, d ∈ ds → Lk (2 * m + 2) d := fun d hd => (lks d hd).le (by omega)
      have kt : ∀ {v : V} {es : List PyData}, DV H15 v (.tuple es) → es.length ≤ 2 * m + 2 → (∀ d, d ∈ es → Lk (2 * m + 2) d) → PyData.weightAll es ≤ 2 * PyData.weightAll ds + 200 → PyData.depthAll es ≤ PyData.depthAll ds + 1 → Q v H15 := fun {v es} dv le lk w p' => by
        have L : Lk (2 * m + 2) (.tuple es) := .tup le lk
        refine k v _ H15 E15 bx15 (fun H' E' => lk_t (extTN bx15 E') L dv) ⟨L.ok (Nat.le_refl _), ?_, ?_⟩
        · simp only [PyData.weight]
          omega
        · simp only [PyData.depth]
          omega
      have lcut : ∀ lo hi, (cutP ds lo hi).length ≤ ds.length := fun lo hi => (cutP_sub ds lo hi).length_le
      refine r_menu f15 w0 (by simpa using w1) fun v hv => ?_
      simp only [List.cons_append, List.nil_append, List.mem_cons, List.not_mem_nil, or_false] at hv
      rcases hv with rfl | rfl | rfl | rfl | rfl | rfl | rfl | rfl | rfl | rfl | rfl
      · have g1 := Y4 _ _ f3
        have L : Lk (2 * m + 2) (.tuple ds) := .tup (by omega) lkd
        have lv15 := (lv11.mono Y12)
        refine k _ (.list ds) H15 E15 bx15 (fun H' E' => .lst (E' _ _ n1p g1) ns1 ?_) ⟨.lst (by omega) fun d hd => (lkd d hd).ok (Nat.le_refl _), ?_, ?_⟩
        · exact lks_t (extTN bx15 E') lkd (hr2.mono Y3)
        · simp only [PyData.weight]
          omega
        · simp only [PyData.depth]
          omega
      · refine kt (d3.mono Y6) (by simp; omega) (fun d hd => ?_) ?_ ?_
        · rcases List.mem_append.mp hd with hd | hd
          · exact lkd d hd
          · rw [List.mem_singleton] at hd
            subst hd
            exact lkf
        · rw [weight_app]
          simp only [PyData.weightAll]
          omega
        · rw [depth_app]
          simp only [PyData.depthAll, PyData.depth]
          omega
      · refine kt (d4.mono Y7) (by have := lcut none (some (-1)); omega) (fun d hd => lkd d ((cutP_sub ds _ _).mem hd)) ?_ ?_
        · have := weight_sub (cutP_sub ds none (some (-1)))
          omega
        · have := depth_sub (cutP_sub ds none (some (-1)))
          omega
      · refine kt (d5.mono Y8) (by have := lcut (some 1) none; omega) (fun d hd => lkd d ((cutP_sub ds _ _).mem hd)) ?_ ?_
        · have := weight_sub (cutP_sub ds (some 1) none)
          omega
        · have := depth_sub (cutP_sub ds (some 1) none)
          omega
      · exact k _ _ H15 E15 bx15 (fun _ _ => .non) ⟨.non, Nat.zero_le _, Nat.zero_le _⟩
      · exact kt (.tup (Y9 _ _ f8) .nil) (by simp) (by simp) (by simp [PyData.weightAll]) (by simp [PyData.depthAll])
      · refine kt (d6.mono Y10) (by rw [List.length_append]; omega) (fun d hd => ?_) ?_ ?_
        · rcases List.mem_append.mp hd with hd | hd
          · exact lkd d hd
          · exact lkd d hd
        · rw [weight_app]
          omega
        · rw [depth_app]
          omega
      · refine kt (es := [.tuple ds]) (.tup (Y11 _ _ f10) (.cons ((lv9.mono S10).mono Y11) .nil)) (by simp) (fun d hd => ?_) ?_ ?_
        · rw [List.mem_singleton] at hd
          subst hd
          exact .tup (by omega) lkd
        · simp only [PyData.weightAll, PyData.weight]
          omega
        · simp only [PyData.depthAll, PyData.depth]
          omega
      · exact k _ _ H15 E15 bx15 (fun _ _ => .str "halt") ⟨.str (Nv.asc_of (by decide +kernel)), by show (Str.ofString "halt").length ≤ _; rw [show (Str.ofString "halt").length = 4 by decide +kernel]; omega, Nat.zero_le _⟩
      · exact k _ _ H15 E15 bx15 (fun _ _ => .int fr) ⟨lkf.ok (Nat.le_refl _), by omega, Nat.zero_le _⟩
      · refine kt (d8.mono Y14) (by have := lcut none (some 1); rw [List.length_append]; omega) (fun d hd => ?_) ?_ ?_
        · rcases List.mem_append.mp hd with hd | hd
          · exact lkd d hd
          · exact lkd d ((cutP_sub ds _ _).mem hd)
        · rw [weight_app]
          have := weight_sub (cutP_sub ds none (some 1))
          omega
        · rw [depth_app]
          have := depth_sub (cutP_sub ds none (some 1))
          omega
  | @str z az =>
    rw [if_neg (by simp [xd, isTx])]
    refine r_isiX (obT T) xv2 .str ⟨_, rfl, ?_⟩
    rw [if_pos (by simp [xd, isSx])]
    have lz : z.length ≤ 2000 := wd
    cases dv2
    refine ⟨z, rfl, by omega, p, _, _, rfl, bx2, by omega, by omega, by omega, fun at' H3 a0 a1 bx3 e3 => ?_⟩
    dsimp only
    have zl := signs_len
    have nl : (Str.ofString "\n").length = 1 := by decide +kernel
    refine ⟨by omega, by omega, p, _, _, rfl, bx3, by omega, by omega, by omega, fun sg1 H4 s0 s1 bx4 e4 => ?_⟩
    have zal : (signsZ ++ Str.ofString "\n").length = 92 := by decide +kernel
    have zaa : (sg (signsZ ++ Str.ofString "\n")).all (fun c => decide (c < 128)) = true := by decide +kernel
    generalize signsZ ++ Str.ofString "\n" = A at zal zaa
    obtain ⟨c, hc, hat⟩ := Nv.sign_at zaa s0 (by omega)
    have ac : Asc ⟨#[c]⟩ := Asc.one (of_decide_eq_true hc)
    have l1c : (⟨#[c]⟩ : Str).length = 1 := rfl
    have cl : ∀ lo hi, (cutS z lo hi).length ≤ z.length := fun lo hi => cutS_length z lo hi
    have la : ∀ x y : Str, (x ++ y).length = x.length + y.length := append_len
    refine ⟨A, _, c, rfl, rfl, by omega, hat, ?_⟩
    generalize (⟨#[c]⟩ : Str) = cs at ac l1c
    refine ⟨at', rfl, z, rfl, by omega, _, rfl, cs, rfl, by have := cl none (some at'); omega, at', rfl, z, rfl, by omega, _, rfl, by rw [la]; have := cl none (some at'); have := cl (some at') none; omega, at', rfl, z, rfl, by omega, _, rfl, cs, rfl, by have := cl none (some at'); omega, _, _, rfl, rfl, _, rfl, z, rfl, by omega, _, rfl, by rw [la]; have := cl none (some at'); have := cl (some (at' + 1)) none; omega, ?_⟩
    have ma : (Txt.mul (Str.ofString "a") 8).length = 8 := by decide +kernel
    have mt : (Txt.mul (Str.ofString "~") 41).length = 41 := by decide +kernel
    have aa : Asc (Txt.mul (Str.ofString "a") 8) := Asc.mul (Nv.asc_of (by decide +kernel)) 8
    have at2 : Asc (Txt.mul (Str.ofString "~") 41) := Asc.mul (Nv.asc_of (by decide +kernel)) 41
    have mo1 : MulOk (Str.ofString "a") 8 := by
      unfold MulOk
      decide +kernel
    have mo2 : MulOk (Str.ofString "~") 41 := by
      unfold MulOk
      decide +kernel
    generalize Txt.mul (Str.ofString "a") 8 = As at ma aa
    generalize Txt.mul (Str.ofString "~") 41 = Ts at mt at2
    refine ⟨mo1, z, rfl, by omega, by omega, fun l1 hl1 _ => ?_⟩
    obtain ⟨H5, eh, S5, f5⟩ := gen_new (.lst [V.str (Str.ofString ""), V.str (cutS z none (some at') ++ cs ++ cutS z (some at') none), V.str (cutS z none (some at') ++ cs ++ cutS z (some (at' + 1)) none), V.str (z ++ As), V.non, V.int fr]) hl1
    rw [eh]
    clear eh
    refine ⟨by omega, fun t1 ht1 => ?_⟩
    obtain ⟨H6, eh, S6, f6⟩ := gen_new (.tup [V.str z]) ht1
    rw [eh]
    clear eh
    refine ⟨by omega, fun l2 hl2 ns2 => ?_⟩
    have n2p := (bx4.mono (S5.trans S6)).ne hl2
    obtain ⟨H7, eh, S7, f7⟩ := gen_new (.lst [V.str z]) hl2
    rw [eh]
    clear eh
    refine ⟨z, rfl, by omega, fun pw H8 S8 gw => ?_⟩
    obtain ⟨fn, rfl⟩ : ∃ fn : Nat, fr = (fn : Int) := ⟨fr.toNat, by omega⟩
    have wl : wordsL.length = 9 := rfl
    obtain ⟨wd2, hwd⟩ : ∃ z, wordsL[fn + 2]? = some z := ⟨_, List.getElem?_eq_getElem (by omega)⟩
    have za : ∀ z ∈ wordsL, (∀ c ∈ z.cps.toList, c < 128) ∧ z.length ≤ 5 := by decide +kernel
    refine ⟨2, (fn : Int), rfl, rfl, pw, _, ((fn + 2 : Nat) : Int), .str wd2, rfl, (by show V.int (2 + (fn : Int)) = V.int ((fn + 2 : Nat) : Int); rw [show (2 : Int) + (fn : Int) = ((fn + 2 : Nat) : Int) by omega]), .of gw, atI_nat (by rw [List.getElem?_map, hwd]; rfl), mo2, z, rfl, by omega, by omega, fun l3 hl3 _ => ?_⟩
    obtain ⟨H9, eh, S9, f9⟩ := gen_new (.lst [V.ref t1, V.ref l2, V.str (cutS z (some 1) none), V.str wd2, V.str (z ++ Ts)]) hl3
    rw [eh]
    clear eh
    have Y7 := S7.trans (S8.trans S9)
    have Y6 := S6.trans Y7
    refine ⟨l1, l3, _, _, rfl, rfl, Y6 _ _ f5, f9, by simp; omega, fun l4 hl4 => ?_⟩
    obtain ⟨H10, eh, S10, f10⟩ := gen_new (.lst ([V.str (Str.ofString ""), V.str (cutS z none (some at') ++ cs ++ cutS z (some at') none), V.str (cutS z none (some at') ++ cs ++ cutS z (some (at' + 1)) none), V.str (z ++ As), V.non, V.int (fn : Int)] ++ [V.ref t1, V.ref l2, V.str (cutS z (some 1) none), V.str wd2, V.str (z ++ Ts)])) hl4
    rw [eh]
    clear eh
    have Sall := S5.trans (Y6.trans S10)
    have E10 : Ext1 p H H10 := E2.trans (e3.trans (e4.trans (Same.ext1 Sall)))
    have bx10 : BoxAt H10 p (N + 4) := (bx4.mono Sall).le (by omega)
    have ks : ∀ {y : Str}, Asc y → y.length ≤ 2 * z.length + 200 → Q (.str y) H10 := fun {y} ay ly => k _ _ H10 E10 bx10 (fun _ _ => .str y) ⟨.str ay, ly, Nat.zero_le _⟩
    have c1 := fun lo hi => cl lo hi
    refine r_menu f10 w0 (by simpa using w1) fun v hv => ?_
    simp only [List.cons_append, List.nil_append, List.mem_cons, List.not_mem_nil, or_false] at hv
    rcases hv with rfl | rfl | rfl | rfl | rfl | rfl | rfl | rfl | rfl | rfl | rfl
    · exact ks (Nv.asc_of (by decide +kernel)) (by rw [show (Str.ofString "").length = 0 by decide +kernel]; omega)
    · exact ks (((az.cut _ _).app ac).app (az.cut _ _)) (by rw [la, la]; have := cl none (some at'); have := cl (some at') none; omega)
    · exact ks (((az.cut _ _).app ac).app (az.cut _ _)) (by rw [la, la]; have := cl none (some at'); have := cl (some (at' + 1)) none; omega)
    · exact ks (az.app aa) (by rw [la]; omega)
    · exact k _ _ H10 E10 bx10 (fun _ _ => .non) ⟨.non, Nat.zero_le _, Nat.zero_le _⟩
    · exact k _ _ H10 E10 bx10 (fun _ _ => .int fn) ⟨.int (by omega) (by omega), by
        have := (Ft.int (D := 0) (i := (fn : Int)) ⟨by omega, by omega⟩).s.w
        omega, Nat.zero_le _⟩
    · have L : Lk (2 * m + 2) (.tuple [.str z]) := .tup (by simp) fun d hd => by
        rw [List.mem_singleton] at hd
        subst hd
        exact .str az
      refine k _ (.tuple [.str z]) H10 E10 bx10 (fun H' E' => lk_t (extTN bx10 E') L (.tup ((Y7.trans S10) _ _ f6) (.cons (.str z) .nil))) ⟨L.ok (Nat.le_refl _), ?_, ?_⟩
      · simp only [PyData.weight, PyData.weightAll]
        omega
      · simp only [PyData.depth, PyData.depthAll]
        omega
    · have g1 := ((S8.trans S9).trans S10) _ _ f7
      refine k _ (.list [.str z]) H10 E10 bx10 (fun H' E' => .lst (E' _ _ n2p g1) ns2 (.cons (.str z) .nil)) ⟨.lst (by simp) (fun d hd => ?_), ?_, ?_⟩
      · rw [List.mem_singleton] at hd
        subst hd
        exact .str az
      · simp only [PyData.weight, PyData.weightAll]
        omega
      · simp only [PyData.depth, PyData.depthAll]
        omega
    · exact ks (az.cut _ _) (by have := cl (some 1) none; omega)
    · exact ks (za wd2 (List.mem_of_getElem? hwd)).1 (by have := (za wd2 (List.mem_of_getElem? hwd)).2; omega)
    · exact ks (az.app at2) (by rw [la]; omega)
  | @int i i0 i1 =>
    rw [if_neg (by simp [xd, isTx])]
    refine r_isiX (obT T) xv2 .str ⟨_, rfl, ?_⟩
    rw [if_neg (by simp [xd, isSx])]
    cases dv2
    have lg : i.natAbs.log2 < 1920 := of_decide_eq_true (Ft.int (D := 0) (i := i) ⟨by omega, by omega⟩).s.h
    refine ⟨i, rfl, lg, i, 1, rfl, rfl, by omega, fun l1 hl1 ns1 => ?_⟩
    have n1p := bx2.ne hl1
    obtain ⟨H3, eh, S3, f3⟩ := gen_new (.lst [V.int i]) hl1
    rw [eh]
    clear eh
    refine ⟨i, rfl, by omega, fun l2 hl2 _ => ?_⟩
    obtain ⟨H4, eh, S4, f4⟩ := gen_new (.lst [V.bl true, V.bl false, V.non, V.str (Str.ofString (toString i)), V.int (-1), V.int 0, V.int (n : Int), V.int (i + 1), V.ref l1, V.int (-i), V.int ((n : Int) - 1)]) hl2
    rw [eh]
    clear eh
    have E4 : Ext1 p H H4 := E2.trans (Same.ext1 (S3.trans S4))
    have bx4 : BoxAt H4 p (N + 4) := (bx2.mono (S3.trans S4)).le (by omega)
    have wi : ∀ j : Int, -(10 ^ 20 + 1) ≤ j → j ≤ 10 ^ 20 + 1 → OutD m (.int i) (.int j) := fun j j0 j1 => ⟨.int j0 j1, by
      have := (Ft.int (D := 0) (i := j) ⟨by omega, by omega⟩).s.w
      omega, Nat.zero_le _⟩
    have ki : ∀ j : Int, -(10 ^ 20 + 1) ≤ j → j ≤ 10 ^ 20 + 1 → Q (.int j) H4 := fun j j0 j1 => k _ _ H4 E4 bx4 (fun _ _ => .int j) (wi j j0 j1)
    refine r_menu f4 w0 (by simpa using w1) fun v hv => ?_
    simp only [List.mem_cons, List.not_mem_nil, or_false] at hv
    rcases hv with rfl | rfl | rfl | rfl | rfl | rfl | rfl | rfl | rfl | rfl | rfl
    · exact k _ _ H4 E4 bx4 (fun _ _ => .bl true) ⟨.bl true, Nat.zero_le _, Nat.zero_le _⟩
    · exact k _ _ H4 E4 bx4 (fun _ _ => .bl false) ⟨.bl false, Nat.zero_le _, Nat.zero_le _⟩
    · exact k _ _ H4 E4 bx4 (fun _ _ => .non) ⟨.non, Nat.zero_le _, Nat.zero_le _⟩
    · have l24 := int_len (i := i) ⟨by omega, by omega⟩
      exact k _ _ H4 E4 bx4 (fun _ _ => .str _) ⟨.str (asc_int i0), by show (Str.ofString (toString i)).length ≤ _; omega, Nat.zero_le _⟩
    · exact ki (-1) (by decide) (by decide)
    · exact ki 0 (by decide) (by decide)
    · exact ki n (by omega) (by omega)
    · exact ki (i + 1) (by omega) (by omega)
    · have g1 := S4 _ _ f3
      refine k _ (.list [.int i]) H4 E4 bx4 (fun H5 E5 => .lst (E5 _ _ n1p g1) ns1 (.cons (.int i) .nil)) ⟨.lst (by simp) (fun d hd => ?_), ?_, ?_⟩
      · rw [List.mem_singleton] at hd
        subst hd
        exact .int (by omega) (by omega)
      · have := (Ft.int (D := 0) (i := i) ⟨by omega, by omega⟩).s.w
        simp only [PyData.weight, PyData.weightAll] at this ⊢
        omega
      · simp only [PyData.depth, PyData.depthAll]
        omega
    · exact ki (-i) (by omega) (by omega)
    · exact ki (n - 1) (by omega) (by omega)
end
end K32



namespace K32
open PySem L2 Nv Gr

theorem ext1_refl {p : Addr} {H : Hp} : Ext1 p H H := fun _ _ _ h => h
theorem DVp.dv {p : Addr} {H : Hp} {v : V} {d : PyData} (h : DVp p H v d) : DV H v d := h H ext1_refl
theorem DVp.mono {p : Addr} {H H' : Hp} {v : V} {d : PyData} (e : Ext1 p H H') (h : DVp p H v d) : DVp p H' v d := fun H2 e2 => h H2 (e.trans e2)
theorem dvp_lk {p : Addr} {H : Hp} {N m : Nat} {v : V} {d : PyData} (bx : BoxAt H p N) (lk : Lk m d) (h : DV H v d) : DVp p H v d := fun H' e => lk_t (extTN bx e) lk h
theorem DVp.tup {p t : Addr} {H : Hp} {N : Nat} {xs : List V} {ds : List PyData} (bx : BoxAt H p N) (f : H t = some (.tup xs)) (r : ∀ H', Ext1 p H H' → DVs H' xs ds) : DVp p H (.ref t) (.tuple ds) := fun H' e =>
  .tup (extTN bx e _ _ (by intro _ q; cases q) f) (r H' e)
/-- the tuple that a value is, with its items for all time to come -/
theorem DVp.items {p : Addr} {H : Hp} {N : Nat} {v : V} {ds : List PyData} (bx : BoxAt H p N) (h : DVp p H v (.tuple ds)) : ∃ t xs, v = .ref t ∧ H t = some (.tup xs) ∧ ∀ H', Ext1 p H H' → DVs H' xs ds := by
  have h0 := h.dv
  cases h0 with
  | @tup t xs _ f r =>
    refine ⟨t, xs, rfl, f, fun H' e => ?_⟩
    have h1 := h H' e
    have f1 := extTN bx e _ _ (by intro _ q; cases q) f
    cases h1 with
    | tup f2 r2 =>
      rw [f1] at f2
      cases f2
      exact r2
theorem r_catP {K : PySem.W.Frag} {H : Hp} {Q : VK} {p : Addr} {N : Nat} {x y : V} {ds es : List PyData} (bx : BoxAt H p N) (hx : DVp p H x (.tuple ds)) (hy : DVp p H y (.tuple es)) (l : ds.length + es.length ≤ 1000) (q : ∀ v H', Same H H' → DVp p H' v (.tuple (ds ++ es)) → Q v H') : rCatA K x y H Q := by
  obtain ⟨a, xs, rfl, f, r⟩ := hx.items bx
  obtain ⟨b, ys, rfl, g, s⟩ := hy.items bx
  have h1 := dvs_len (r H ext1_refl)
  have h2 := dvs_len (s H ext1_refl)
  have sz : sizeLine = 16777216 := sizeLine_eq
  refine ⟨a, b, xs, ys, rfl, rfl, .inl (.inl f), .inl (.inl g), by omega, fun e => ?_, fun _ e => ?_, fun _ _ t ht => ?_⟩
  · subst e
    have : ds = [] := List.length_eq_zero_iff.mp h1.symm
    subst this
    exact q _ H (Same.refl H) hy
  · subst e
    have : es = [] := List.length_eq_zero_iff.mp h2.symm
    subst this
    rw [List.append_nil] at q
    exact q _ H (Same.refl H) hx
  · obtain ⟨H', eh, S, ft⟩ := gen_new (.tup (xs ++ ys)) ht
    rw [eh]
    exact q _ H' S (.tup (bx.mono S) ft fun H2 e2 => dvs_app (r H2 ((Same.ext1 S).trans e2)) (s H2 ((Same.ext1 S).trans e2)))
theorem r_ne_tup {K : PySem.W.Frag} {H : Hp} {Q : VK} {m : Nat} {v : V} {e : Addr} {ds : List PyData} (lk : Lk m (.tuple ds)) (hp : (PyData.tuple ds).depth ≤ 10) (h : DV H v (.tuple ds)) (he : H e = some (.tup [])) (q : Q (.bl (!ds.isEmpty)) H) : rNeD K v (.ref e) H Q := by
  have ft := (lk.ok (Nat.le_refl _)).ft (Nat.le_refl _) hp
  refine ⟨.tuple ds, .tuple [], h.dp (PyData.hasDict_of_canLay _ ft.c), .tup (.inl (.inl he)) .nil, ?_, by decide, ?_⟩
  · unfold SeqAt.shaped
    rw [ft.c, Bool.true_and]
    exact decide_eq_true (by omega)
  · have : PyData.eqv (.tuple ds) (.tuple []) = ds.isEmpty := by
      cases ds <;> simp [PyData.eqv, PyData.eqvAll]
    rw [this]
    exact q
theorem cutP_to {ds : List PyData} {a : Nat} (h : a ≤ ds.length) : cutP ds none (some (a : Int)) = ds.take a := by
  unfold cutP
  rw [HT.sIx_none, HT.sIx_nat, List.drop_zero, Nat.sub_zero, Nat.min_eq_left h]
theorem cutP_from {ds : List PyData} {a : Nat} (h : a ≤ ds.length) : cutP ds (some (a : Int)) none = ds.drop a := by
  unfold cutP
  rw [HT.sIx_none, HT.sIx_nat, Nat.min_eq_left h]
  apply List.take_of_length_le
  rw [List.length_drop]
  omega
theorem cut_at {ds : List PyData} {a : Nat} {x : PyData} (h : ds[a]? = some x) : ds = ds.take a ++ x :: ds.drop (a + 1) := by
  obtain ⟨l, e⟩ := List.getElem?_eq_some_iff.mp h
  rw [← e, ← List.drop_eq_getElem_cons l, List.take_append_drop]
/-- how far the changes may go down -/
def spC : Nat → Sp
  | 0 => fun _ _ _ _ => False
  | j + 1 => fun vs H Q _ => ∃ p N n v d m e, vs = [.ref p, v, .int ((n : Nat) : Int), .int ((e : Nat) : Int)] ∧ 3 ≤ e + j ∧ BoxAt H p N ∧ N + 2 * j ≤ 490000 ∧ n ≤ 16 ∧ 1 ≤ m ∧ m ≤ 20 ∧ Lk m d ∧ d.weight ≤ 2000 ∧ d.depth ≤ 10 ∧ DV H v d ∧
    ∀ v' d' H', Ext1 p H H' → BoxAt H' p (N + 5 + 2 * j) → DVp p H' v' d' → OutD m d d' → Q v' H'
section
variable {P : Program} {w : World} {K : PySem.W.Frag} {mg : Str → Option Value} {base : Heap}
theorem changed_step (T : Tx K mg w.params) (j : Nat) (ih : FnG P w K mg base (2 + j) T.d_l_changed.f T.d_l_changed.fd ["_law_box_here", "_law_value", "_law_houses", "_law_depth"] (spC j)) :
    FnG P w K mg base (2 + j + 1) T.d_l_changed.f T.d_l_changed.fd ["_law_box_here", "_law_value", "_law_houses", "_law_depth"] (spC (j + 1)) := by
  refine okG0 T.d_l_changed.F sc_l_changed (fun vs H Q E h => ?_) (fun cdv A outer s H vs Q E hg hr h => ?_)
  · obtain ⟨p, N, n, v, d, m, e, rfl, _⟩ := h
    rfl
  obtain ⟨p, N, n, v, d, m, e, rfl, ej, hp, hN, n16, m1, m20, lk, wd, pd, dv, k⟩ := h
  have sz : sizeLine = 16777216 := sizeLine_eq
  refine ⟨_, (pss_cons (ps_if (PW.pt (pw_and (pt_val (pe_callB call_isiA (by rfl) T.n_isinstance (by decide +kernel) (pa_cons (pv 1) (pa_cons (pe_bltn (v := .ty "tuple") (by rfl) T.n_tuple (by decide +kernel) rfl) pa_nil)))) (pw_and (pt_cmpR (op_neD hr.units) (pv 1) (pe_tup pa_nil) (nomark _)) (pw_and (pt_cmpR op_lt (pv 3) pe_int (nomark _)) (pw_and1 (pt_cmpR op_gt (pe_cG (ok_l_take T) T.d_l_take.b takes0 hg (hr.mono (by omega)) T.d_l_take.m T.d_l_take.F.kp (pa_cons (pv 0) (pa_cons pe_int pa_nil))) pe_int (nomark _)))))))
      (pss_cons (ps_set (i := 4) sc_l_changed.nd rfl (Or.inl rfl) (pe_cG (ok_l_take T) T.d_l_take.b takes0 hg (hr.mono (by omega)) T.d_l_take.m T.d_l_take.F.kp (pa_cons (pv 0) (pa_cons (pe_callB call_len_seq (by rfl) T.n_len (by decide +kernel) (pa_cons (pv 1) pa_nil)) pa_nil))))
      (pss_one (ps_ret (pe_op op_catA (pe_op op_catA (pe_slice sl_tupA (pv 1) po_none (po_some (pv 4))) (pe_tup (pa_cons (pe_cG ih T.d_l_changed.b takes0 hg (hr.mono (by omega)) T.d_l_changed.m T.d_l_changed.F.kp (pa_cons (pv 0) (pa_cons (pe_ix ix_tup (pv 1) (pv 4) (fun _ _ => rfl)) (pa_cons (pv 2) (pa_cons (pe_op op_add (pv 3) pe_int) pa_nil))))) pa_nil))) (pe_slice sl_tupA (pv 1) (po_some (pe_op op_add (pv 4) pe_int)) po_none)))))
      pss_nil)
    (pss_one (ps_ret (pe_cG (ok_l_odd T) T.d_l_odd.b takes0 hg (hr.mono (by omega)) T.d_l_odd.m T.d_l_odd.F.kp (pa_cons (pv 0) (pa_cons (pv 1) (pa_cons (pv 2) pa_nil))))))), ?_⟩
  walk_at "rx"
  have xv : XV K T.C_Tree H v (xd d) := xv_of dv
  refine r_isiX (obT T) xv .tuple ?_
  walk_at "rx"
  have oddQ : ∀ (Ha : Hp) (X : XK), Ext1 p H Ha → BoxAt Ha p (N + 1) → spOdd [V.ref p, v, V.int (n : Int)] Ha Q X := fun Ha X Ea ba =>
    ⟨p, N + 1, n, v, d, m, rfl, ba, by omega, n16, m1, m20, lk, wd, lk_t (extTN hp Ea) lk dv, fun v' d' H' E' b' s o => k v' d' H' (Ea.trans E') (b'.le (by omega)) s o⟩
  by_cases ht : isTx (xd d) = true
  case neg =>
    rw [if_neg ht]
    exact oddQ H _ ext1_refl (hp.le (by omega))
  rw [if_pos ht]
  cases lk with
  | int _ _ => cases ht
  | str _ => cases ht
  | @tup ds lm lks =>
    have L : Lk m (.tuple ds) := .tup lm lks
    refine ⟨by omega, fun t0 ht0 => ?_⟩
    obtain ⟨H1, eh, S1, f1⟩ := gen_new (.tup []) ht0
    rw [eh]
    clear eh
    have bx1 := hp.mono S1
    have dv1 := dv.mono S1
    have E1 : Ext1 p H H1 := Same.ext1 S1
    refine r_ne_tup L pd dv1 f1 ⟨_, rfl, ?_⟩
    cases ee : ds.isEmpty with
    | true =>
      rw [if_neg (by decide)]
      exact oddQ H1 _ E1 (bx1.le (by omega))
    | false =>
      rw [if_pos (show (!false) = true from rfl)]
      have dpos : 0 < ds.length := by
        cases ds with
        | nil => cases ee
        | cons a r => simp
      by_cases c3 : (e : Int) < 3
      case neg =>
        rw [if_neg c3]
        exact oddQ H1 _ E1 (bx1.le (by omega))
      rw [if_pos c3]
      refine ⟨p, 5, N, rfl, bx1, by omega, by decide, by decide, fun g H2 g0 g1 bx2 e2 => ⟨g, 0, rfl, rfl, _, rfl, ?_⟩⟩
      have E2 := E1.trans e2
      by_cases cg : 0 < g
      case neg =>
        rw [if_neg (by simpa using cg)]
        exact oddQ H2 _ E2 bx2
      rw [if_pos (decide_eq_true cg)]
      have dv2 := lk_t (extTN bx1 e2) L dv1
      have dvk := dv2
      cases dvk with
      | @tup t xs _ ft r =>
        have lx := dvs_len r
        refine ⟨t, rfl, xs, .inr (.inl (.inl ft)), p, _, _, rfl, bx2, by omega, by omega, by omega, fun a' H3 a0 a1 bx3 e3 => ?_⟩
        obtain ⟨a, rfl⟩ : ∃ a : Nat, a' = (a : Int) := ⟨a'.toNat, by omega⟩
        have la : a < ds.length := by omega
        have dv3 := lk_t (extTN bx2 e3) L dv2
        have E3 := E2.trans e3
        refine ⟨(a : Int), rfl, r_slD dv3 fun v1 H4 S4 d1 => ?_⟩
        rw [cutP_to (by omega)] at d1
        have dv4 := dv3.mono S4
        have bx4 := bx3.mono S4
        have E4 := E3.trans (Same.ext1 S4)
        have dvk4 := dv4
        cases dvk4 with
        | @tup _ xs4 _ ft4 r4 =>
          have lx4 := dvs_len r4
          obtain ⟨x2, hx2⟩ : ∃ x, xs4[a]? = some x := ⟨_, List.getElem?_eq_getElem (by omega)⟩
          obtain ⟨it, hit, dit⟩ := dvs_at r4 hx2
          have itm := List.mem_of_getElem? hit
          have wit := weight_mem itm
          have wds : (PyData.tuple ds).weight = PyData.weightAll ds := by rw [PyData.weight]
          have pds : (PyData.tuple ds).depth = 1 + PyData.depthAll ds := by
            rw [PyData.depth]
            omega
          have eds := cut_at hit
          have wsum : PyData.weightAll ds = PyData.weightAll (ds.take a) + (it.weight + 1 + PyData.weightAll (ds.drop (a + 1))) := by
            rw [← PyData.weightAll, ← weight_app, ← eds]
          have psum : PyData.depthAll ds = max (PyData.depthAll (ds.take a)) (max it.depth (PyData.depthAll (ds.drop (a + 1)))) := by
            rw [← PyData.depthAll, ← depth_app, ← eds]
          refine r_ixT (.inl (.inl ft4)) (atI_nat hx2) ?_
          cases j with
          | zero => omega
          | succ j =>
            refine ⟨p, N + 2, n, x2, it, m, e + 1, by simp, by omega, bx4, by omega, n16, m1, m20, lks it itm, by omega, by omega, dit, fun v3 d3 H5 e5 bx5 dp5 o5 => ?_⟩
            refine ⟨by omega, fun t6 ht6 => ?_⟩
            obtain ⟨H6, eh, S6, f6⟩ := gen_new (.tup [v3]) ht6
            rw [eh]
            clear eh
            have bx6 := bx5.mono S6
            have dp6 := dp5.mono (Same.ext1 S6)
            have ep1 : Lk m (.tuple (ds.take a)) := .tup (by rw [List.length_take]; omega) fun y hy => lks y (List.mem_of_mem_take hy)
            have p1 := ((dvp_lk bx4 ep1 d1).mono e5).mono (Same.ext1 S6)
            have p2 : DVp p H6 (.ref t6) (.tuple [d3]) := .tup bx6 f6 fun H' e' => .cons (dp6 H' e') .nil
            refine r_catP bx6 p1 p2 (by rw [List.length_take]; simp; omega) fun v7 H7 S7 p7 => ?_
            have bx7 := bx6.mono S7
            have E47 : Ext1 p H4 H7 := e5.trans (Same.ext1 (S6.trans S7))
            have dv7 := lk_t (extTN bx4 E47) L dv4
            refine ⟨(a : Int), 1, rfl, rfl, _, rfl, r_slD dv7 fun v8 H8 S8 d8 => ?_⟩
            rw [show ((a : Int) + 1) = ((a + 1 : Nat) : Int) by omega, cutP_from (by omega)] at d8
            have bx8 := bx7.mono S8
            have ep2 : Lk m (.tuple (ds.drop (a + 1))) := .tup (by rw [List.length_drop]; omega) fun y hy => lks y (List.mem_of_mem_drop hy)
            refine r_catP bx8 (p7.mono (Same.ext1 S8)) (dvp_lk bx8 ep2 d8) (by rw [List.length_append, List.length_take, List.length_drop]; simp; omega) fun v9 H9 S9 p9 => ?_
            refine k v9 _ H9 (E4.trans (E47.trans (Same.ext1 (S8.trans S9)))) ((bx8.mono S9).le (by omega)) p9 ⟨.tup ?_ fun y hy => ?_, ?_, ?_⟩
            · rw [List.length_append, List.length_append, List.length_take, List.length_drop]
              simp
              omega
            · rcases List.mem_append.mp hy with hy | hy
              · rcases List.mem_append.mp hy with hy | hy
                · exact (lks y (List.mem_of_mem_take hy)).ok (by omega)
                · rw [List.mem_singleton] at hy
                  subst hy
                  exact o5.ok
              · exact (lks y (List.mem_of_mem_drop hy)).ok (by omega)
            · have := o5.w
              rw [PyData.weight, PyData.weight, weight_app, weight_app]
              simp only [PyData.weightAll]
              omega
            · have := o5.p
              rw [PyData.depth, PyData.depth, depth_app, depth_app]
              simp only [PyData.depthAll]
              omega
theorem changed_all (T : Tx K mg w.params) : ∀ j : Nat, FnG P w K mg base (2 + j) T.d_l_changed.f T.d_l_changed.fd ["_law_box_here", "_law_value", "_law_houses", "_law_depth"] (spC j)
  | 0 => ⟨fun _ _ _ _ h => False.elim h, fun _ _ _ _ _ _ _ _ _ _ _ _ _ _ h => False.elim h⟩
  | j + 1 => changed_step T j (changed_all T j)
theorem ok_l_changed (T : Tx K mg w.params) : FnG P w K mg base 6 T.d_l_changed.f T.d_l_changed.fd ["_law_box_here", "_law_value", "_law_houses", "_law_depth"] (spC 4) := changed_all T 4
end
end K32



namespace K32
open PySem L2 Nv Gr

theorem LineD.lk {d : PyData} (h : LineD d) : Lk 5 d := by
  obtain ⟨a, b, c, t, rfl, a0, a1, b0, b1, c0, c1, t0, t1⟩ := h.ex
  refine .tup (by simp) fun d hd => ?_
  simp only [List.mem_cons, List.not_mem_nil, or_false] at hd
  rcases hd with rfl | rfl | rfl | rfl
  · exact .int a0 (by omega)
  · exact .int b0 b1
  · exact .str c0
  · exact .str t0
theorem NumD.lk {d : PyData} (h : NumD d) : Lk 5 d ∧ d.weight ≤ 71 ∧ d.depth = 0 := by
  obtain ⟨i, rfl, i0, i1⟩ := h.ex
  exact ⟨.int i0 i1, (Ft.int (D := 0) (i := i) ⟨by omega, by omega⟩).s.w, rfl⟩
theorem LinesD.lk {d : PyData} (h : LinesD d) : Lk 5 d ∧ d.weight ≤ 1204 ∧ d.depth ≤ 2 := by
  obtain ⟨ls, rfl, al, l4⟩ := h.ex
  have f := lines_fts al
  refine ⟨.tup (by omega) fun d hd => (al d hd).lk, ?_, ?_⟩
  · have := f.s.w
    rw [PyData.weight]
    omega
  · have := f.s.p
    rw [PyData.depth]
    omega
theorem LetD.lk {d : PyData} (h : LetD d) : Lk 5 d ∧ d.weight ≤ 1600 ∧ d.depth ≤ 3 := by
  obtain ⟨z, t, hh, u, tl, rfl, za, z5, ⟨t0, t1⟩, ⟨h0, h1⟩, ⟨u0, u1⟩, tok⟩ := h.ex
  have w1 := (Ft.int (D := 0) (i := t) ⟨by omega, by omega⟩).s.w
  have w2 := (Ft.int (D := 0) (i := hh) ⟨by omega, by omega⟩).s.w
  have w3 := (Ft.int (D := 0) (i := u) ⟨by omega, by omega⟩).s.w
  have zw : (PyData.str z).weight = z.length := rfl
  have era : Lk 5 (.tuple [.int t, .int hh, .int u]) := .tup (by simp) fun d hd => by
    simp only [List.mem_cons, List.not_mem_nil, or_false] at hd
    rcases hd with rfl | rfl | rfl
    · exact .int t0 t1
    · exact .int h0 h1
    · exact .int u0 u1
  have tt : tl.length ≤ 3 ∧ (∀ x, x ∈ tl → Lk 5 x) ∧ PyData.weightAll tl ≤ 1350 ∧ PyData.depthAll tl ≤ 2 := by
    rcases tok with rfl | ⟨a, rfl, na⟩ | ⟨a, b, rfl, na, nb⟩ | ⟨a, b, c, rfl, na, nb, nc⟩
    · exact ⟨by simp, by simp, by simp [PyData.weightAll], by simp [PyData.depthAll]⟩
    · obtain ⟨a1, a2, a3⟩ := na.lk
      refine ⟨by simp, fun x hx => ?_, by simp only [PyData.weightAll]; omega, by simp only [PyData.depthAll]; omega⟩
      simp only [List.mem_cons, List.not_mem_nil, or_false] at hx
      subst hx
      exact a1
    · obtain ⟨a1, a2, a3⟩ := na.lk
      obtain ⟨b1, b2, b3⟩ := nb.lk
      refine ⟨by simp, fun x hx => ?_, by simp only [PyData.weightAll]; omega, by simp only [PyData.depthAll]; omega⟩
      simp only [List.mem_cons, List.not_mem_nil, or_false] at hx
      rcases hx with rfl | rfl
      · exact a1
      · exact b1
    · obtain ⟨a1, a2, a3⟩ := na.lk
      obtain ⟨b1, b2, b3⟩ := nb.lk
      obtain ⟨c1, c2, c3⟩ := nc.lk
      refine ⟨by simp, fun x hx => ?_, by simp only [PyData.weightAll]; omega, by simp only [PyData.depthAll]; omega⟩
      simp only [List.mem_cons, List.not_mem_nil, or_false] at hx
      rcases hx with rfl | rfl | rfl
      · exact a1
      · exact b1
      · exact c1
  obtain ⟨q1, q2, q3, q4⟩ := tt
  refine ⟨.tup (by simp; omega) fun d hd => ?_, ?_, ?_⟩
  · simp only [List.mem_cons] at hd
    rcases hd with rfl | rfl | hd
    · exact .str za
    · exact era
    · exact q2 d hd
  · simp only [PyData.weight, PyData.weightAll] at w1 w2 w3 ⊢
    have : z.cps.size = z.length := rfl
    omega
  · simp only [PyData.depth, PyData.depthAll]
    omega
theorem dvs_two {H : Hp} {xs : List V} {a b : PyData} {ds : List PyData} (h : DVs H xs (a :: b :: ds)) : ∃ x0 x1 xr, xs = x0 :: x1 :: xr ∧ DV H x0 a ∧ DV H x1 b ∧ DVs H xr ds := by
  cases h with
  | cons h0 h =>
    cases h with
    | cons h1 h => exact ⟨_, _, _, rfl, h0, h1, h⟩
theorem weight_tup (ds : List PyData) : (PyData.tuple ds).weight = PyData.weightAll ds := by rw [PyData.weight]
theorem depth_tup (ds : List PyData) : (PyData.tuple ds).depth = PyData.depthAll ds + 1 := by
  rw [PyData.depth]
def spTwice : Sp := fun vs H Q _ => ∃ p N v d, vs = [.ref p, v] ∧ BoxAt H p N ∧ N ≤ 490000 ∧ LetD d ∧ DV H v d ∧
  ∀ v' d' H', Ext1 p H H' → BoxAt H' p (N + 2) → DV H' v' d' → Lk 10 d' → d'.weight ≤ 5000 → d'.depth ≤ 8 → Q v' H'
section
variable {P : Program} {w : World} {K : PySem.W.Frag} {mg : Str → Option Value} {base : Heap}
theorem ok_l_twice (T : Tx K mg w.params) : FnG P w K mg base 2 T.d_l_twice.f T.d_l_twice.fd ["_law_box_here", "_law_letter_here"] spTwice := by
  refine okG0 T.d_l_twice.F sc_l_twice (fun vs H Q E h => ?_) (fun cdv A outer s H vs Q E hg hr h => ?_)
  · obtain ⟨p, N, v, d, rfl, _⟩ := h
    rfl
  obtain ⟨p, N, v, d, rfl, hp, hN, ld, dv, k⟩ := h
  have sz : sizeLine = 16777216 := sizeLine_eq
  refine ⟨_, (pss_cons (ps_set (i := 2) sc_l_twice.nd rfl (Or.inl rfl) (pe_ix ix_tup (pv 1) (pe_un un_neg pe_int) (fun _ _ => rfl)))
    (pss_cons (ps_if (PW.pt (pw_or (pt_not (pt_val (pe_callB call_isiA (by rfl) T.n_isinstance (by decide +kernel) (pa_cons (pv 2) (pa_cons (pe_bltn (v := .ty "tuple") (by rfl) T.n_tuple (by decide +kernel) rfl) pa_nil))))) (pw_or (pt_cmpR (op_eqD hr.units) (pv 2) (pe_tup pa_nil) (nomark _)) (pw_or1 (pt_cmpR op_lt (pe_callB call_len_seq (by rfl) T.n_len (by decide +kernel) (pa_cons (pv 1) pa_nil)) pe_int (nomark _))))))
      (pss_one (ps_ret (pe_op op_catA (pv 1) (pe_tup (pa_cons (pe_tup pa_nil) pa_nil)))))
      pss_nil)
    (pss_cons (ps_par (i := 3) (j := 4) rfl sc_l_twice.nd rfl rfl (by decide) rfl rfl (pa_cons (pe_cG (ok_l_take T) T.d_l_take.b takes0 hg (hr.mono (by decide)) T.d_l_take.m T.d_l_take.F.kp (pa_cons (pv 0) (pa_cons (pe_callB call_len_seq (by rfl) T.n_len (by decide +kernel) (pa_cons (pv 2) pa_nil)) pa_nil))) (pa_cons (pe_cG (ok_l_take T) T.d_l_take.b takes0 hg (hr.mono (by decide)) T.d_l_take.m T.d_l_take.F.kp (pa_cons (pv 0) (pa_cons (pe_op op_add (pe_callB call_len_seq (by rfl) T.n_len (by decide +kernel) (pa_cons (pv 2) pa_nil)) pe_int) pa_nil))) pa_nil)) (by rfl))
    (pss_cons (ps_set (i := 5) sc_l_twice.nd rfl (Or.inl rfl) (pe_tup (pa_cons (pe_ix ix_tup (pe_ix ix_tup (pv 2) (pv 3) (fun _ _ => rfl)) pe_int (fun _ _ => rfl)) (pa_cons (pe_ix ix_tup (pe_ix ix_tup (pv 2) (pv 3) (fun _ _ => rfl)) pe_int (fun _ _ => rfl)) (pa_cons pe_str (pa_cons pe_str pa_nil))))))
    (pss_one (ps_ret (pe_op op_catA (pe_slice sl_tupA (pv 1) po_none (po_some (pe_un un_neg pe_int))) (pe_tup (pa_cons (pe_op op_catA (pe_op op_catA (pe_slice sl_tupA (pv 2) po_none (po_some (pv 4))) (pe_tup (pa_cons (pv 5) pa_nil))) (pe_slice sl_tupA (pv 2) (po_some (pv 4)) po_none)) pa_nil))))))))), ?_⟩
  walk_at "rx"
  obtain ⟨lkd, wd, pd⟩ := ld.lk
  obtain ⟨z, t, hh, u, tl, rfl, za, z5, ⟨t0, t1⟩, ⟨h0, h1⟩, ⟨u0, u1⟩, tok⟩ := ld.ex
  rw [PyData.weight] at wd
  rw [PyData.depth] at pd
  have lens : tl.length ≤ 3 := by
    rcases tok with rfl | ⟨a, rfl, na⟩ | ⟨a, b, rfl, na, nb⟩ | ⟨a, b, c, rfl, na, nb, nc⟩ <;> simp
  have lk10 : ∀ y, y ∈ (PyData.str z :: PyData.tuple [.int t, .int hh, .int u] :: tl) → Lk 10 y := fun y hy => by
    cases lkd with
    | tup _ a => exact (a y hy).le (by decide)
  have plus : ∀ Ha : Hp, Ext1 p H Ha → BoxAt Ha p (N + 2) → (0 ≤ sizeLine ∧ ∀ (q1 : Addr), Ha q1 = none → 0 + 1 ≤ sizeLine ∧ ∀ (q2 : Addr), upd Ha q1 (HO.tup []) q2 = none → rCatA K v (V.ref q2) (upd (upd Ha q1 (HO.tup [])) q2 (HO.tup [V.ref q1])) Q) := by
    intro Ha Ea ba
    have dva := lk_t (extTN hp Ea) lkd dv
    refine ⟨by omega, fun q1 hq1 => ⟨by omega, fun q2 hq2 => ?_⟩⟩
    obtain ⟨Hb, eh, Sb, fb⟩ := gen_new (.tup []) hq1
    rw [eh] at hq2 ⊢
    clear eh
    obtain ⟨Hc, eh, Sc, fc⟩ := gen_new (.tup [V.ref q1]) hq2
    rw [eh]
    clear eh
    refine r_catD (es := [.tuple []]) (dva.mono (Sb.trans Sc)) (.tup fc (.cons (.tup (Sc _ _ fb) .nil) .nil)) (by simp; omega) fun v' Hd Sd dd => ?_
    have Sall := Sb.trans (Sc.trans Sd)
    refine k v' _ Hd (Ea.trans (Same.ext1 Sall)) (ba.mono Sall) dd (.tup (by simp; omega) fun y hy => ?_) ?_ ?_
    · rcases List.mem_append.mp hy with hy | hy
      · exact lk10 y hy
      · rw [List.mem_singleton] at hy
        subst hy
        exact .tup (by simp) (by simp)
    · rw [PyData.weight, weight_app]
      simp only [PyData.weightAll, PyData.weight] at wd ⊢
      omega
    · rw [PyData.depth, depth_app]
      simp only [PyData.depthAll, PyData.depth] at pd ⊢
      omega
  have b0 : BoxAt H p (N + 2) := hp.le (by omega)
  have dvk := dv
  cases dvk with
  | @tup q xs _ fq r =>
    have tq : SqT K H q xs := .inl (.inl fq)
    have sho : ∀ {d : PyData} {m : Nat}, Lk m d → d.depth ≤ 10 → SeqAt.shaped d = true ∧ d.hasDict = false := fun {d m} l hd => by
      have ft := (l.ok (Nat.le_refl _)).ft (Nat.le_refl _) hd
      refine ⟨?_, PyData.hasDict_of_canLay _ ft.c⟩
      unfold SeqAt.shaped
      rw [ft.c, Bool.true_and]
      exact decide_eq_true (by omega)
    rcases tok with rfl | ⟨a, rfl, na⟩ | ⟨a, b, rfl, na, nb⟩ | ⟨a, b, c, rfl, na, nb, nc⟩
    · obtain ⟨x0, x1, xr, rfl, q0, q1, qr⟩ := dvs_two r
      cases qr
      refine r_ixT tq (by rfl) ?_
      refine r_isiX (obT T) (xv_of q1) .tuple ⟨_, rfl, ?_⟩
      rw [if_neg (by simp [xd, isTx])]
      refine ⟨by omega, fun e he => ?_⟩
      obtain ⟨H1, eh, S1, fe⟩ := gen_new (.tup []) he
      rw [eh]
      clear eh
      have le := lk10 (.tuple [.int t, .int hh, .int u]) (by simp)
      obtain ⟨sh, nd⟩ := sho le (by simp [PyData.depth, PyData.depthAll])
      refine ⟨_, .tuple [], (q1.mono S1).dp nd, .tup (.inl (.inl fe)) .nil, sh, by decide, false, rfl, ?_⟩
      rw [if_neg (by decide)]
      refine ⟨q, rfl, _, .inr (sqT_mono S1 tq), ?_⟩
      rw [if_pos (by simp)]
      exact plus H1 (Same.ext1 S1) (b0.mono S1)
    · obtain ⟨x0, x1, xr, rfl, q0, q1, qr⟩ := dvs_two r
      obtain ⟨i, rfl, _⟩ := na.ex
      cases qr with
      | cons q2 qr =>
        cases qr
        refine r_ixT tq (by rfl) ?_
        refine r_isiX (obT T) (xv_of q2) .tuple ⟨_, rfl, ?_⟩
        rw [if_pos (by simp [xd, isTx])]
        exact plus H ext1_refl b0
    · obtain ⟨x0, x1, xr, rfl, q0, q1, qr⟩ := dvs_two r
      obtain ⟨i, rfl, _⟩ := nb.ex
      cases qr with
      | cons q2 qr =>
        cases qr with
        | cons q3 qr =>
          cases qr
          refine r_ixT tq (by rfl) ?_
          refine r_isiX (obT T) (xv_of q3) .tuple ⟨_, rfl, ?_⟩
          rw [if_pos (by simp [xd, isTx])]
          exact plus H ext1_refl b0
    · obtain ⟨x0, x1, xr, rfl, q0, q1, qr⟩ := dvs_two r
      obtain ⟨c1, c2, c3⟩ := nc.lk
      obtain ⟨ls, rfl, al, l4⟩ := nc.ex
      cases qr with
      | cons q2 qr =>
        cases qr with
        | cons q3 qr =>
          cases qr with
          | cons q4 qr =>
            cases qr
            rename_i x2 x3 x4
            refine r_ixT tq (by rfl) ?_
            refine r_isiX (obT T) (xv_of q4) .tuple ⟨_, rfl, ?_⟩
            rw [if_neg (by simp [xd, isTx])]
            refine ⟨by omega, fun e he => ?_⟩
            obtain ⟨H1, eh, S1, fe⟩ := gen_new (.tup []) he
            rw [eh]
            clear eh
            obtain ⟨sh, nd⟩ := sho c1 (by omega)
            refine ⟨_, .tuple [], (q4.mono S1).dp nd, .tup (.inl (.inl fe)) .nil, sh, by decide, ls.isEmpty, (by cases ls <;> simp [PyData.eqv, PyData.eqvAll]), ?_⟩
            cases ee : ls.isEmpty with
            | true =>
              rw [if_pos rfl]
              exact plus H1 (Same.ext1 S1) (b0.mono S1)
            | false =>
              rw [if_neg (by decide)]
              refine ⟨q, rfl, _, .inr (sqT_mono S1 tq), ?_⟩
              rw [if_neg (by simp)]
              have lpos : 0 < ls.length := by
                cases ls with
                | nil => cases ee
                | cons a r => simp
              have Ll := c1
              have dvl := q4.mono S1
              have dvlk := dvl
              have bx1 := hp.mono S1
              have E1 : Ext1 p H H1 := Same.ext1 S1
              have dv1 := dv.mono S1
              cases dvlk with
              | @tup ql ys _ fl rl =>
                have lny := dvs_len rl
                refine ⟨ql, rfl, ys, .inr (.inl (.inl fl)), p, _, _, rfl, bx1, by omega, by omega, by omega, fun a' H2 a0 a1' bx2 e2 => ?_⟩
                obtain ⟨ai, rfl⟩ : ∃ a : Nat, a' = (a : Int) := ⟨a'.toNat, by omega⟩
                have E2 := E1.trans e2
                have T2 := extTN bx1 e2
                have fl2 := T2 _ _ (by intro _ q; cases q) fl
                refine ⟨ql, rfl, ys, .inr (.inl (.inl fl2)), p, _, _, rfl, bx2, by omega, by omega, by omega, fun s' H3 s0 s1 bx3 e3 => ?_⟩
                have E3 := E2.trans e3
                have T3 := sameT_tr T2 (extTN bx2 e3)
                have fl3 := T3 _ _ (by intro _ q; cases q) fl
                have dvl3 := lk_t T3 Ll dvl
                have dv3 := lk_t T3 lkd dv1
                obtain ⟨y, hy⟩ : ∃ y, ys[ai]? = some y := ⟨_, List.getElem?_eq_getElem (by omega)⟩
                have rl3 := lines_t T3 al rl
                obtain ⟨dl, hdl, dvy⟩ := dvs_at rl3 hy
                have lD := al dl (List.mem_of_getElem? hdl)
                obtain ⟨ta, ka, kb, xa, xb, rfl, fa, _⟩ := lD.at dvy
                have ibd : (0 ≤ ka ∧ ka ≤ 10 ^ 20) ∧ (0 ≤ kb ∧ kb ≤ 10 ^ 20) := by
                  obtain ⟨a2, b2, c2, t2, rfl, w0, w1, w2, w3, _⟩ := lD.ex
                  cases dvy with
                  | tup f2 r2 =>
                    rw [fa] at f2
                    cases f2
                    cases r2 with
                    | cons r0 r2 =>
                      cases r2 with
                      | cons r1 r2 =>
                        cases r0
                        cases r1
                        exact ⟨⟨w0, by omega⟩, w2, w3⟩
                refine r_ixT (.inl (.inl fl3)) (atI_nat hy) (r_ixT (.inl (.inl fa)) (by rfl) (r_ixT (.inl (.inl fl3)) (atI_nat hy) (r_ixT (.inl (.inl fa)) (by rfl) ⟨by omega, fun tn htn => ?_⟩)))
                obtain ⟨H4, eh, S4, f4⟩ := gen_new (.tup [V.int ka, V.int kb, V.str (Str.ofString "other"), V.str (Str.ofString "another text")]) htn
                rw [eh]
                clear eh
                refine r_slD (dv3.mono S4) fun v5 H5 S5 d5 => ⟨s', rfl, r_slD ((dvl3.mono S4).mono S5) fun v6 H6 S6 d6 => ⟨by omega, fun t7 ht7 => ?_⟩⟩
                obtain ⟨H7, eh, S7, f7⟩ := gen_new (.tup [V.ref tn]) ht7
                rw [eh]
                clear eh
                have f4' := S7 _ _ (S6 _ _ (S5 _ _ f4))
                have dother : DV H7 (.ref tn) (.tuple [.int ka, .int kb, .str (Str.ofString "other"), .str (Str.ofString "another text")]) := .tup f4' (.cons (.int _) (.cons (.int _) (.cons (.str _) (.cons (.str _) .nil))))
                have cl1 := (cutP_sub ls none (some s')).length_le
                have cl2 := (cutP_sub ls (some s') none).length_le
                refine r_catD (es := [.tuple [.int ka, .int kb, .str (Str.ofString "other"), .str (Str.ofString "another text")]]) (d6.mono S7) (.tup f7 (.cons dother .nil)) (by simp; omega) fun v8 H8 S8 d8 => ⟨s', rfl, r_slD (((((dvl3.mono S4).mono S5).mono S6).mono S7).mono S8) fun v9 H9 S9 d9 => r_catD (d8.mono S9) d9 (by rw [List.length_append]; simp; omega) fun v10 H10 S10 d10 => ⟨by omega, fun t11 ht11 => ?_⟩⟩
                obtain ⟨H11, eh, S11, f11⟩ := gen_new (.tup [v10]) ht11
                rw [eh]
                clear eh
                have Y5 := S6.trans (S7.trans (S8.trans (S9.trans (S10.trans S11))))
                have cl0 := (cutP_sub (PyData.str z :: PyData.tuple [.int t, .int hh, .int u] :: [a, b, PyData.tuple ls]) none (some (-1))).length_le
                simp only [List.length_cons, List.length_nil] at cl0
                refine r_catD (d5.mono Y5) (.tup f11 (.cons (d10.mono S11) .nil)) (by simp; omega) fun v12 H12 S12 d12 => ?_
                have Sall := S4.trans (S5.trans (Y5.trans S12))
                have lko : Lk 10 (.tuple [.int ka, .int kb, .str (Str.ofString "other"), .str (Str.ofString "another text")]) := .tup (by simp) fun y hy => by
                  simp only [List.mem_cons, List.not_mem_nil, or_false] at hy
                  rcases hy with rfl | rfl | rfl | rfl
                  · exact .int ibd.1.1 ibd.1.2
                  · exact .int ibd.2.1 ibd.2.2
                  · exact .str (Nv.asc_of (by decide +kernel))
                  · exact .str (Nv.asc_of (by decide +kernel))
                have lkl : ∀ y, y ∈ ls → Lk 10 y := fun y hy => (al y hy).lk.le (by decide)
                have o1 := (Ft.int (D := 0) (i := ka) ⟨by omega, by omega⟩).s.w
                have o2 := (Ft.int (D := 0) (i := kb) ⟨by omega, by omega⟩).s.w
                have o3 : (Str.ofString "other").length = 5 := by decide +kernel
                have o4 : (Str.ofString "another text").length = 12 := by decide +kernel
                have wo : (PyData.tuple [.int ka, .int kb, .str (Str.ofString "other"), .str (Str.ofString "another text")]).weight ≤ 170 := by
                  have e3 : (PyData.str (Str.ofString "other")).weight = 5 := o3
                  have e4 : (PyData.str (Str.ofString "another text")).weight = 12 := o4
                  rw [PyData.weight]
                  simp only [PyData.weightAll]
                  omega
                have s1' := weight_sub (cutP_sub ls none (some s'))
                have s2' := weight_sub (cutP_sub ls (some s') none)
                have s0' := weight_sub (cutP_sub (PyData.str z :: PyData.tuple [.int t, .int hh, .int u] :: [a, b, PyData.tuple ls]) none (some (-1)))
                have p1' := depth_sub (cutP_sub ls none (some s'))
                have p2' := depth_sub (cutP_sub ls (some s') none)
                have p0' := depth_sub (cutP_sub (PyData.str z :: PyData.tuple [.int t, .int hh, .int u] :: [a, b, PyData.tuple ls]) none (some (-1)))
                have c2' : PyData.weightAll ls ≤ 1204 := by rw [PyData.weight] at c2; exact c2
                have c3' : PyData.depthAll ls ≤ 1 := by rw [PyData.depth] at c3; omega
                refine k v12 _ H12 (E3.trans (Same.ext1 Sall)) ((bx3.mono Sall).le (by omega)) d12 (.tup (by simp; omega) fun y hy => ?_) ?_ ?_
                · rcases List.mem_append.mp hy with hy | hy
                  · exact lk10 y ((cutP_sub _ _ _).mem hy)
                  · rw [List.mem_singleton] at hy
                    subst hy
                    refine .tup (by rw [List.length_append, List.length_append]; simp; omega) fun y hy => ?_
                    rcases List.mem_append.mp hy with hy | hy
                    · rcases List.mem_append.mp hy with hy | hy
                      · exact lkl y ((cutP_sub _ _ _).mem hy)
                      · rw [List.mem_singleton] at hy
                        subst hy
                        exact lko
                    · exact lkl y ((cutP_sub _ _ _).mem hy)
                · have e3 : (PyData.str (Str.ofString "other")).weight = 5 := o3
                  have e4 : (PyData.str (Str.ofString "another text")).weight = 12 := o4
                  simp only [weight_tup, weight_app, PyData.weightAll] at s0' wd ⊢
                  omega
                · have po : (PyData.tuple [.int ka, .int kb, .str (Str.ofString "other"), .str (Str.ofString "another text")]).depth ≤ 1 := by simp [PyData.depth, PyData.depthAll]
                  simp only [depth_tup, depth_app, PyData.depthAll, PyData.depth] at p0' pd po ⊢
                  omega
end
end K32



namespace K32
open PySem L2 Nv Gr

/-! displays of many values, term by term -/
def Gd8 (K : PySem.W.Frag) (C : Addr) (H : Hp) (v : V) : Prop := ∃ d, XV K C H v d ∧ szX d = true
theorem Gd8.mono {K : PySem.W.Frag} {C : Addr} {H H' : Hp} {v : V} (S : Same H H') (h : Gd8 K C H v) : Gd8 K C H' v := by
  obtain ⟨d, q, z⟩ := h
  exact ⟨d, q.mono S, z⟩
structure MkE (K : PySem.W.Frag) (C : Addr) (H0 : Hp) (σ : L2.St) (te : TE) : Prop where
  run : ∀ H, Same H0 H → ∀ Q : VK, (∀ v H', Same H H' → Gd8 K C H' v → Q v H') → te σ H Q
structure MkA (K : PySem.W.Frag) (C : Addr) (H0 : Hp) (σ : L2.St) (ta : TA) (n : Nat) : Prop where
  run : ∀ H, Same H0 H → ∀ Q : List V → Hp → Prop, (∀ vs H', Same H H' → vs.length = n → (∀ v ∈ vs, Gd8 K C H' v) → Q vs H') → ta σ H Q
section
variable {K : PySem.W.Frag} {C : Addr} {H0 : Hp} {σ : L2.St}
theorem MkA.nil : MkA K C H0 σ tNil 0 := ⟨fun H S Q q => q [] H (Same.refl H) rfl (by simp)⟩
theorem MkA.cons {te : TE} {ta : TA} {n : Nat} (a : MkE K C H0 σ te) (b : MkA K C H0 σ ta n) : MkA K C H0 σ (tCons te ta) (n + 1) :=
  ⟨fun H S Q q => a.run H S _ fun v H1 S1 g => b.run H1 (S.trans S1) _ fun vs H2 S2 l gs => q (v :: vs) H2 (S1.trans S2) (by rw [List.length_cons, l]) fun x hx => by
    rcases List.mem_cons.mp hx with rfl | hx
    · exact g.mono S2
    · exact gs x hx⟩
theorem MkE.c {v : V} {d : XD} (h : ∀ H, XV K C H v d) (z : szX d = true) : MkE K C H0 σ (tC v) := ⟨fun H S Q q => q v H (Same.refl H) ⟨d, h H, z⟩⟩
theorem MkE.non : MkE K C H0 σ (tC .non) := .c (d := .non) (fun _ => .non) rfl
theorem MkE.bl (b : Bool) : MkE K C H0 σ (tC (.bl b)) := .c (fun _ => .bl b) rfl
theorem MkE.int (i : Int) : MkE K C H0 σ (tC (.int i)) := .c (fun _ => .int i) rfl
theorem MkE.str {z : Str} (h : szX (.str z) = true) : MkE K C H0 σ (tC (.str z)) := .c (fun _ => .str z) h
theorem MkE.var {i : Nat} {v : V} (e : σ[i]? = some (some v)) (g : Gd8 K C H0 v) : MkE K C H0 σ (tVar i) := ⟨fun H S Q q => ⟨v, e, q v H (Same.refl H) (g.mono S)⟩⟩
theorem goods {H : Hp} : ∀ {vs : List V}, (∀ v ∈ vs, Gd8 K C H v) → ∃ ds, XVs K C H vs ds ∧ szXs ds = true ∧ ds.length = vs.length
  | [], _ => ⟨[], .nil, rfl, rfl⟩
  | v :: vs, h => by
    obtain ⟨d, q, z⟩ := h v (by simp)
    obtain ⟨ds, r, s, l⟩ := goods (vs := vs) fun x hx => h x (by simp [hx])
    exact ⟨d :: ds, .cons q r, by rw [szXs, z, s]; rfl, by rw [List.length_cons, List.length_cons, l]⟩
theorem MkE.tup {ta : TA} {n : Nat} (h : MkA K C H0 σ ta n) (hn : n < 64) : MkE K C H0 σ (tTup ta) :=
  ⟨fun H S Q q => h.run H S _ fun vs H1 S1 l gs => by
    have sz : sizeLine = 16777216 := sizeLine_eq
    refine ⟨by omega, fun p hp => ?_⟩
    obtain ⟨H2, eh, S2, f⟩ := gen_new (.tup vs) hp
    rw [eh]
    obtain ⟨ds, r, s, ld⟩ := goods gs
    refine q _ H2 (S1.trans S2) ⟨.tup ds, .tup (.inl (.inl f)) (r.mono S2), ?_⟩
    rw [szX, s, decide_eq_true (by omega)]
    rfl⟩
theorem MkE.lst {ta : TA} {n : Nat} (h : MkA K C H0 σ ta n) (hn : n < 64) : MkE K C H0 σ (tLst1 ta) :=
  ⟨fun H S Q q => h.run H S _ fun vs H1 S1 l gs => by
    have sz : sizeLine = 16777216 := sizeLine_eq
    refine ⟨by omega, fun p hp _ => ?_⟩
    obtain ⟨H2, eh, S2, f⟩ := gen_new (.lst vs) hp
    rw [eh]
    exact q _ H2 (S1.trans S2) ⟨.lst, .lst f, rfl⟩⟩
theorem MkE.dnew : MkE K C H0 σ tDNewK := ⟨fun H S Q q p hp => by
  obtain ⟨H2, eh, S2, f⟩ := gen_new (.dK []) hp
  rw [eh]
  exact q _ H2 S2 ⟨.dct, .dct f, rfl⟩⟩
theorem MkE.disp {z : Str} {te : TE} (h : MkE K C H0 σ te) : MkE K C H0 σ (tDisp [(tC (.str z), te)]) := ⟨fun H S Q q p hp => by
  refine h.run _ (S.trans (Same.new hp)) _ fun v H1 S1 g => ?_
  have f1 : H1 p = some (.dK []) := S1 _ _ upd_same
  refine ⟨f1, [(.inr z, v)], rfl, by simp, ?_⟩
  refine q _ _ (fun b o hb => ?_) ⟨.dct, .dct upd_same, rfl⟩
  rw [upd_ne (ne_of_none hb hp)]
  refine S1 _ _ ?_
  rw [upd_ne (ne_of_none hb hp)]
  exact hb⟩
theorem MkE.rep3 {ta : TA} {n : Nat} (h : MkA K C H0 σ ta n) (h1 : 1 ≤ n) (hn : n < 20) : MkE K C H0 σ (tOp (rRepT K) (tTup ta) (tC (.int 3))) :=
  ⟨fun H S Q q => h.run H S _ fun vs H1 S1 l gs => by
    have sz : sizeLine = 16777216 := sizeLine_eq
    refine ⟨by omega, fun p hp => ?_⟩
    obtain ⟨H2, eh, S2, f⟩ := gen_new (.tup vs) hp
    rw [eh]
    refine ⟨p, 3, vs, rfl, rfl, .inl (.inl f), fun e => by rw [e] at l; simp at l; omega, by decide, by decide, by omega, fun p3 hp3 => ?_⟩
    obtain ⟨H3, eh, S3, f3⟩ := gen_new (.tup (List.replicate (3 : Int).toNat vs).flatten) hp3
    rw [eh]
    have e3 : (List.replicate (3 : Int).toNat vs).flatten = vs ++ (vs ++ vs) := by
      show [vs, vs, vs].flatten = _
      simp
    rw [e3] at f3
    obtain ⟨ds, r, s, ld⟩ := goods (vs := vs ++ (vs ++ vs)) (H := H1) fun v hv => gs v (by simpa using hv)
    refine q _ H3 (S1.trans (S2.trans S3)) ⟨.tup ds, .tup (.inl (.inl f3)) ((r.mono S2).mono S3), ?_⟩
    rw [List.length_append, List.length_append] at ld
    rw [szX, s, decide_eq_true (by omega)]
    rfl⟩
theorem mk_list {ta : TA} {n : Nat} (h : MkA K C H0 σ ta n) (hn : n < 64) {H : Hp} (S : Same H0 H) {Q : VK} (q : ∀ l ws H', Same H H' → H' l = some (.lst ws) → ws.length = n → (∀ v ∈ ws, Gd8 K C H' v) → Q (.ref l) H') : tLst1 ta σ H Q :=
  h.run H S _ fun vs H1 S1 l gs => by
    have sz : sizeLine = 16777216 := sizeLine_eq
    refine ⟨by omega, fun p hp _ => ?_⟩
    obtain ⟨H2, eh, S2, f⟩ := gen_new (.lst vs) hp
    rw [eh]
    exact q _ _ H2 (S1.trans S2) f l fun v hv => (gs v hv).mono S2
end
def spOthers (K : PySem.W.Frag) (C : Addr) : Sp := fun vs H Q _ => ∃ (t e dx : Addr) (fs : List (Str × V)) (a b c : Int), vs = [.ref t, .ref e] ∧ H t = some (.ins C dx fs) ∧ H e = some (.tup [.int a, .int b, .int c]) ∧
  ∀ l ws H', Same H H' → H' l = some (.lst ws) → ws.length = 27 → (∀ v ∈ ws, Gd8 K C H' v) → Q (.ref l) H'
section
variable {P : Program} {w : World} {K : PySem.W.Frag} {mg : Str → Option Value} {base : Heap}
theorem ok_l_others (T : Tx K mg w.params) : FnG P w K mg base 1 T.d_l_others.f T.d_l_others.fd ["_law_tree_here", "_law_era"] (spOthers K T.C_Tree) := by
  refine okG0 T.d_l_others.F sc_l_others (fun vs H Q E h => ?_) (fun cdv A outer s H vs Q E hg hr h => ?_)
  · obtain ⟨t, e, dx, fs, a, b, c, rfl, _⟩ := h
    rfl
  obtain ⟨t, e, dx, fs, a, b, c, rfl, ht, he, k⟩ := h
  have sz : sizeLine = 16777216 := sizeLine_eq
  have gt : Gd8 K T.C_Tree H (.ref t) := ⟨.obj, .obj ht, rfl⟩
  have ge : Gd8 K T.C_Tree H (.ref e) := ⟨.tup [.int a, .int b, .int c], .tup (.inl (.inl he)) (.cons (.int a) (.cons (.int b) (.cons (.int c) .nil))), rfl⟩
  refine ⟨_, (pss_cons (ps_set (i := 2) sc_l_others.nd rfl (Or.inl rfl) (pe_lst1 (pa_cons pe_non (pa_cons pe_bl (pa_cons pe_int (pa_cons pe_str (pa_cons pe_str (pa_cons (pe_lst1 pa_nil) (pa_cons (pe_tup pa_nil) (pa_cons pe_dnewK (pa_cons (pe_disp (pps_cons pe_str (pe_lst1 (pa_cons (pv 1) pa_nil)) pps_nil) (by rfl) (by rfl) (fun z => by cases z) (by decide)) (pa_cons (pv 0) (pa_cons (pe_tup (pa_cons pe_str pa_nil)) (pa_cons (pe_tup (pa_cons pe_str (pa_cons (pv 0) pa_nil))) (pa_cons (pe_lst1 (pa_cons (pe_tup (pa_cons pe_str (pa_cons (pv 1) pa_nil))) pa_nil)) pa_nil)))))))))))))))
    (pss_cons (ps_set (i := 2) sc_l_others.nd rfl (Or.inl rfl) (pe_op op_cat (pv 2) (pe_lst1 (pa_cons (pe_tup (pa_cons (pe_tup (pa_cons pe_str (pa_cons (pv 1) pa_nil))) pa_nil)) (pa_cons (pe_tup (pa_cons pe_str (pa_cons (pv 1) (pa_cons (pe_tup pa_nil) pa_nil)))) (pa_cons (pe_tup (pa_cons pe_int (pa_cons (pv 1) pa_nil))) (pa_cons (pe_tup (pa_cons pe_non (pa_cons (pv 1) (pa_cons pe_int pa_nil)))) (pa_cons (pe_tup (pa_cons pe_str (pa_cons (pv 1) pa_nil))) (pa_cons (pe_tup (pa_cons (pv 1) (pa_cons pe_str pa_nil))) (pa_cons (pe_lst1 (pa_cons (pv 1) pa_nil)) (pa_cons (pe_op op_repT (pe_tup (pa_cons (pv 0) pa_nil)) pe_int) pa_nil)))))))))))
    (pss_one (ps_ret (pe_op op_cat (pv 2) (pe_lst1 (pa_cons (pe_tup (pa_cons pe_str (pa_cons (pe_lst1 (pa_cons (pv 1) pa_nil)) pa_nil))) (pa_cons (pe_tup (pa_cons pe_str (pa_cons (pe_tup (pa_cons (pv 1) pa_nil)) pa_nil))) (pa_cons (pe_tup (pa_cons pe_str (pa_cons (pv 1) (pa_cons (pv 0) pa_nil)))) (pa_cons (pe_tup (pa_cons pe_str (pa_cons (pv 1) (pa_cons pe_bl pa_nil)))) (pa_cons (pe_tup (pa_cons pe_str (pa_cons (pv 1) pa_nil))) (pa_cons (pe_tup (pa_cons (pv 1) (pa_cons (pv 1) (pa_cons (pv 1) pa_nil)))) pa_nil)))))))))))), ?_⟩
  have zh : szX (.str (Str.ofString "halt")) = true := by decide +kernel
  have z0 : szX (.str (Str.ofString "")) = true := by decide +kernel
  have zt : szX (.str (Str.ofString "taken")) = true := by decide +kernel
  have zd : szX (.str (Str.ofString "held")) = true := by decide +kernel
  generalize Str.ofString "halt" = sh at zh
  generalize Str.ofString "" = s0 at z0
  generalize Str.ofString "taken" = st at zt
  generalize Str.ofString "held" = sd at zd
  rw [e_seq, e_asg]
  have S0 : ∀ {x : Option V}, ([some (V.ref t), some (V.ref e), x] : L2.St)[0]? = some (some (V.ref t)) := rfl
  have S1 : ∀ {x : Option V}, ([some (V.ref t), some (V.ref e), x] : L2.St)[1]? = some (some (V.ref e)) := rfl
  have vt : ∀ {x : Option V}, MkE K T.C_Tree H [some (V.ref t), some (V.ref e), x] (tVar 0) := .var rfl gt
  have ve : ∀ {x : Option V}, MkE K T.C_Tree H [some (V.ref t), some (V.ref e), x] (tVar 1) := .var rfl ge
  have h := fun {x : Option V} => MkE.str (K := K) (C := T.C_Tree) (H0 := H) (σ := [some (V.ref t), some (V.ref e), x]) zh
  have m0 := fun {x : Option V} => MkE.str (K := K) (C := T.C_Tree) (H0 := H) (σ := [some (V.ref t), some (V.ref e), x]) z0
  have mt := fun {x : Option V} => MkE.str (K := K) (C := T.C_Tree) (H0 := H) (σ := [some (V.ref t), some (V.ref e), x]) zt
  have md := fun {x : Option V} => MkE.str (K := K) (C := T.C_Tree) (H0 := H) (σ := [some (V.ref t), some (V.ref e), x]) zd
  refine mk_list (C := T.C_Tree) (σ := [some (V.ref t), some (V.ref e), none]) (H0 := H) (.cons .non (.cons (.bl true) (.cons (.int 0) (.cons h (.cons m0 (.cons (.lst .nil (by decide)) (.cons (.tup .nil (by decide)) (.cons .dnew (.cons (.disp (.lst (.cons ve .nil) (by decide))) (.cons vt
    (.cons (.tup (.cons h .nil) (by decide)) (.cons (.tup (.cons h (.cons vt .nil)) (by decide)) (.cons (.lst (.cons (.tup (.cons h (.cons ve .nil)) (by decide)) .nil) (by decide)) .nil))))))))))))) (by decide) (Same.refl H) fun l1 w1 H1 Z1 f1 n1 g1 => ?_
  rw [e_gname]
  refine ⟨_, rfl, ?_⟩
  refine mk_list (C := T.C_Tree) (σ := [some (V.ref t), some (V.ref e), some (V.ref l1)]) (H0 := H) (.cons (.tup (.cons (.tup (.cons h (.cons ve .nil)) (by decide)) .nil) (by decide)) (.cons (.tup (.cons h (.cons ve (.cons (.tup .nil (by decide)) .nil))) (by decide)) (.cons (.tup (.cons (.int 0) (.cons ve .nil)) (by decide)) (.cons (.tup (.cons .non (.cons ve (.cons (.int 0) .nil))) (by decide))
    (.cons (.tup (.cons m0 (.cons ve .nil)) (by decide)) (.cons (.tup (.cons ve (.cons h .nil)) (by decide)) (.cons (.lst (.cons ve .nil) (by decide)) (.cons (.rep3 (.cons vt .nil) (by decide) (by decide)) .nil)))))))) (by decide) Z1 fun l2 w2 H2 Z2 f2 n2 g2 => ?_
  refine ⟨l1, l2, w1, w2, rfl, rfl, Z2 _ _ f1, f2, by omega, fun l3 hl3 => ?_⟩
  obtain ⟨H3, eh, Z3, f3⟩ := gen_new (.lst (w1 ++ w2)) hl3
  rw [eh]
  clear eh
  have Z13 := Z1.trans (Z2.trans Z3)
  rw [e_gname]
  refine ⟨_, rfl, ?_⟩
  refine mk_list (C := T.C_Tree) (σ := [some (V.ref t), some (V.ref e), some (V.ref l3)]) (H0 := H) (.cons (.tup (.cons h (.cons (.lst (.cons ve .nil) (by decide)) .nil)) (by decide)) (.cons (.tup (.cons h (.cons (.tup (.cons ve .nil) (by decide)) .nil)) (by decide)) (.cons (.tup (.cons mt (.cons ve (.cons vt .nil))) (by decide)) (.cons (.tup (.cons mt (.cons ve (.cons (.bl true) .nil))) (by decide))
    (.cons (.tup (.cons md (.cons ve .nil)) (by decide)) (.cons (.tup (.cons ve (.cons ve (.cons ve .nil))) (by decide)) .nil)))))) (by decide) Z13 fun l4 w4 H4 Z4 f4 n4 g4 => ?_
  refine ⟨l3, l4, w1 ++ w2, w4, rfl, rfl, Z4 _ _ f3, f4, by rw [List.length_append]; omega, fun l5 hl5 => ?_⟩
  obtain ⟨H5, eh, Z5, f5⟩ := gen_new (.lst (w1 ++ w2 ++ w4)) hl5
  rw [eh]
  clear eh
  refine k l5 _ H5 (Z13.trans (Z4.trans Z5)) f5 (by rw [List.length_append, List.length_append]; omega) fun v hv => ?_
  rcases List.mem_append.mp hv with hv | hv
  · rcases List.mem_append.mp hv with hv | hv
    · exact (g1 v hv).mono (Z2.trans (Z3.trans (Z4.trans Z5)))
    · exact (g2 v hv).mono (Z3.trans (Z4.trans Z5))
  · exact (g4 v hv).mono Z5
end
end K32



namespace K32
open PySem L2 Nv Gr
theorem seq_split {a b : TS} {D : Ends} {σ : L2.St} {H : Hp} (Pm : L2.St → Hp → Prop) (h1 : ∀ R : L2.St → Hp → Prop, (∀ σ H, Pm σ H → R σ H) → a { nx := R, rt := D.rt, bk := D.bk, ct := D.ct } σ H) (h2 : ∀ σ H, Pm σ H → b D σ H) : tSeq a b D σ H := h1 _ h2
def TreeD (C : Addr) (H : Hp) (p : Addr) (n : Nat) (ps : List Rd) (D : Addr) : Prop := ∃ (dx r : Addr) (xs : List V) (a L : Addr) (bs : List Addr), H p = some (.ins C dx (tfl n r a L)) ∧ H r = some (.tup xs) ∧ RdsV H xs (ps.map some) ∧
  H a = some (.lst (bs.map V.ref)) ∧ bs.length = n ∧ (∀ (u : Nat) (b : Addr), bs[u]? = some b → ∃ ns : List Nat, H b = some (.lst (intL ns)) ∧ ns.Perm (nbL ps u) ∧ ns.Pairwise (· ≤ ·)) ∧ StepsAt H L n ps ∧ D ∉ bs
theorem RdV_t {H H' : Hp} (S : SameT H H') {v : V} : ∀ {r : Option Rd}, RdV H v r → RdV H' v r
  | none, h => h
  | some (x, y), ⟨a, e, g⟩ => ⟨a, e, S _ _ (by intro _ q; cases q) g⟩
theorem RdsT {H H' : Hp} {xs : List V} {rs : List (Option Rd)} (h : RdsV H xs rs) (S : SameT H H') : RdsV H' xs rs := paired_same (fun _ _ h => RdV_t S h) h
theorem TreeD.of {C : Addr} {H H' : Hp} {p : Addr} {n : Nat} {ps : List Rd} {D : Addr} {o : HO} (t : TreeAt C H' p n ps) (nt : NewT C H H' p) (hD : H D = some o) : TreeD C H' p n ps D := by
  obtain ⟨dx, r, xs, a, L, h1, h2, h3, ⟨bs, h4, h5, h6⟩, h7⟩ := t
  refine ⟨dx, r, xs, a, L, bs, h1, h2, h3, h4, h5, h6, h7, fun m => ?_⟩
  rw [nt dx r a L n h1 bs h4 D m] at hD
  cases hD
theorem TreeD.tree {C : Addr} {H : Hp} {p : Addr} {n : Nat} {ps : List Rd} {D : Addr} (t : TreeD C H p n ps D) : TreeAt C H p n ps := by
  obtain ⟨dx, r, xs, a, L, bs, h1, h2, h3, h4, h5, h6, h7, _⟩ := t
  exact ⟨dx, r, xs, a, L, h1, h2, h3, ⟨bs, h4, h5, h6⟩, h7⟩
theorem TreeD.mono {C : Addr} {H H' : Hp} {p : Addr} {n : Nat} {ps : List Rd} {D : Addr} (S : Same H H') (t : TreeD C H p n ps D) : TreeD C H' p n ps D := by
  obtain ⟨dx, r, xs, a, L, bs, h1, h2, h3, h4, h5, h6, h7, h8⟩ := t
  refine ⟨dx, r, xs, a, L, bs, S _ _ h1, S _ _ h2, h3.mono S, S _ _ h4, h5, fun u b hb => ?_, h7.mono S, h8⟩
  obtain ⟨ns, e, q⟩ := h6 u b hb
  exact ⟨ns, S _ _ e, q⟩
/-- a list of objects grows -/
theorem TreeD.put {C : Addr} {H : Hp} {p : Addr} {n : Nat} {ps : List Rd} {D : Addr} {l l' : List V} (t : TreeD C H p n ps D) (n1 : 1 ≤ n) (hD : H D = some (.lst l)) (hl : ∀ v ∈ l, ∃ b C dx fs, v = .ref b ∧ H b = some (.ins C dx fs)) : TreeD C (upd H D (.lst l')) p n ps D := by
  obtain ⟨dx, r, xs, a, L, bs, h1, h2, h3, h4, h5, h6, ⟨ss, g1, g2, g3⟩, h8⟩ := t
  have aD : a ≠ D := fun e => by
    rw [e, hD] at h4
    injection h4 with h4
    injection h4 with h4
    cases bs with
    | nil => simp at h5; omega
    | cons b0 r =>
      obtain ⟨b, C2, d2, fs, e1, e2⟩ := hl (.ref b0) (by rw [h4]; simp)
      cases e1
      obtain ⟨ns, e3, _⟩ := h6 0 b0 rfl
      rw [e2] at e3
      cases e3
  have LD : L ≠ D := fun e => by
    rw [e, hD] at g1
    injection g1 with g1
    injection g1 with g1
    cases ss with
    | nil => simp at g2; omega
    | cons b0 r =>
      obtain ⟨b, C2, d2, fs, e1, e2⟩ := hl (.ref b0) (by rw [g1]; simp)
      cases e1
      obtain ⟨ns, e3, _⟩ := g3 0 b0 rfl
      rw [e2] at e3
      cases e3
  have T : SameT H (upd H D (.lst l')) := sameT_lstN hD
  refine ⟨dx, r, xs, a, L, bs, T _ _ (by intro _ q; cases q) h1, T _ _ (by intro _ q; cases q) h2, RdsT h3 T, by rw [upd_ne aD]; exact h4, h5, fun u b hb => ?_, ⟨ss, by rw [upd_ne LD]; exact g1, g2, fun g s hs => ?_⟩, h8⟩
  · obtain ⟨ns, e, q⟩ := h6 u b hb
    refine ⟨ns, ?_, q⟩
    rw [upd_ne (fun z => h8 (by rw [← z]; exact List.mem_of_getElem? hb))]
    exact e
  · obtain ⟨l2, e, q⟩ := g3 g s hs
    exact ⟨l2, T _ _ (by intro _ z; cases z) e, q⟩

theorem nin_box {H : Hp} {p b : Addr} {N : Nat} {ns : List Nat} (bx : BoxAt H p N) (h : H b = some (.lst (intL ns))) : b ≠ p := fun e => by
  obtain ⟨n, bb, m, c, f, _⟩ := bx
  rw [e, f] at h
  injection h with h
  injection h with h
  match ns, h with
  | _ :: _ :: _, h => simp [intL] at h
theorem nref_box {H : Hp} {p b : Addr} {N : Nat} {bs : List Addr} (bx : BoxAt H p N) (h : H b = some (.lst (bs.map V.ref))) : b ≠ p := fun e => by
  obtain ⟨n, bb, m, c, f, _⟩ := bx
  rw [e, f] at h
  injection h with h
  injection h with h
  match bs, h with
  | _ :: _, h => simp at h
theorem TreeD.ext {C : Addr} {H H' : Hp} {p t : Addr} {N n : Nat} {ps : List Rd} {D : Addr} (bx : BoxAt H p N) (E : Ext1 p H H') (h : TreeD C H t n ps D) : TreeD C H' t n ps D := by
  obtain ⟨dx, r, xs, a, L, bs, h1, h2, h3, h4, h5, h6, ⟨ss, g1, g2, g3⟩, h8⟩ := h
  have T := extTN bx E
  refine ⟨dx, r, xs, a, L, bs, T _ _ (by intro _ q; cases q) h1, T _ _ (by intro _ q; cases q) h2, RdsT h3 T, E _ _ (nref_box bx h4) h4, h5, fun u b hb => ?_, ⟨ss, E _ _ (nref_box bx g1) g1, g2, fun g s hs => ?_⟩, h8⟩
  · obtain ⟨ns, e, q⟩ := h6 u b hb
    exact ⟨ns, E _ _ (nin_box bx e) e, q⟩
  · obtain ⟨l, e, q⟩ := g3 g s hs
    exact ⟨l, T _ _ (by intro _ z; cases z) e, q⟩
theorem tree_ext {C : Addr} {H H' : Hp} {p t : Addr} {N n : Nat} {ps : List Rd} (bx : BoxAt H p N) (E : Ext1 p H H') (h : TreeAt C H t n ps) : TreeAt C H' t n ps := by
  obtain ⟨dx, r, xs, a, L, h1, h2, h3, ⟨bs, h4, h5, h6⟩, ⟨ss, g1, g2, g3⟩⟩ := h
  have T := extTN bx E
  refine ⟨dx, r, xs, a, L, T _ _ (by intro _ q; cases q) h1, T _ _ (by intro _ q; cases q) h2, RdsT h3 T, ⟨bs, E _ _ (nref_box bx h4) h4, h5, fun u b hb => ?_⟩, ⟨ss, E _ _ (nref_box bx g1) g1, g2, fun g s hs => ?_⟩⟩
  · obtain ⟨ns, e, q⟩ := h6 u b hb
    exact ⟨ns, E _ _ (nin_box bx e) e, q⟩
  · obtain ⟨l, e, q⟩ := g3 g s hs
    exact ⟨l, T _ _ (by intro _ z; cases z) e, q⟩
/-- two sizes and two trees -/
structure Wd (C : Addr) (H : Hp) (S T : Addr) (n0 n1 : Nat) (t0 t1 : Addr) : Prop where
  sz : H S = some (.lst [.int ((n0 : Nat) : Int), .int ((n1 : Nat) : Int)])
  tr : H T = some (.lst [.ref t0, .ref t1])
  t0 : ∃ ps, TreeAt C H t0 n0 ps
  t1 : ∃ ps, TreeAt C H t1 n1 ps
  b0 : 1 ≤ n0 ∧ n0 ≤ 16
  b1 : 1 ≤ n1 ∧ n1 ≤ 16
theorem Wd.mono {C : Addr} {H H' : Hp} {S T : Addr} {n0 n1 : Nat} {t0 t1 : Addr} (Sm : Same H H') (h : Wd C H S T n0 n1 t0 t1) : Wd C H' S T n0 n1 t0 t1 := by
  obtain ⟨s, t, ⟨p0, a⟩, ⟨p1, b⟩, c, d⟩ := h
  exact ⟨Sm _ _ s, Sm _ _ t, ⟨p0, a.mono Sm⟩, ⟨p1, b.mono Sm⟩, c, d⟩
theorem Wd.ext {C : Addr} {H H' : Hp} {S T p : Addr} {N n0 n1 : Nat} {t0 t1 : Addr} (bx : BoxAt H p N) (E : Ext1 p H H') (h : Wd C H S T n0 n1 t0 t1) : Wd C H' S T n0 n1 t0 t1 := by
  obtain ⟨s, t, ⟨p0, a⟩, ⟨p1, b⟩, c, d⟩ := h
  have s' : H S = some (.lst (intL [n0, n1])) := s
  have t' : H T = some (.lst ([t0, t1].map V.ref)) := t
  exact ⟨E _ _ (nin_box bx s') s, E _ _ (nref_box bx t') t, ⟨p0, tree_ext bx E a⟩, ⟨p1, tree_ext bx E b⟩, c, d⟩
def spRight : Sp := fun vs H Q _ => ∃ p N, vs = [.ref p] ∧ BoxAt H p N ∧ N ≤ 1000 ∧ ∀ H', Ext1 p H H' → Q (.bl true) H'
theorem wd_pick {C : Addr} {H : Hp} {S T : Addr} {n0 n1 : Nat} {t0 t1 : Addr} (w : Wd C H S T n0 n1 t0 t1) {j : Nat} (hj : j < 2) : ∃ (t : Addr) (n : Nat) (ps : List Rd), atI [V.ref t0, V.ref t1] (j : Int) = some (.ref t) ∧ atI [V.int (n0 : Int), V.int (n1 : Int)] (j : Int) = some (.int (n : Int)) ∧ TreeAt C H t n ps ∧ 1 ≤ n ∧ n ≤ 16 := by
  obtain ⟨p0, a⟩ := w.t0
  obtain ⟨p1, b⟩ := w.t1
  match j, hj with
  | 0, _ => exact ⟨t0, n0, p0, rfl, rfl, a, w.b0⟩
  | 1, _ => exact ⟨t1, n1, p1, rfl, rfl, b, w.b1⟩
theorem for_vals {K : PySem.W.Frag} {i : Nat} {a : Addr} {xs : List V} {g : TG} {tb : TS} {D : Ends} {σ : L2.St} {H : Hp} (hv : σ[i]? = some (some (.ref a))) (ha : H a = some (.lst xs)) (Is : L2.St → Prop) (i0 : Is σ)
    (b : ∀ x ∈ xs, ∀ σ1 H1, Is σ1 → Same H H1 → ∀ N : L2.St → Hp → Prop, (∀ σ2 H2, Is σ2 → Same H1 H2 → N σ2 H2) → g x σ1 H1 fun σ2 H2 => tb { D with nx := N, ct := N, bk := D.nx } σ2 H2)
    (c : ∀ σ1 H1, Is σ1 → Same H H1 → D.nx σ1 H1) : tFor (iList K (tVar i)) g tb D σ H :=
  ⟨_, hv, a, rfl, ⟨_, .of ha⟩, for_list (fun _ σ1 H1 => Is σ1 ∧ Same H H1) ⟨i0, Same.refl H⟩ (fun _ _ _ _ q => .of (q.2 _ _ ha))
    (fun _ x σ1 H1 hx q => b x (List.mem_of_getElem? hx) σ1 H1 q.1 q.2 _ fun _ _ q1 q2 => ⟨q1, q.2.trans q2⟩) fun σ1 H1 q => c σ1 H1 q.1 q.2⟩
theorem for_turns {K : PySem.W.Frag} {i : Nat} {u : Int} {g : TG} {tb : TS} {D : Ends} {σ : L2.St} {H : Hp} (hv : σ[i]? = some (some (.int u))) (Is : L2.St → Prop) (i0 : Is σ)
    (b : ∀ j, (j = u ∨ j = 1 - u) → ∀ σ1 H1, Is σ1 → Same H H1 → ∀ N : L2.St → Hp → Prop, (∀ σ2 H2, Is σ2 → Same H1 H2 → N σ2 H2) → g (.int j) σ1 H1 fun σ2 H2 => tb { D with nx := N, ct := N, bk := D.nx } σ2 H2)
    (c : ∀ σ1 H1, Is σ1 → Same H H1 → D.nx σ1 H1) : tFor (iList K (tLst1 (tCons (tVar i) (tCons (tOp (rI0 fun i j => V.int (i - j)) (tC (V.int 1)) (tVar i)) tNil)))) g tb D σ H := by
  have sz : sizeLine = 16777216 := sizeLine_eq
  unfold tFor iList
  dsimp only
  refine ⟨_, hv, _, hv, _, _, rfl, rfl, by simp; omega, fun L hL _ => ⟨L, rfl, ⟨_, .of upd_same⟩, ?_⟩⟩
  obtain ⟨H2, eh, S2, fL⟩ := gen_new (.lst [V.int u, V.int (1 - u)]) hL
  rw [eh]
  clear eh
  exact for_list (K := K) (a := L) (xs := [V.int u, V.int (1 - u)]) (fun _ σ1 H1 => Is σ1 ∧ Same H2 H1) ⟨i0, Same.refl H2⟩ (fun _ _ _ _ q => .of (q.2 _ _ fL))
    (fun _ x σ1 H1 hx q => by
      have hm := List.mem_of_getElem? hx
      simp only [List.mem_cons, List.not_mem_nil, or_false] at hm
      rcases hm with rfl | rfl
      · exact b _ (.inl rfl) σ1 H1 q.1 (S2.trans q.2) _ fun _ _ q1 q2 => ⟨q1, q.2.trans q2⟩
      · exact b _ (.inr rfl) σ1 H1 q.1 (S2.trans q.2) _ fun _ _ q1 q2 => ⟨q1, q.2.trans q2⟩) fun σ1 H1 q => c σ1 H1 q.1 (S2.trans q.2)
theorem spC4 {p : Addr} {N n m : Nat} {v : V} {d : PyData} {H : Hp} {Q : VK} {E : XK} (e : Nat) (hp : BoxAt H p N) (hN : N ≤ 400000) (n16 : n ≤ 16) (m1 : 1 ≤ m) (m20 : m ≤ 20) (lk : Lk m d) (w : d.weight ≤ 2000) (pd : d.depth ≤ 10) (dv : DV H v d)
    (k : ∀ v' d' H', Ext1 p H H' → BoxAt H' p (N + 11) → DVp p H' v' d' → OutD m d d' → Q v' H') : spC 4 [.ref p, v, .int ((n : Nat) : Int), .int ((e : Nat) : Int)] H Q E :=
  show spC (3 + 1) _ _ _ _ from ⟨p, N, n, v, d, m, e, rfl, (by show 3 ≤ e + 3; omega), hp, (by show N + 2 * 3 ≤ 490000; omega), n16, m1, m20, lk, w, pd, dv, k⟩
section
variable {P : Program} {w : World} {K : PySem.W.Frag} {mg : Str → Option Value} {base : Heap}
theorem ok_l_right (T : Tx K mg w.params) : FnG P w K mg base 10 T.d_l_right.f T.d_l_right.fd ["_law_box_here"] spRight := by
  refine okG0 T.d_l_right.F sc_l_right (fun vs H Q E h => ?_) (fun cdv A outer s H vs Q E hg hr h => ?_)
  · obtain ⟨p, N, rfl, _⟩ := h
    rfl
  obtain ⟨p, N, rfl, hp, hN, k⟩ := h
  have sz : sizeLine = 16777216 := sizeLine_eq
  refine ⟨_, (pss_cons (ps_setLc (i := 1) (own := [("_law_turn", 2)]) (g := gName 2) (tt := tYes) rfl sc_l_right.nd rfl rfl (sw_true rfl rfl rfl (by decide +kernel)) (pi_range1 (by rfl) T.n_range (pa_cons pe_int pa_nil)) (blkOk_by (N := ["_law_box_here", "_law_sizes", "_law_turn", "_law_extra", "_law_trees", "_law_houses", "_law_k", "_law_letter_here", "_law_values", "_law_eras", "_law_kept", "_law_value", "_law_which", "_law_others_here"]) (sc := defScope s_l_right) (by decide +kernel)) (fun _ _ _ _ _ => pg_name (i := 2) sc_l_right.nd rfl (Or.inl rfl)) (fun _ _ _ _ _ => pts_nil) (fun _ _ _ _ _ => (pe_ix (ix_listK (K := K) rfl) (pe_lst1 (pa_cons pe_int (pa_cons pe_int (pa_cons pe_int (pa_cons pe_int (pa_cons pe_int (pa_cons pe_int (pa_cons pe_int (pa_cons pe_int pa_nil))))))))) (pe_cG (ok_l_take T) T.d_l_take.b takes0 hg (hr.mono (by decide)) T.d_l_take.m T.d_l_take.F.kp (pa_cons (pv 0) (pa_cons pe_int pa_nil))) (fun _ _ => rfl))))
    (pss_cons (ps_asg (pe_tup (pa_cons (pe_cG (ok_l_take T) T.d_l_take.b takes0 hg (hr.mono (by decide)) T.d_l_take.m T.d_l_take.F.kp (pa_cons (pv 0) (pa_cons pe_int pa_nil))) (pa_cons (pe_cG (ok_l_take T) T.d_l_take.b takes0 hg (hr.mono (by decide)) T.d_l_take.m T.d_l_take.F.kp (pa_cons (pv 0) (pa_cons pe_int pa_nil))) pa_nil))) (pg_tup rfl (pgs_cons (pg_name (i := 2) sc_l_right.nd rfl (Or.inl rfl)) (pgs_cons (pg_name (i := 3) sc_l_right.nd rfl (Or.inr rfl)) pgs_nil))))
    (pss_cons (ps_setLc (i := 4) (own := [("_law_houses", 5)]) (g := gName 5) (tt := tYes) rfl sc_l_right.nd rfl rfl (sw_true rfl rfl rfl (by decide +kernel)) (pi_list (pv 1)) (blkOk_by (N := ["_law_box_here", "_law_sizes", "_law_turn", "_law_extra", "_law_trees", "_law_houses", "_law_k", "_law_letter_here", "_law_values", "_law_eras", "_law_kept", "_law_value", "_law_which", "_law_others_here"]) (sc := defScope s_l_right) (by decide +kernel)) (fun _ _ _ _ _ => pg_name (i := 5) sc_l_right.nd rfl (Or.inl rfl)) (fun _ _ _ _ _ => pts_nil) (fun _ _ _ _ _ => (pe_cG (ok_l_tree T) T.d_l_tree.b takes0 hg (hr.mono (by decide)) T.d_l_tree.m T.d_l_tree.F.kp (pa_cons (pv 0) (pa_cons (pv 5) pa_nil)))))
    (pss_cons (ps_for PassesOwn.never rfl (pi_range1 (by rfl) T.n_range (pa_cons pe_int pa_nil)) (pg_name (i := 6) sc_l_right.nd rfl (Or.inl rfl))
      (pss_cons (ps_set (i := 7) sc_l_right.nd rfl (Or.inl rfl) (pe_cG (ok_l_letter T) T.d_l_letter.b takes0 hg (hr.mono (by decide)) T.d_l_letter.m T.d_l_letter.F.kp (pa_cons (pv 0) (pa_cons (pe_ix ix_list (pv 1) (pe_op op_modN (pv 6) pe_int) (fun _ _ => rfl)) pa_nil))))
      (pss_cons (ps_set (i := 8) sc_l_right.nd rfl (Or.inl rfl) (pe_lst1 (pa_cons (pv 7) (pa_cons (pe_cG (ok_l_changed T) T.d_l_changed.b takes0 hg (hr.mono (by decide)) T.d_l_changed.m T.d_l_changed.F.kp (pa_cons (pv 0) (pa_cons (pv 7) (pa_cons (pe_ix ix_list (pv 1) (pe_op op_modN (pv 6) pe_int) (fun _ _ => rfl)) (pa_cons pe_int pa_nil))))) (pa_cons (pe_cG (ok_l_changed T) T.d_l_changed.b takes0 hg (hr.mono (by decide)) T.d_l_changed.m T.d_l_changed.F.kp (pa_cons (pv 0) (pa_cons (pv 7) (pa_cons (pe_ix ix_list (pv 1) (pe_op op_modN (pv 6) pe_int) (fun _ _ => rfl)) (pa_cons pe_int pa_nil))))) pa_nil)))))
      (pss_cons (ps_expr (pe_bm PySem.F.plainAttrs_list PySem.F.slot_list_append PySem.F.type_list_append mt_append (pv 8) (pa_cons (pe_cG (ok_l_twice T) T.d_l_twice.b takes0 hg (hr.mono (by decide)) T.d_l_twice.m T.d_l_twice.F.kp (pa_cons (pv 0) (pa_cons (pv 7) pa_nil))) pa_nil)))
      (pss_cons (ps_set (i := 9) sc_l_right.nd rfl (Or.inl rfl) (pe_lst1 (pa_cons (pe_ix ix_tup (pv 7) pe_int (fun _ _ => rfl)) (pa_cons (pe_cG (ok_l_changed T) T.d_l_changed.b takes0 hg (hr.mono (by decide)) T.d_l_changed.m T.d_l_changed.F.kp (pa_cons (pv 0) (pa_cons (pe_ix ix_tup (pv 7) pe_int (fun _ _ => rfl)) (pa_cons (pe_ix ix_list (pv 1) (pe_op op_modN (pv 6) pe_int) (fun _ _ => rfl)) (pa_cons pe_int pa_nil))))) pa_nil))))
      (pss_cons (ps_set (i := 10) sc_l_right.nd rfl (Or.inl rfl) (pe_callB (call_reprA hg hr.units) (by rfl) T.n_repr (by decide +kernel) (pa_cons (pe_lst1 (pa_cons (pv 8) (pa_cons (pv 9) pa_nil))) pa_nil)))
      (pss_cons (ps_for PassesOwn.never rfl (pi_list (pv 8)) (pg_name (i := 11) sc_l_right.nd rfl (Or.inl rfl))
        (pss_one (ps_for PassesOwn.never rfl (pi_list (pe_lst1 (pa_cons (pv 2) (pa_cons (pe_op op_sub pe_int (pv 2)) pa_nil)))) (pg_name (i := 12) sc_l_right.nd rfl (Or.inl rfl))
          (pss_one (ps_if (pt_not (pt_val (pe_cG (ok_l_letter_right T) T.d_l_letter_right.b takes0 hg (hr.mono (by decide)) T.d_l_letter_right.m T.d_l_letter_right.F.kp (pa_cons (pe_ix ix_list (pv 4) (pv 12) (fun _ _ => rfl)) (pa_cons (pe_ix ix_list (pv 1) (pv 12) (fun _ _ => rfl)) (pa_cons (pv 11) (pa_cons (pe_op op_modN (pe_op op_add (pv 2) (pv 6)) pe_int) pa_nil)))))))
            (pss_one (ps_ret pe_bl))
            pss_nil)))))
      (pss_cons (ps_for PassesOwn.never rfl (pi_list (pv 9)) (pg_name (i := 11) sc_l_right.nd rfl (Or.inl rfl))
        (pss_one (ps_if (PW.pt (pw_or (pt_not (pt_val (pe_cG (ok_l_era_right T) T.d_l_era_right.b takes0 hg (hr.mono (by decide)) T.d_l_era_right.m T.d_l_era_right.F.kp (pa_cons (pv 11) (pa_cons (pe_op op_modN (pe_op op_add (pv 2) (pv 6)) pe_int) pa_nil))))) (pw_or1 (pt_not (pt_val (pe_cG (ok_l_letter_right T) T.d_l_letter_right.b takes0 hg (hr.mono (by decide)) T.d_l_letter_right.m T.d_l_letter_right.F.kp (pa_cons (pe_ix ix_list (pv 4) (pv 2) (fun _ _ => rfl)) (pa_cons (pe_ix ix_list (pv 1) (pv 2) (fun _ _ => rfl)) (pa_cons (pv 11) (pa_cons (pv 2) pa_nil))))))))))
          (pss_one (ps_ret pe_bl))
          pss_nil)))
      (pss_one (ps_if (PW.pt (pw_or (pt_not (pt_val (pe_cG (ok_l_letter_right T) T.d_l_letter_right.b takes0 hg (hr.mono (by decide)) T.d_l_letter_right.m T.d_l_letter_right.F.kp (pa_cons (pe_ix ix_list (pv 4) (pe_op op_sub pe_int (pv 2)) (fun _ _ => rfl)) (pa_cons (pe_ix ix_list (pv 1) (pe_op op_sub pe_int (pv 2)) (fun _ _ => rfl)) (pa_cons (pv 7) (pa_cons (pv 2) pa_nil))))))) (pw_or1 (pt_cmpR op_ne (pe_callB (call_reprA hg hr.units) (by rfl) T.n_repr (by decide +kernel) (pa_cons (pe_lst1 (pa_cons (pv 8) (pa_cons (pv 9) pa_nil))) pa_nil)) (pv 10) (nomark _)))))
        (pss_one (ps_ret pe_bl))
        pss_nil))))))))))
    (pss_cons (ps_set (i := 13) sc_l_right.nd rfl (Or.inr rfl) (pe_cG (ok_l_others T) T.d_l_others.b takes0 hg (hr.mono (by decide)) T.d_l_others.m T.d_l_others.F.kp (pa_cons (pe_ix ix_list (pv 4) pe_int (fun _ _ => rfl)) (pa_cons (pe_tup (pa_cons pe_int (pa_cons pe_int (pa_cons pe_int pa_nil)))) pa_nil))))
    (pss_cons (ps_for PassesOwn.never rfl (pi_list (pe_lc (own := [("_law_k", 6)]) (g := gName 6) (tt := tYes) rfl sc_l_right.nd (pi_range1 (by rfl) T.n_range (pa_cons pe_int pa_nil)) (blkOk_by (N := ["_law_box_here", "_law_sizes", "_law_turn", "_law_extra", "_law_trees", "_law_houses", "_law_k", "_law_letter_here", "_law_values", "_law_eras", "_law_kept", "_law_value", "_law_which", "_law_others_here"]) (sc := defScope s_l_right) (by decide +kernel)) (fun _ _ _ _ _ => pg_name (i := 6) sc_l_right.nd rfl (Or.inl rfl)) (fun _ _ _ _ _ => pts_nil) (fun _ _ _ _ _ => (pe_ix (ix_listK (K := K) rfl) (pv 13) (pe_op op_modN (pe_op op_add (pv 3) (pe_op op_mul pe_int (pv 6))) (pe_callB (call_len_seqK (K := K) rfl) (by rfl) T.n_len (by decide +kernel) (pa_cons (pv 13) pa_nil))) (fun _ _ => rfl))))) (pg_name (i := 11) sc_l_right.nd rfl (Or.inl rfl))
      (pss_one (ps_if (PW.pt (pw_or (pt_not (pt_val (pe_cG (ok_l_letter_right T) T.d_l_letter_right.b takes0 hg (hr.mono (by decide)) T.d_l_letter_right.m T.d_l_letter_right.F.kp (pa_cons (pe_ix ix_list (pv 4) (pv 2) (fun _ _ => rfl)) (pa_cons (pe_ix ix_list (pv 1) (pv 2) (fun _ _ => rfl)) (pa_cons (pv 11) (pa_cons (pv 2) pa_nil))))))) (pw_or1 (pt_not (pt_val (pe_cG (ok_l_era_right T) T.d_l_era_right.b takes0 hg (hr.mono (by decide)) T.d_l_era_right.m T.d_l_era_right.F.kp (pa_cons (pv 11) (pa_cons (pe_op op_sub pe_int (pv 2)) pa_nil))))))))
        (pss_one (ps_ret pe_bl))
        pss_nil)))
    (pss_one (ps_ret pe_bl)))))))), ?_⟩
  refine seq_split (fun σ H' => ∃ S n0 n1, σ = [some (.ref p), some (.ref S), none, none, none, none, none, none, none, none, none, none, none, none] ∧ Ext1 p H H' ∧ BoxAt H' p (N + 2) ∧ H' S = some (.lst [.int ((n0 : Nat) : Int), .int ((n1 : Nat) : Int)]) ∧ (1 ≤ n0 ∧ n0 ≤ 16) ∧ (1 ≤ n1 ∧ n1 ≤ 16)) ?_ ?_
  · intro RR kR
    rw [e_asg]
    refine ⟨2, rfl, by decide, by decide, fun D hD => ?_⟩
    refine lc_box walk_range p N 1 (fun _ v => ∃ n : Nat, v = V.int (n : Int) ∧ 1 ≤ n ∧ n ≤ 16) hp hD (by rw [sz]; decide) (fun _ _ => trivial) ?_ ?_
    · rintro j x Ha Hb R hj hBa Ea ⟨rfl, rfl⟩ kQ
      refine ⟨rfl, ?_⟩
      walk_at "rx"
      refine ⟨by omega, fun w1 hw1 _ => ?_⟩
      have n1p := hBa.ne hw1
      obtain ⟨Hc, eh, Sc, fc⟩ := gen_new (.lst [V.int 3, V.int 4, V.int 2, V.int 16, V.int 5, V.int 1, V.int 9, V.int 12]) hw1
      rw [eh]
      clear eh
      refine ⟨p, 8, _, rfl, hBa.mono Sc, by omega, by decide, by decide, fun d H2 d0 d1 hp2 e2 => r_menu (e2 _ _ n1p fc) d0 d1 fun v hv => ?_⟩
      refine kQ v H2 ?_ (hp2.le (by omega)) ((Same.ext1 Sc).trans e2)
      simp only [List.mem_cons, List.not_mem_nil, or_false] at hv
      rcases hv with rfl | rfl | rfl | rfl | rfl | rfl | rfl | rfl
      · exact ⟨3, rfl, by decide, by decide⟩
      · exact ⟨4, rfl, by decide, by decide⟩
      · exact ⟨2, rfl, by decide, by decide⟩
      · exact ⟨16, rfl, by decide, by decide⟩
      · exact ⟨5, rfl, by decide, by decide⟩
      · exact ⟨1, rfl, by decide, by decide⟩
      · exact ⟨9, rfl, by decide, by decide⟩
      · exact ⟨12, rfl, by decide, by decide⟩
    · rintro ws H1 lw pw f1 b1 E1
      match ws, lw, pw, f1 with
      | [v0, v1], _, pw, f1 =>
        obtain ⟨n0, rfl, a0⟩ := pw 0 v0 rfl
        obtain ⟨n1, rfl, a1⟩ := pw 1 v1 rfl
        exact kR _ _ ⟨D, n0, n1, rfl, E1, b1, f1, a0, a1⟩
  rintro σ H1 ⟨S, n0, n1, rfl, E1, bx1, fS, bn0, bn1⟩
  refine seq_split (fun σ H' => ∃ u x : Nat, σ = [some (.ref p), some (.ref S), some (.int (u : Int)), some (.int (x : Int)), none, none, none, none, none, none, none, none, none, none] ∧ Ext1 p H1 H' ∧ BoxAt H' p (N + 4) ∧ u < 2 ∧ x < 27) ?_ ?_
  · intro RR kR
    walk_at "rx"
    refine ⟨p, 2, _, rfl, bx1, by omega, by decide, by decide, fun u' H2 u0 u1 hp2 e2 => ⟨p, 27, _, rfl, hp2, by omega, by decide, by decide, fun x' H3 x0 x1 hp3 e3 => ⟨by omega, fun t1 ht1 => ?_⟩⟩⟩
    obtain ⟨u, rfl⟩ : ∃ u : Nat, u' = (u : Int) := ⟨u'.toNat, by omega⟩
    obtain ⟨x, rfl⟩ : ∃ u : Nat, x' = (u : Int) := ⟨x'.toNat, by omega⟩
    obtain ⟨H4, eh, S4, f4⟩ := gen_new (.tup [V.int (u : Int), V.int (x : Int)]) ht1
    rw [eh]
    clear eh
    refine ⟨_, _, rfl, .inl (.inl f4), rfl, ?_⟩
    walk_at "rx"
    exact kR _ _ ⟨u, x, rfl, e2.trans (e3.trans (Same.ext1 S4)), hp3.mono S4, by omega, by omega⟩
  rintro σ H2 ⟨u, x, rfl, E2, bx2, u2, x27⟩
  have fS' : H1 S = some (.lst (intL [n0, n1])) := fS
  have fS2 := E2 _ _ (nin_box bx1 fS') fS
  have E02 := E1.trans E2
  refine seq_split (fun σ H' => ∃ Tl t0 t1, σ = [some (.ref p), some (.ref S), some (.int (u : Int)), some (.int (x : Int)), some (.ref Tl), none, none, none, none, none, none, none, none, none] ∧ Ext1 p H2 H' ∧ BoxAt H' p (N + 84) ∧ Wd T.C_Tree H' S Tl n0 n1 t0 t1) ?_ ?_
  · intro RR kR
    rw [e_asg]
    refine ⟨_, rfl, S, rfl, ⟨_, .of fS2⟩, fun D hD => ?_⟩
    have nDp := bx2.ne hD
    have nSp := nin_box bx1 fS'
    refine lc_it (walk_list (K := K) (a := S) (xs := [V.int ((n0 : Nat) : Int), V.int ((n1 : Nat) : Int)])) (fun i H' => ∃ ts : List Addr, ts.length = i ∧ Ext1 p H2 H' ∧ BoxAt H' p (N + 4 + 40 * i) ∧ H' D = some (.lst (ts.map V.ref)) ∧ ∀ (j : Nat) (t : Addr) (n : Nat), ts[j]? = some t → [n0, n1][j]? = some n → ∃ ps, TreeD T.C_Tree H' t n ps D)
      ⟨[], rfl, ext_new _ hD, bx2.off hD, upd_same, by simp⟩ (fun i H' _ ⟨_, _, Sx, _⟩ => .of (Sx _ _ nSp fS2)) ?_ ?_
    · rintro j z Ha Hb hj ⟨ts, lt, Ea, bxa, fD, tr⟩ ⟨rfl, hz⟩
      obtain ⟨n, rfl, hn, n1', n16⟩ : ∃ n : Nat, z = V.int (n : Int) ∧ [n0, n1][j]? = some n ∧ 1 ≤ n ∧ n ≤ 16 := by
        match j, hz with
        | 0, hz => cases hz; exact ⟨n0, rfl, rfl, bn0.1, bn0.2⟩
        | 1, hz => cases hz; exact ⟨n1, rfl, rfl, bn1.1, bn1.2⟩
        | j + 2, hz => cases hz
      have hj2 : j < 2 := hj
      refine ⟨rfl, ?_⟩
      rw [e_tyes, if_pos rfl]
      walk_at "rx"
      refine ⟨p, _, n, rfl, bxa, by omega, n1', n16, fun xt ps Hc Hd Ec Sd t nt bxd => ?_⟩
      have fDc := Ec _ _ nDp fD
      have fDd := Sd _ _ fDc
      have Ed : Ext1 p Hb Hd := Ec.trans (Same.ext1 Sd)
      have td : TreeD T.C_Tree Hd xt n ps D := TreeD.of t nt fDc
      have insts : ∀ v ∈ ts.map V.ref, ∃ b C dx fs, v = .ref b ∧ Hd b = some (.ins C dx fs) := by
        intro v hv
        obtain ⟨b0, hb0, rfl⟩ := List.mem_map.mp hv
        obtain ⟨k2, hk2⟩ := List.mem_iff_getElem?.mp hb0
        have lk := (List.getElem?_eq_some_iff.mp hk2).1
        obtain ⟨n', hn'⟩ : ∃ n', [n0, n1][k2]? = some n' := ⟨_, List.getElem?_eq_getElem (by simp; omega)⟩
        obtain ⟨ps', q⟩ := tr k2 b0 n' hk2 hn'
        obtain ⟨dx0, r0, xs0, a0, L0, bs0, g0, _⟩ := q.ext bxa Ed
        exact ⟨b0, _, _, _, rfl, g0⟩
      have pos : ∀ (j' n' : Nat), [n0, n1][j']? = some n' → 1 ≤ n' := fun j' n' h => by
        have := List.mem_of_getElem? h
        simp only [List.mem_cons, List.not_mem_nil, or_false] at this
        omega
      refine ⟨ts.map V.ref, fDd, by rw [List.length_map, sz]; omega, ts ++ [xt], by rw [List.length_append, lt]; rfl, fun b o nb hb => ?_, ?_, by rw [List.map_append]; rfl, ?_⟩
      · rw [upd_ne (ne_of_none hb hD)]
        exact Ed _ _ nb (Ea _ _ nb hb)
      · exact (BoxAt.keep (H' := Hd) bxd nDp).le (by omega)
      · intro j' t' n' ht hw'
        by_cases c : j' < ts.length
        · rw [List.getElem?_append_left c] at ht
          obtain ⟨ps', q⟩ := tr j' t' n' ht hw'
          exact ⟨ps', (q.ext bxa Ed).put (pos _ _ hw') fDd insts⟩
        · have l2 := (List.getElem?_eq_some_iff.mp ht).1
          rw [List.length_append] at l2
          simp only [List.length_cons, List.length_nil] at l2
          have ej : j' = ts.length := by omega
          subst ej
          rw [List.getElem?_concat_length] at ht
          cases ht
          rw [lt, hn] at hw'
          cases hw'
          exact ⟨ps, td.put n1' fDd insts⟩
    · rintro H' ⟨ts, lt, E', bx', fD, tr⟩
      match ts, lt, fD, tr with
      | [t0, t1], _, fD, tr =>
        obtain ⟨ps0, q0⟩ := tr 0 t0 n0 rfl rfl
        obtain ⟨ps1, q1⟩ := tr 1 t1 n1 rfl rfl
        exact kR _ _ ⟨D, t0, t1, rfl, E', bx', E' _ _ nSp fS2, fD, ⟨ps0, q0.tree⟩, ⟨ps1, q1.tree⟩, bn0, bn1⟩
  rintro σ H3 ⟨Tl, t0, t1, rfl, E3, bx3, wd⟩
  have E03 := E02.trans E3
  refine seq_split (fun σ H' => ∃ y5 y6 y7 y8 y9 y10 y11 y12, σ = [some (.ref p), some (.ref S), some (.int (u : Int)), some (.int (x : Int)), some (.ref Tl), y5, y6, y7, y8, y9, y10, y11, y12, none] ∧ Ext1 p H3 H' ∧ Wd T.C_Tree H' S Tl n0 n1 t0 t1) ?_ ?_
  · intro RR kR
    refine for_rngC (by decide) (by decide) (fun i σ H' => (∃ y5 y6 y7 y8 y9 y10 y11 y12, σ = [some (.ref p), some (.ref S), some (.int (u : Int)), some (.int (x : Int)), some (.ref Tl), y5, y6, y7, y8, y9, y10, y11, y12, none]) ∧ Ext1 p H3 H' ∧ BoxAt H' p (N + 84 + 500 * i) ∧ Wd T.C_Tree H' S Tl n0 n1 t0 t1) ⟨⟨_, _, _, _, _, _, _, _, rfl⟩, ext1_refl, bx3, wd⟩ ?_ ?_
    · rintro i σ Ha hi ⟨⟨y5, y6, y7, y8, y9, y10, y11, y12, rfl⟩, Ea, bxa, wda⟩
      have hi' : i < 14 := hi
      rw [e_gname]
      have km2 : ∀ c : Int, c = (i : Int) → ∃ j : Nat, j < 2 ∧ c.fmod 2 = (j : Int) := fun c e => ⟨i % 2, by omega, by
        rw [e, Int.fmod_eq_emod_of_nonneg _ (by decide)]
        omega⟩
      refine seq_split (fun σ H' => ∃ v d, σ = [some (.ref p), some (.ref S), some (.int (u : Int)), some (.int (x : Int)), some (.ref Tl), y5, some (.int (0 + (i : Int))), some v, y8, y9, y10, y11, y12, none] ∧ LetD d ∧ DV H' v d ∧ Ext1 p Ha H' ∧ BoxAt H' p (N + 84 + 500 * i + 320)) ?_ ?_
      · intro RR2 kR2
        walk_at "rx"
        obtain ⟨j, j2, fj⟩ := km2 (0 + (i : Int)) (by omega)
        rw [fj]
        obtain ⟨_, n, _, _, a2, _, n1', n16⟩ := wd_pick wda j2
        refine ⟨by decide, r_ixL (.of wda.sz) a2 ?_⟩
        exact ⟨p, _, n, rfl, bxa, by omega, n1', n16, fun v d Hb ld dv bxb Eb => kR2 _ _ ⟨v, d, rfl, ld, dv, Eb, bxb⟩⟩
      rintro σ Hb ⟨v, d, rfl, ld, dvb, Eb, bxb⟩
      have wdb := wda.ext bxa Eb
      obtain ⟨lkd, lw0, lp0⟩ := ld.lk
      refine seq_split (fun σ H' => ∃ V c1 c2 d1 d2 Hx, σ = [some (.ref p), some (.ref S), some (.int (u : Int)), some (.int (x : Int)), some (.ref Tl), y5, some (.int (0 + (i : Int))), some v, some (.ref V), y9, y10, y11, y12, none] ∧ Ext1 p Hb Hx ∧ Hx V = none ∧ DVp p Hx c1 d1 ∧ DVp p Hx c2 d2 ∧ OutD 5 d d1 ∧ OutD 5 d d2 ∧ Ext1 p Hx H' ∧ V ≠ sysModules ∧ V ≠ p ∧ BoxAt Hx p (N + 84 + 500 * i + 350) ∧ BoxAt H' p (N + 84 + 500 * i + 350) ∧ H' V = some (.lst [v, c1, c2])) ?_ ?_
      · intro RR2 kR2
        walk_at "rx"
        obtain ⟨j, j2, fj⟩ := km2 (0 + (i : Int)) (by omega)
        rw [fj]
        obtain ⟨_, n, _, _, a2, _, n1', n16⟩ := wd_pick wdb j2
        refine ⟨by decide, r_ixL (.of wdb.sz) a2 ?_⟩
        refine spC4 0 bxb (by omega) n16 (by decide) (by decide) lkd (by omega) (by omega) dvb fun c1 d1 Hc Ec bxc q1 o1 => ?_
        have wdc := wdb.ext bxb Ec
        have dvc := lk_t (extTN bxb Ec) lkd dvb
        refine ⟨by decide, r_ixL (.of wdc.sz) a2 ?_⟩
        refine spC4 0 bxc (by omega) n16 (by decide) (by decide) lkd (by omega) (by omega) dvc fun c2 d2 Hd Ed bxd q2 o2 => ?_
        refine ⟨by omega, fun V hV nsV => ?_⟩
        obtain ⟨He, eh, Se, fe⟩ := gen_new (.lst [v, c1, c2]) hV
        rw [eh]
        clear eh
        exact kR2 _ _ ⟨V, c1, c2, d1, d2, Hd, rfl, Ec.trans Ed, hV, q1.mono Ed, q2, o1, o2, Same.ext1 Se, nsV, bxd.ne hV, bxd.le (by omega), (bxd.mono Se).le (by omega), fe⟩
      rintro σ Hc ⟨V, c1, c2, d1, d2, Hx, rfl, Ebx, hVx, q1, q2, o1, o2, Exc, nsV, nVp, bxx, bxc, fV⟩
      have Ebc := Ebx.trans Exc
      have wdc := wdb.ext bxb Ebc
      have dvc := lk_t (extTN bxb Ebc) lkd dvb
      refine seq_split (fun σ H' => ∃ tw dt, σ = [some (.ref p), some (.ref S), some (.int (u : Int)), some (.int (x : Int)), some (.ref Tl), y5, some (.int (0 + (i : Int))), some v, some (.ref V), y9, y10, y11, y12, none] ∧ Ext1 p Hx H' ∧ DV H' tw dt ∧ Lk 10 dt ∧ dt.weight ≤ 5000 ∧ dt.depth ≤ 8 ∧ BoxAt H' p (N + 84 + 500 * i + 352) ∧ H' V = some (.lst [v, c1, c2, tw])) ?_ ?_
      · intro RR2 kR2
        walk_at "rx"
        refine ⟨.inl ⟨rfl, _, .of fV⟩, p, _, v, d, rfl, bxc, by omega, ld, dvc, fun tw dt Hd Ed bxd qd lkt wt pt => ?_⟩
        have fVd := Ed _ _ nVp fV
        refine ⟨V, _, _, rfl, rfl, fVd, by simp; omega, kR2 _ _ ⟨tw, dt, rfl, fun b o nb hb => ?_, lk_t (sameT_lstN fVd) lkt qd, lkt, wt, pt, (BoxAt.keep (H' := Hd) bxd nVp).le (by omega), upd_same⟩⟩
        rw [upd_ne (ne_of_none hb hVx)]
        exact Ed _ _ nb (Exc _ _ nb hb)
      rintro σ Hd ⟨tw, dt, rfl, Exd, dvt, lkt, wt, pt, bxd, fVd⟩
      have Ebd := Ebx.trans Exd
      have wdd := wdb.ext bxb Ebd
      have dvd := lk_t (extTN bxb Ebd) lkd dvb
      obtain ⟨z, ti, hh, ui, tl, rfl, za, z5, ⟨ti0, ti1⟩, ⟨hh0, hh1⟩, ⟨ui0, ui1⟩, tok⟩ := ld.ex
      have lke : Lk 5 (.tuple [.int ti, .int hh, .int ui]) := by
        cases lkd with
        | tup _ a => exact a _ (by simp)
      have we : (PyData.tuple [.int ti, .int hh, .int ui]).weight ≤ 1600 := by
        simp only [weight_tup, PyData.weightAll] at lw0 ⊢
        omega
      have pe : (PyData.tuple [.int ti, .int hh, .int ui]).depth ≤ 1 := by simp [PyData.depth, PyData.depthAll]
      refine seq_split (fun σ H' => ∃ Er w0 ce de, σ = [some (.ref p), some (.ref S), some (.int (u : Int)), some (.int (x : Int)), some (.ref Tl), y5, some (.int (0 + (i : Int))), some v, some (.ref V), some (.ref Er), y10, y11, y12, none] ∧ Ext1 p Hd H' ∧ Er ≠ sysModules ∧ DV H' w0 (.tuple [.int ti, .int hh, .int ui]) ∧ DV H' ce de ∧ OutD 5 (.tuple [.int ti, .int hh, .int ui]) de ∧ BoxAt H' p (N + 84 + 500 * i + 370) ∧ H' Er = some (.lst [w0, ce])) ?_ ?_
      · intro RR2 kR2
        walk_at "rx"
        obtain ⟨j, j2, fj⟩ := km2 (0 + (i : Int)) (by omega)
        rw [fj]
        obtain ⟨_, n, _, _, a2, _, n1', n16⟩ := wd_pick wdd j2
        cases dvd with
        | @tup tv vxs _ ftv rv =>
          obtain ⟨x0, w0, xr, rfl, _, qw, _⟩ := dvs_two rv
          refine r_ixT (.inl (.inl ftv)) (Nv.at1 rfl) (r_ixT (.inl (.inl ftv)) (Nv.at1 rfl) ⟨by decide, r_ixL (.of wdd.sz) a2 ?_⟩)
          refine spC4 2 bxd (by omega) n16 (by decide) (by decide) lke (by omega) (by omega) qw fun ce de He Ee bxe qe oe => ?_
          refine ⟨by omega, fun Er hEr nsE => ?_⟩
          obtain ⟨Hf, eh, Sf, ff⟩ := gen_new (.lst [w0, ce]) hEr
          rw [eh]
          clear eh
          exact kR2 _ _ ⟨Er, w0, ce, de, rfl, Ee.trans (Same.ext1 Sf), nsE, (lk_t (extTN bxd Ee) lke qw).mono Sf, qe.dv.mono Sf, oe, (bxe.mono Sf).le (by omega), ff⟩
      rintro σ He ⟨Er, w0, ce, de, rfl, Ede, nsE, dvw, dvce, oe, bxe, fE⟩
      have Exe := Exd.trans Ede
      have Ebe := Ebx.trans Exe
      have wde := wdb.ext bxb Ebe
      have fVe := Ede _ _ nVp fVd
      have dve := lk_t (extTN bxb Ebe) lkd dvb
      have dvte := lk_t (extTN bxd Ede) lkt dvt
      have dds : DVs He [v, c1, c2, tw] [_, d1, d2, dt] := .cons dve (.cons (q1 _ Exe) (.cons (q2 _ Exe) (.cons dvte .nil)))
      have des : DVs He [w0, ce] [_, de] := .cons dvw (.cons dvce .nil)
      have k0 : Ok 20 (.tuple (.str z :: .tuple [.int ti, .int hh, .int ui] :: tl)) := lkd.ok (by decide)
      have k1 : Ok 20 d1 := o1.ok.le (by decide)
      have k2 : Ok 20 d2 := o2.ok.le (by decide)
      have k3 : Ok 20 dt := lkt.ok (by decide)
      have k4 : Ok 20 (.tuple [.int ti, .int hh, .int ui]) := lke.ok (by decide)
      have k5 : Ok 20 de := oe.ok.le (by decide)
      have w1 := o1.w
      have w2 := o2.w
      have w5 := oe.w
      have p1 := o1.p
      have p2 := o2.p
      have p5 := oe.p
      have ftv := Ft.list (.cons (k0.ft (W := 1600) (D := 10) lw0 (by omega)) (.cons (k1.ft (W := 3400) (D := 10) (by omega) (by omega)) (.cons (k2.ft (W := 3400) (D := 10) (by omega) (by omega)) (.cons (k3.ft (W := 5000) (D := 10) wt (by omega)) .nil (W2 := 0)))))
      have fte := Ft.list (.cons (k4.ft (W := 1600) (D := 10) we (by omega)) (.cons (k5.ft (W := 3400) (D := 10) (by omega) (by omega)) .nil (W2 := 0)))
      have ftk := Ft.list (.cons ftv (.cons fte .nil (W2 := 0)))
      have gd : ∀ {y : L2.V} {dy : PyData}, DV He y dy → Ok 20 dy → dy.weight ≤ 5000 → ∃ d, XV K T.C_Tree He y d ∧ szX d = true := fun {y dy} q o w => ⟨xd dy, xv_of q, o.sz (by decide) (by omega)⟩
      have gv : ∀ y ∈ [v, c1, c2, tw], ∃ d, XV K T.C_Tree He y d ∧ szX d = true := by
        intro y hy
        simp only [List.mem_cons, List.not_mem_nil, or_false] at hy
        rcases hy with rfl | rfl | rfl | rfl
        · exact gd dve k0 (by omega)
        · exact gd (q1 _ Exe) k1 (by omega)
        · exact gd (q2 _ Exe) k2 (by omega)
        · exact gd dvte k3 (by omega)
      have gE : ∀ y ∈ [w0, ce], ∃ d, XV K T.C_Tree He y d ∧ szX d = true := by
        intro y hy
        simp only [List.mem_cons, List.not_mem_nil, or_false] at hy
        rcases hy with rfl | rfl
        · exact gd dvw k4 (by omega)
        · exact gd dvce k5 (by omega)
      have dvV : DV He (.ref V) (.list [_, d1, d2, dt]) := .lst fVe nsV dds
      have dvE : DV He (.ref Er) (.list [_, de]) := .lst fE nsE des
      have u12 : ∀ j : Int, (j = (u : Int) ∨ j = 1 - (u : Int)) → ∃ m : Nat, m < 2 ∧ j = (m : Int) := fun j hj => ⟨j.toNat, by omega, by omega⟩
      refine seq_split (fun σ H' => σ = [some (.ref p), some (.ref S), some (.int (u : Int)), some (.int (x : Int)), some (.ref Tl), y5, some (.int (0 + (i : Int))), some v, some (.ref V), some (.ref Er), some (.str (PyData.list [.list [.tuple (.str z :: .tuple [.int ti, .int hh, .int ui] :: tl), d1, d2, dt], .list [.tuple [.int ti, .int hh, .int ui], de]]).shown), y11, y12, none] ∧ Same He H') ?_ ?_
      · intro RR2 kR2
        walk_at "rx"
        refine ⟨by omega, fun L hL nsL => ?_⟩
        obtain ⟨Hf, eh, Sf, ff⟩ := gen_new (.lst [.ref V, .ref Er]) hL
        rw [eh]
        clear eh
        exact r_reprA (.lst ff nsL (.cons (dvV.mono Sf) (.cons (dvE.mono Sf) .nil))) ftk.s (by omega) (by omega) (kR2 _ _ ⟨rfl, Sf⟩)
      rintro σ Hf ⟨rfl, Sf⟩
      refine seq_split (fun σ H' => (∃ z11 z12, σ = [some (.ref p), some (.ref S), some (.int (u : Int)), some (.int (x : Int)), some (.ref Tl), y5, some (.int (0 + (i : Int))), some v, some (.ref V), some (.ref Er), some (.str (PyData.list [.list [.tuple (.str z :: .tuple [.int ti, .int hh, .int ui] :: tl), d1, d2, dt], .list [.tuple [.int ti, .int hh, .int ui], de]]).shown), z11, z12, none]) ∧ Same Hf H') ?_ ?_
      · intro RR2 kR2
        refine for_vals (K := K) rfl (Sf _ _ fVe) (fun σ => ∃ z11 z12, σ = [some (.ref p), some (.ref S), some (.int (u : Int)), some (.int (x : Int)), some (.ref Tl), y5, some (.int (0 + (i : Int))), some v, some (.ref V), some (.ref Er), some (.str (PyData.list [.list [.tuple (.str z :: .tuple [.int ti, .int hh, .int ui] :: tl), d1, d2, dt], .list [.tuple [.int ti, .int hh, .int ui], de]]).shown), z11, z12, none]) ⟨_, _, rfl⟩ ?_ fun σ1 H1 q1 q2 => kR2 _ _ ⟨q1, q2⟩
        rintro y hy σ1 H1 ⟨z11, z12, rfl⟩ S1 N1 kN
        obtain ⟨dy, xv, zd⟩ := gv y hy
        rw [e_gname]
        refine for_turns (K := K) rfl (fun σ => ∃ z12, σ = [some (.ref p), some (.ref S), some (.int (u : Int)), some (.int (x : Int)), some (.ref Tl), y5, some (.int (0 + (i : Int))), some v, some (.ref V), some (.ref Er), some (.str (PyData.list [.list [.tuple (.str z :: .tuple [.int ti, .int hh, .int ui] :: tl), d1, d2, dt], .list [.tuple [.int ti, .int hh, .int ui], de]]).shown), some y, z12, none]) ⟨_, rfl⟩ ?_ fun σ2 H2 ⟨z12, e⟩ q2 => kN _ _ ⟨_, _, e⟩ q2
        rintro j hj σ2 H2 ⟨z12, rfl⟩ S2 N2 kN2
        obtain ⟨m, m2, rfl⟩ := u12 j hj
        have Sx := Sf.trans (S1.trans S2)
        have wdx := wde.mono Sx
        walk_at "rx"
        obtain ⟨t, n, ps, a1, a2, ta, n1', n16⟩ := wd_pick wdx m2
        refine r_ixL (.of wdx.tr) a1 (r_ixL (.of wdx.sz) a2 ?_)
        refine ⟨by decide, t, n, ps, y, dy, _, rfl, ta, xv.mono Sx, zd, fun H5 S5 => ⟨true, rfl, ?_⟩⟩
        rw [if_neg (by decide)]
        exact kN2 _ _ ⟨_, rfl⟩ S5
      rintro σ Hg ⟨⟨z11, z12, rfl⟩, Sg⟩
      have Seg := Sf.trans Sg
      refine seq_split (fun σ H' => (∃ z11, σ = [some (.ref p), some (.ref S), some (.int (u : Int)), some (.int (x : Int)), some (.ref Tl), y5, some (.int (0 + (i : Int))), some v, some (.ref V), some (.ref Er), some (.str (PyData.list [.list [.tuple (.str z :: .tuple [.int ti, .int hh, .int ui] :: tl), d1, d2, dt], .list [.tuple [.int ti, .int hh, .int ui], de]]).shown), z11, z12, none]) ∧ Same Hg H') ?_ ?_
      · intro RR2 kR2
        refine for_vals (K := K) rfl (Seg _ _ fE) (fun σ => ∃ z11, σ = [some (.ref p), some (.ref S), some (.int (u : Int)), some (.int (x : Int)), some (.ref Tl), y5, some (.int (0 + (i : Int))), some v, some (.ref V), some (.ref Er), some (.str (PyData.list [.list [.tuple (.str z :: .tuple [.int ti, .int hh, .int ui] :: tl), d1, d2, dt], .list [.tuple [.int ti, .int hh, .int ui], de]]).shown), z11, z12, none]) ⟨_, rfl⟩ ?_ fun σ1 H1 q1 q2 => kR2 _ _ ⟨q1, q2⟩
        rintro y hy σ1 H1 ⟨z11, rfl⟩ S1 N1 kN
        obtain ⟨dy, xv, zd⟩ := gE y hy
        have Sx := Seg.trans S1
        have wdx := wde.mono Sx
        walk_at "rx"
        refine ⟨by decide, y, dy, _, rfl, xv.mono Sx, fun H5 S5 => ⟨true, rfl, ?_⟩⟩
        rw [if_neg (by decide)]
        have wdy := wdx.mono S5
        obtain ⟨t, n, ps, a1, a2, ta, n1', n16⟩ := wd_pick wdy u2
        refine r_ixL (.of wdy.tr) a1 (r_ixL (.of wdy.sz) a2 ?_)
        refine ⟨t, n, ps, y, dy, _, rfl, ta, xv.mono (Sx.trans S5), zd, fun H6 S6 => ⟨true, rfl, ?_⟩⟩
        rw [if_neg (by decide)]
        exact kN _ _ ⟨_, rfl⟩ (S5.trans S6)
      rintro σ Hh ⟨⟨z11, rfl⟩, Sh⟩
      have Seh := Seg.trans Sh
      have wdh := wde.mono Seh
      walk_at "rx"
      obtain ⟨m, m2, em⟩ := u12 (1 - (u : Int)) (.inr rfl)
      rw [em]
      obtain ⟨t, n, ps, a1, a2, ta, n1', n16⟩ := wd_pick wdh m2
      refine r_ixL (.of wdh.tr) a1 (r_ixL (.of wdh.sz) a2 ?_)
      refine ⟨t, n, ps, v, _, _, rfl, ta, (xv_of dve).mono Seh, k0.sz (by decide) (by omega), fun Hj Sj => ⟨true, rfl, ?_⟩⟩
      rw [if_neg (by decide)]
      refine ⟨by omega, fun L hL nsL => ?_⟩
      obtain ⟨Hl, eh, Sl, fl⟩ := gen_new (.lst [.ref V, .ref Er]) hL
      rw [eh]
      clear eh
      have Sel := Seh.trans (Sj.trans Sl)
      refine r_reprA (.lst fl nsL (.cons (dvV.mono Sel) (.cons (dvE.mono Sel) .nil))) ftk.s (by omega) (by omega) ⟨rfl, ?_⟩
      rw [if_neg (by simp)]
      exact ⟨⟨_, rfl⟩, Ea.trans (Eb.trans (Ebe.trans (Same.ext1 Sel))), (bxe.mono Sel).le (by omega), wde.mono Sel⟩
    · rintro σ Ha ⟨⟨y5, y6, y7, y8, y9, y10, y11, y12, rfl⟩, Ea, bxa, wda⟩
      exact kR _ _ ⟨_, _, _, _, _, _, _, _, rfl, Ea, wda⟩
  rintro σ H4 ⟨y5, y6, y7, y8, y9, y10, y11, y12, rfl, E4, wd4⟩
  have E04 := E03.trans E4
  obtain ⟨ps0, tr0⟩ := wd4.t0
  obtain ⟨dx0, r0, xs0, a0, L0, ft0, _⟩ := id tr0
  refine seq_split (fun σ H' => ∃ l ws, σ = [some (.ref p), some (.ref S), some (.int (u : Int)), some (.int (x : Int)), some (.ref Tl), y5, y6, y7, y8, y9, y10, y11, y12, some (.ref l)] ∧ Same H4 H' ∧ H' l = some (.lst ws) ∧ ws.length = 27 ∧ ∀ v ∈ ws, Gd8 K T.C_Tree H' v) ?_ ?_
  · intro RR kR
    rw [e_asg]
    walk_at "rx"
    refine r_ixL (.of wd4.tr) (at0 rfl) ⟨by omega, fun te hte => ?_⟩
    obtain ⟨H5, eh, S5, f5⟩ := gen_new (.tup [V.int 1, V.int 0, V.int 1]) hte
    rw [eh]
    clear eh
    exact ⟨t0, te, dx0, _, 1, 0, 1, rfl, S5 _ _ ft0, f5, fun l ws H6 S6 f6 l6 g6 => kR _ _ ⟨l, ws, rfl, S5.trans S6, f6, l6, g6⟩⟩
  rintro σ H5 ⟨l, ws, rfl, S5, fl, lw, gw⟩
  have wd5 := wd4.mono S5
  have E05 := E04.trans (Same.ext1 S5)
  walk_at "rx"
  unfold tFor iList
  dsimp only
  refine ⟨12, rfl, by decide, by decide, fun D hD => ?_⟩
  refine lc_flat walk_range ((List.range 12).map fun j => ws.getD ((x + 5 * j) % 27) .non) hD (by simp) (by rw [sz]; decide) (fun _ _ => trivial) ?_ ?_
  · rintro j z y Ha Hb R hy Sa ⟨rfl, rfl⟩ kQ
    refine ⟨rfl, ?_⟩
    have hj : j < 12 := by
      have := (List.getElem?_eq_some_iff.mp hy).1
      simpa using this
    rw [List.getElem?_map, List.getElem?_range hj] at hy
    cases hy
    walk_at "rx"
    have la : (x + 5 * j) % 27 < ws.length := by omega
    have fm : ((x : Int) + 5 * (0 + (j : Int))).fmod (ws.length : Int) = (((x + 5 * j) % 27 : Nat) : Int) := by
      rw [lw, Int.fmod_eq_emod_of_nonneg _ (by decide)]
      omega
    refine ⟨.inl ⟨by decide, by decide⟩, ws, .inl (.of (Sa _ _ fl)), by omega, ?_⟩
    rw [fm]
    refine r_ixL (v := ws.getD ((x + 5 * j) % 27) .non) (.of (Sa _ _ fl)) (atI_nat (by rw [List.getD_eq_getElem?_getD, List.getElem?_eq_getElem la]; rfl)) ?_
    exact kQ _ (Same.refl _)
  · intro H6 S6 f6
    refine ⟨D, rfl, ⟨_, .of f6⟩, ?_⟩
    generalize hys : (List.range 12).map (fun j => ws.getD ((x + 5 * j) % 27) .non) = ys at f6
    have mem : ∀ y ∈ ys, y ∈ ws := by
      rw [← hys]
      intro y hy
      obtain ⟨j, _, rfl⟩ := List.mem_map.mp hy
      have la : (x + 5 * j) % 27 < ws.length := by omega
      rw [List.getD_eq_getElem?_getD, List.getElem?_eq_getElem la]
      exact List.getElem_mem la
    have E06 := E05.trans (Same.ext1 S6)
    have wd6 := wd5.mono S6
    refine for_list (K := K) (a := D) (xs := ys) (D := { nx := tRet (tC (V.bl true)) { nx := fun x H' => Q V.non H', rt := Q }, rt := Q }) (fun i σ H' => (∃ z5 z6 z11, σ = [some (.ref p), some (.ref S), some (.int (u : Int)), some (.int (x : Int)), some (.ref Tl), z5, z6, y7, y8, y9, y10, z11, y12, some (.ref l)]) ∧ Same H6 H') ⟨⟨_, _, _, rfl⟩, Same.refl H6⟩ (fun i σ H' _ ⟨_, Sx⟩ => .of (Sx _ _ f6)) ?_ ?_
    · rintro i y σ Ha hy ⟨⟨z5, z6, z11, rfl⟩, Sa⟩
      have gy := (gw y (mem y (List.mem_of_getElem? hy))).mono (S6.trans Sa)
      obtain ⟨d, xv, zd⟩ := gy
      have wda := wd6.mono Sa
      walk_at "rx"
      obtain ⟨t, n, ps, a1, a2, ta, n1', n16⟩ := wd_pick wda u2
      refine r_ixL (.of wda.tr) a1 (r_ixL (.of wda.sz) a2 ⟨t, n, ps, y, d, _, rfl, ta, xv, zd, fun Hb Sb => ⟨true, rfl, ?_⟩⟩)
      rw [if_neg (by decide)]
      refine ⟨y, d, _, rfl, xv.mono Sb, fun Hc Sc => ⟨true, rfl, ?_⟩⟩
      rw [if_neg (by decide)]
      exact ⟨⟨_, rfl⟩, Sa.trans (Sb.trans Sc)⟩
    · rintro σ Ha ⟨⟨z5, z6, z11, rfl⟩, Sa⟩
      walk_at "rx"
      exact k Ha (E06.trans (Same.ext1 Sa))
end
end K32



namespace K32
open PySem L2 Nv Gr

def spLaw (K : PySem.W.Frag) : Sp := fun vs H Q _ => ∃ (a : Addr) (ns : List Int), vs = [.ref a] ∧ SqL K H a (ns.map V.int) ∧ ns.length ≤ 63 ∧ ∀ H', Q (.bl true) H'
section
variable {P : Program} {w : World} {K : PySem.W.Frag} {mg : Str → Option Value} {base : Heap}
theorem ok_law (T : Tx K mg w.params) : FnG P w K mg base 11 T.d_law.f T.d_law.fd ["_law_script"] (spLaw K) := by
  refine okG0 T.d_law.F sc_law (fun vs H Q E h => ?_) (fun cdv A outer s H vs Q E hg hr h => ?_)
  · obtain ⟨a, ns, rfl, _⟩ := h
    rfl
  obtain ⟨a, ns, rfl, ha, hn, k⟩ := h
  have sz : sizeLine = 16777216 := sizeLine_eq
  refine ⟨_, (pss_cons (ps_for PassesOwn.never rfl (pi_range1 (by rfl) T.n_range (pa_cons (pe_callB (call_max2 rfl) (by rfl) T.n_max (by decide +kernel) (pa_cons pe_int (pa_cons (pe_callB (call_min2 rfl) (by rfl) T.n_min (by decide +kernel) (pa_cons pe_int (pa_cons (pe_callB call_len_seq (by rfl) T.n_len (by decide +kernel) (pa_cons (pv 0) pa_nil)) pa_nil))) pa_nil))) pa_nil)) (pg_name (i := 1) sc_law.nd rfl (Or.inl rfl))
      (pss_one (ps_if (pt_not (pt_val (pe_cG (ok_l_right T) T.d_l_right.b takes0 hg (hr.mono (by decide)) T.d_l_right.m T.d_l_right.F.kp (pa_cons (pe_cG (ok_l_box T) T.d_l_box.b takes0 hg (hr.mono (by decide)) T.d_l_box.m T.d_l_box.F.kp (pa_cons (pe_cG (ok_l_cell T) T.d_l_cell.b takes0 hg (hr.mono (by decide)) T.d_l_cell.m T.d_l_cell.F.kp (pa_cons (pv 0) (pa_cons (pv 1) pa_nil))) pa_nil)) pa_nil))))
        (pss_one (ps_ret pe_bl))
        pss_nil)))
    (pss_one (ps_ret pe_bl))), ?_⟩
  walk_at "rx"
  have lo : ∀ x : Int, 0 ≤ (if (if x < 3 then x else 3) > 1 then (if x < 3 then x else 3) else 1) ∧ (if (if x < 3 then x else 3) > 1 then (if x < 3 then x else 3) else 1) ≤ 3 := fun x => by
    split <;> split <;> omega
  have lo1 := lo ((ns.map V.int).length : Int)
  refine ⟨_, rfl, _, rfl, _, .inl ha, _, _, rfl, _, _, rfl, _, rfl, Int.le_trans (by decide) lo1.1, Int.lt_of_le_of_lt lo1.2 (by decide), ?_⟩
  refine for_range (D := { nx := tRet (tC (V.bl true)) { nx := fun x H' => Q V.non H', rt := Q }, rt := Q }) (fun i σ H' => Same H H' ∧ ∃ y1, σ = [some (.ref a), y1]) ⟨Same.refl H, _, rfl⟩ ?_ ?_
  · rintro i σ H1 hi ⟨S, y1, rfl⟩
    have hi' : i < 3 := by
      have h2 := lo1.2
      have h1 := lo1.1
      have h3 : i < (if (if ((ns.map V.int).length : Int) < 3 then ((ns.map V.int).length : Int) else 3) > 1 then (if ((ns.map V.int).length : Int) < 3 then ((ns.map V.int).length : Int) else 3) else 1).toNat := hi
      omega
    walk_at "rx"
    refine ⟨a, ns, _, rfl, L2.Same.seq S ha, by omega, by omega, fun c H2 S2 => ⟨c, rfl, fun p H3 hp S3 b3 => ⟨p, 0, rfl, b3, by decide, fun H4 E4 => ⟨true, rfl, ?_⟩⟩⟩⟩
    rw [if_neg (by decide)]
    exact ⟨fun b o hb => E4 _ _ (ne_of_none (S2 _ _ (S _ _ hb)) hp) (S3 _ _ (S2 _ _ (S _ _ hb))), _, rfl⟩
  · rintro σ H1 ⟨S, y1, rfl⟩
    walk_at "rx"
    exact k H1
end
end K32

namespace K32
open PySem PySem.W PyProof.Rows L2 Nv
theorem all_mk {P : Program} {w : World} {K : PySem.W.Frag} {h : Heap} {mg : Str → Option Value} {fa : Addr} (X : K.In h) (G : h.Ns mainGlobals mg) (hfa : mg "law" = some (.ref fa))
    {C_UnsaidError : Addr} {C_InvalidHouses : Addr} {q_E_InvalidHouses : Str} {N_E_InvalidHouses : Addr} {bs_E_InvalidHouses sub_E_InvalidHouses : List Value} {sn_E_InvalidHouses : List Str} {ab_E_InvalidHouses : Bool} {col_E_InvalidHouses : Option Bool} {dd_E_InvalidHouses : Option Addr} {k0_E_InvalidHouses k1_E_InvalidHouses k2_E_InvalidHouses k3_E_InvalidHouses k5_E_InvalidHouses : Option Value} {oc_x_InvalidHouses : Value} {kV_x_InvalidHouses : Value} {dc_x_InvalidHouses : Value} {pm_x_InvalidHouses : Value} {cd_x_InvalidHouses : Value} {ct_x_InvalidHouses : Value} {od_x_InvalidHouses an_x_InvalidHouses : Option Addr} {sl_x_InvalidHouses : Array (Option Value)} {f_x_InvalidHouses : Addr} {C_InvalidRoads : Addr} {q_E_InvalidRoads : Str} {N_E_InvalidRoads : Addr} {bs_E_InvalidRoads sub_E_InvalidRoads : List Value} {sn_E_InvalidRoads : List Str} {ab_E_InvalidRoads : Bool} {col_E_InvalidRoads : Option Bool} {dd_E_InvalidRoads : Option Addr} {k0_E_InvalidRoads k1_E_InvalidRoads k2_E_InvalidRoads k3_E_InvalidRoads k5_E_InvalidRoads : Option Value} {oc_x_InvalidRoads : Value} {kV_x_InvalidRoads : Value} {dc_x_InvalidRoads : Value} {pm_x_InvalidRoads : Value} {cd_x_InvalidRoads : Value} {ct_x_InvalidRoads : Value} {od_x_InvalidRoads an_x_InvalidRoads : Option Addr} {sl_x_InvalidRoads : Array (Option Value)} {f_x_InvalidRoads : Addr} {C_NotJoined : Addr} {q_E_NotJoined : Str} {N_E_NotJoined : Addr} {bs_E_NotJoined sub_E_NotJoined : List Value} {sn_E_NotJoined : List Str} {ab_E_NotJoined : Bool} {col_E_NotJoined : Option Bool} {dd_E_NotJoined : Option Addr} {k0_E_NotJoined k1_E_NotJoined k2_E_NotJoined k3_E_NotJoined k5_E_NotJoined : Option Value} {oc_x_NotJoined : Value} {kV_x_NotJoined : Value} {dc_x_NotJoined : Value} {pm_x_NotJoined : Value} {cd_x_NotJoined : Value} {ct_x_NotJoined : Value} {od_x_NotJoined an_x_NotJoined : Option Addr} {sl_x_NotJoined : Array (Option Value)} {f_x_NotJoined : Addr} {nm_u_UnsaidError q_u_UnsaidError : Str} {N_u_UnsaidError : Addr} {bs_u_UnsaidError sub_u_UnsaidError : List Value} {sn_u_UnsaidError : List Str} {ab_u_UnsaidError : Bool} {col_u_UnsaidError : Option Bool} {dd_u_UnsaidError : Option Addr} {k0_u_UnsaidError k1_u_UnsaidError k2_u_UnsaidError k3_u_UnsaidError k5_u_UnsaidError : Option Value} {t_MOST_HOUSES : Tok} {t_MOST_LETTERS : Tok} {t_MOST_SIGNS : Tok} {C_FORMS : Addr} {A_FORMS_halt : Addr} {A_FORMS_held : Addr} {A_FORMS_sure : Addr} {A_FORMS_still : Addr} {A_FORMS_elder : Addr} {A_FORMS_take : Addr} {A_FORMS_taken : Addr} {A_FORMS_have : Addr} {A_FORMS_lines : Addr} {es_w_FORMS : Array DictEntry} {n_w_FORMS : Nat} {t_w_FORMS_0 t_w_FORMS_1 t_w_FORMS_2 t_w_FORMS_3 t_w_FORMS_4 t_w_FORMS_5 t_w_FORMS_6 t_w_FORMS_7 t_w_FORMS_8 : Tok} {o_q_FORMS_halt : Obj} {n_q_FORMS_halt : Nat} {o_q_FORMS_held : Obj} {n_q_FORMS_held : Nat} {t_q_FORMS_held_0 t_q_FORMS_held_1 t_q_FORMS_held_2 : Tok} {o_q_FORMS_sure : Obj} {n_q_FORMS_sure : Nat} {o_q_FORMS_still : Obj} {n_q_FORMS_still : Nat} {t_q_FORMS_still_0 t_q_FORMS_still_1 : Tok} {o_q_FORMS_elder : Obj} {n_q_FORMS_elder : Nat} {o_q_FORMS_take : Obj} {n_q_FORMS_take : Nat} {t_q_FORMS_take_0 t_q_FORMS_take_1 t_q_FORMS_take_2 : Tok} {o_q_FORMS_taken : Obj} {n_q_FORMS_taken : Nat} {t_q_FORMS_taken_0 : Tok} {o_q_FORMS_have : Obj} {n_q_FORMS_have : Nat} {t_q_FORMS_have_0 t_q_FORMS_have_1 : Tok} {o_q_FORMS_lines : Obj} {n_q_FORMS_lines : Nat} {t_q_FORMS_lines_0 t_q_FORMS_lines_1 t_q_FORMS_lines_2 : Tok} {C_Tree : Addr} {oc_d_is_int : Value} {kV_d_is_int : Value} {dc_d_is_int : Value} {pm_d_is_int : Value} {cd_d_is_int : Value} {ct_d_is_int : Value} {od_d_is_int an_d_is_int : Option Addr} {sl_d_is_int : Array (Option Value)} {f_d_is_int : Addr} {oc_d_is_count : Value} {kV_d_is_count : Value} {dc_d_is_count : Value} {pm_d_is_count : Value} {cd_d_is_count : Value} {ct_d_is_count : Value} {od_d_is_count an_d_is_count : Option Addr} {sl_d_is_count : Array (Option Value)} {f_d_is_count : Addr} {oc_d_is_life : Value} {kV_d_is_life : Value} {dc_d_is_life : Value} {pm_d_is_life : Value} {cd_d_is_life : Value} {ct_d_is_life : Value} {od_d_is_life an_d_is_life : Option Addr} {sl_d_is_life : Array (Option Value)} {f_d_is_life : Addr} {oc_d_is_list : Value} {kV_d_is_list : Value} {dc_d_is_list : Value} {pm_d_is_list : Value} {cd_d_is_list : Value} {ct_d_is_list : Value} {od_d_is_list an_d_is_list : Option Addr} {sl_d_is_list : Array (Option Value)} {f_d_is_list : Addr} {oc_d_is_signs : Value} {kV_d_is_signs : Value} {dc_d_is_signs : Value} {pm_d_is_signs : Value} {cd_d_is_signs : Value} {ct_d_is_signs : Value} {od_d_is_signs an_d_is_signs : Option Addr} {sl_d_is_signs : Array (Option Value)} {f_d_is_signs : Addr} {oc_d_is_cell : Value} {kV_d_is_cell : Value} {dc_d_is_cell : Value} {pm_d_is_cell : Value} {cd_d_is_cell : Value} {ct_d_is_cell : Value} {od_d_is_cell an_d_is_cell : Option Addr} {sl_d_is_cell : Array (Option Value)} {f_d_is_cell : Addr} {oc_d_is_text : Value} {kV_d_is_text : Value} {dc_d_is_text : Value} {pm_d_is_text : Value} {cd_d_is_text : Value} {ct_d_is_text : Value} {od_d_is_text an_d_is_text : Option Addr} {sl_d_is_text : Array (Option Value)} {f_d_is_text : Addr} {oc_d_is_line : Value} {kV_d_is_line : Value} {dc_d_is_line : Value} {pm_d_is_line : Value} {cd_d_is_line : Value} {ct_d_is_line : Value} {od_d_is_line an_d_is_line : Option Addr} {sl_d_is_line : Array (Option Value)} {f_d_is_line : Addr} {oc_d_Tree_init : Value} {kV_d_Tree_init : Value} {dc_d_Tree_init : Value} {pm_d_Tree_init : Value} {cd_d_Tree_init : Value} {ct_d_Tree_init : Value} {od_d_Tree_init an_d_Tree_init : Option Addr} {sl_d_Tree_init : Array (Option Value)} {f_d_Tree_init : Addr} {oc_d_Tree___contains__ : Value} {kV_d_Tree___contains__ : Value} {dc_d_Tree___contains__ : Value} {pm_d_Tree___contains__ : Value} {cd_d_Tree___contains__ : Value} {ct_d_Tree___contains__ : Value} {od_d_Tree___contains__ an_d_Tree___contains__ : Option Addr} {sl_d_Tree___contains__ : Array (Option Value)} {f_d_Tree___contains__ : Addr} {oc_d_are_roads : Value} {kV_d_are_roads : Value} {dc_d_are_roads : Value} {pm_d_are_roads : Value} {cd_d_are_roads : Value} {ct_d_are_roads : Value} {od_d_are_roads an_d_are_roads : Option Addr} {sl_d_are_roads : Array (Option Value)} {f_d_are_roads : Addr} {oc_d_is_road : Value} {kV_d_is_road : Value} {dc_d_is_road : Value} {pm_d_is_road : Value} {cd_d_is_road : Value} {ct_d_is_road : Value} {od_d_is_road an_d_is_road : Option Addr} {sl_d_is_road : Array (Option Value)} {f_d_is_road : Addr} {oc_d_near : Value} {kV_d_near : Value} {dc_d_near : Value} {pm_d_near : Value} {cd_d_near : Value} {ct_d_near : Value} {od_d_near an_d_near : Option Addr} {sl_d_near : Array (Option Value)} {f_d_near : Addr} {oc_d_steps_to : Value} {kV_d_steps_to : Value} {dc_d_steps_to : Value} {pm_d_steps_to : Value} {cd_d_steps_to : Value} {ct_d_steps_to : Value} {od_d_steps_to an_d_steps_to : Option Addr} {sl_d_steps_to : Array (Option Value)} {f_d_steps_to : Addr} {oc_d_are_lines : Value} {kV_d_are_lines : Value} {dc_d_are_lines : Value} {pm_d_are_lines : Value} {cd_d_are_lines : Value} {ct_d_are_lines : Value} {od_d_are_lines an_d_are_lines : Option Addr} {sl_d_are_lines : Array (Option Value)} {f_d_are_lines : Addr} {oc_d_are_lines_of : Value} {kV_d_are_lines_of : Value} {dc_d_are_lines_of : Value} {pm_d_are_lines_of : Value} {cd_d_are_lines_of : Value} {ct_d_are_lines_of : Value} {od_d_are_lines_of an_d_are_lines_of : Option Addr} {sl_d_are_lines_of : Array (Option Value)} {f_d_are_lines_of : Addr} {oc_d_is_row : Value} {kV_d_is_row : Value} {dc_d_is_row : Value} {pm_d_is_row : Value} {cd_d_is_row : Value} {ct_d_is_row : Value} {od_d_is_row an_d_is_row : Option Addr} {sl_d_is_row : Array (Option Value)} {f_d_is_row : Addr} {oc_d_has_no_key_twice : Value} {kV_d_has_no_key_twice : Value} {dc_d_has_no_key_twice : Value} {pm_d_has_no_key_twice : Value} {cd_d_has_no_key_twice : Value} {ct_d_has_no_key_twice : Value} {od_d_has_no_key_twice an_d_has_no_key_twice : Option Addr} {sl_d_has_no_key_twice : Array (Option Value)} {f_d_has_no_key_twice : Addr} {oc_d_key_of : Value} {kV_d_key_of : Value} {dc_d_key_of : Value} {pm_d_key_of : Value} {cd_d_key_of : Value} {ct_d_key_of : Value} {od_d_key_of an_d_key_of : Option Addr} {sl_d_key_of : Array (Option Value)} {f_d_key_of : Addr} {oc_d_is_era : Value} {kV_d_is_era : Value} {dc_d_is_era : Value} {pm_d_is_era : Value} {cd_d_is_era : Value} {ct_d_is_era : Value} {od_d_is_era an_d_is_era : Option Addr} {sl_d_is_era : Array (Option Value)} {f_d_is_era : Addr} {oc_d_is_letter : Value} {kV_d_is_letter : Value} {dc_d_is_letter : Value} {pm_d_is_letter : Value} {cd_d_is_letter : Value} {ct_d_is_letter : Value} {od_d_is_letter an_d_is_letter : Option Addr} {sl_d_is_letter : Array (Option Value)} {f_d_is_letter : Addr} {oc_d_is_item : Value} {kV_d_is_item : Value} {dc_d_is_item : Value} {pm_d_is_item : Value} {cd_d_is_item : Value} {ct_d_is_item : Value} {od_d_is_item an_d_is_item : Option Addr} {sl_d_is_item : Array (Option Value)} {f_d_is_item : Addr} {oc_d_l_cell : Value} {kV_d_l_cell : Value} {dc_d_l_cell : Value} {pm_d_l_cell : Value} {cd_d_l_cell : Value} {ct_d_l_cell : Value} {od_d_l_cell an_d_l_cell : Option Addr} {sl_d_l_cell : Array (Option Value)} {f_d_l_cell : Addr} {oc_d_l_box : Value} {kV_d_l_box : Value} {dc_d_l_box : Value} {pm_d_l_box : Value} {cd_d_l_box : Value} {ct_d_l_box : Value} {od_d_l_box an_d_l_box : Option Addr} {sl_d_l_box : Array (Option Value)} {f_d_l_box : Addr} {oc_d_l_take : Value} {kV_d_l_take : Value} {dc_d_l_take : Value} {pm_d_l_take : Value} {cd_d_l_take : Value} {ct_d_l_take : Value} {od_d_l_take an_d_l_take : Option Addr} {sl_d_l_take : Array (Option Value)} {f_d_l_take : Addr} {oc_d_l_mixed : Value} {kV_d_l_mixed : Value} {dc_d_l_mixed : Value} {pm_d_l_mixed : Value} {cd_d_l_mixed : Value} {ct_d_l_mixed : Value} {od_d_l_mixed an_d_l_mixed : Option Addr} {sl_d_l_mixed : Array (Option Value)} {f_d_l_mixed : Addr} {oc_d_l_tree : Value} {kV_d_l_tree : Value} {dc_d_l_tree : Value} {pm_d_l_tree : Value} {cd_d_l_tree : Value} {ct_d_l_tree : Value} {od_d_l_tree an_d_l_tree : Option Addr} {sl_d_l_tree : Array (Option Value)} {f_d_l_tree : Addr} {oc_d_l_signs : Value} {kV_d_l_signs : Value} {dc_d_l_signs : Value} {pm_d_l_signs : Value} {cd_d_l_signs : Value} {ct_d_l_signs : Value} {od_d_l_signs an_d_l_signs : Option Addr} {sl_d_l_signs : Array (Option Value)} {f_d_l_signs : Addr} {oc_d_l_number : Value} {kV_d_l_number : Value} {dc_d_l_number : Value} {pm_d_l_number : Value} {cd_d_l_number : Value} {ct_d_l_number : Value} {od_d_l_number an_d_l_number : Option Addr} {sl_d_l_number : Array (Option Value)} {f_d_l_number : Addr} {oc_d_l_line : Value} {kV_d_l_line : Value} {dc_d_l_line : Value} {pm_d_l_line : Value} {cd_d_l_line : Value} {ct_d_l_line : Value} {od_d_l_line an_d_l_line : Option Addr} {sl_d_l_line : Array (Option Value)} {f_d_l_line : Addr} {oc_d_l_lines : Value} {kV_d_l_lines : Value} {dc_d_l_lines : Value} {pm_d_l_lines : Value} {cd_d_l_lines : Value} {ct_d_l_lines : Value} {od_d_l_lines an_d_l_lines : Option Addr} {sl_d_l_lines : Array (Option Value)} {f_d_l_lines : Addr} {oc_d_l_words : Value} {kV_d_l_words : Value} {dc_d_l_words : Value} {pm_d_l_words : Value} {cd_d_l_words : Value} {ct_d_l_words : Value} {od_d_l_words an_d_l_words : Option Addr} {sl_d_l_words : Array (Option Value)} {f_d_l_words : Addr} {oc_d_l_letter : Value} {kV_d_l_letter : Value} {dc_d_l_letter : Value} {pm_d_l_letter : Value} {cd_d_l_letter : Value} {ct_d_l_letter : Value} {od_d_l_letter an_d_l_letter : Option Addr} {sl_d_l_letter : Array (Option Value)} {f_d_l_letter : Addr} {oc_d_l_odd : Value} {kV_d_l_odd : Value} {dc_d_l_odd : Value} {pm_d_l_odd : Value} {cd_d_l_odd : Value} {ct_d_l_odd : Value} {od_d_l_odd an_d_l_odd : Option Addr} {sl_d_l_odd : Array (Option Value)} {f_d_l_odd : Addr} {oc_d_l_changed : Value} {kV_d_l_changed : Value} {dc_d_l_changed : Value} {pm_d_l_changed : Value} {cd_d_l_changed : Value} {ct_d_l_changed : Value} {od_d_l_changed an_d_l_changed : Option Addr} {sl_d_l_changed : Array (Option Value)} {f_d_l_changed : Addr} {oc_d_l_twice : Value} {kV_d_l_twice : Value} {dc_d_l_twice : Value} {pm_d_l_twice : Value} {cd_d_l_twice : Value} {ct_d_l_twice : Value} {od_d_l_twice an_d_l_twice : Option Addr} {sl_d_l_twice : Array (Option Value)} {f_d_l_twice : Addr} {oc_d_l_whole : Value} {kV_d_l_whole : Value} {dc_d_l_whole : Value} {pm_d_l_whole : Value} {cd_d_l_whole : Value} {ct_d_l_whole : Value} {od_d_l_whole an_d_l_whole : Option Addr} {sl_d_l_whole : Array (Option Value)} {f_d_l_whole : Addr} {oc_d_l_is_line : Value} {kV_d_l_is_line : Value} {dc_d_l_is_line : Value} {pm_d_l_is_line : Value} {cd_d_l_is_line : Value} {ct_d_l_is_line : Value} {od_d_l_is_line an_d_l_is_line : Option Addr} {sl_d_l_is_line : Array (Option Value)} {f_d_l_is_line : Addr} {oc_d_l_are_lines : Value} {kV_d_l_are_lines : Value} {dc_d_l_are_lines : Value} {pm_d_l_are_lines : Value} {cd_d_l_are_lines : Value} {ct_d_l_are_lines : Value} {od_d_l_are_lines an_d_l_are_lines : Option Addr} {sl_d_l_are_lines : Array (Option Value)} {f_d_l_are_lines : Addr} {oc_d_l_is_era : Value} {kV_d_l_is_era : Value} {dc_d_l_is_era : Value} {pm_d_l_is_era : Value} {cd_d_l_is_era : Value} {ct_d_l_is_era : Value} {od_d_l_is_era an_d_l_is_era : Option Addr} {sl_d_l_is_era : Array (Option Value)} {f_d_l_is_era : Addr} {oc_d_l_item : Value} {kV_d_l_item : Value} {dc_d_l_item : Value} {pm_d_l_item : Value} {cd_d_l_item : Value} {ct_d_l_item : Value} {od_d_l_item an_d_l_item : Option Addr} {sl_d_l_item : Array (Option Value)} {f_d_l_item : Addr} {oc_d_l_is_letter : Value} {kV_d_l_is_letter : Value} {dc_d_l_is_letter : Value} {pm_d_l_is_letter : Value} {cd_d_l_is_letter : Value} {ct_d_l_is_letter : Value} {od_d_l_is_letter an_d_l_is_letter : Option Addr} {sl_d_l_is_letter : Array (Option Value)} {f_d_l_is_letter : Addr} {oc_d_l_letter_right : Value} {kV_d_l_letter_right : Value} {dc_d_l_letter_right : Value} {pm_d_l_letter_right : Value} {cd_d_l_letter_right : Value} {ct_d_l_letter_right : Value} {od_d_l_letter_right an_d_l_letter_right : Option Addr} {sl_d_l_letter_right : Array (Option Value)} {f_d_l_letter_right : Addr} {oc_d_l_era_right : Value} {kV_d_l_era_right : Value} {dc_d_l_era_right : Value} {pm_d_l_era_right : Value} {cd_d_l_era_right : Value} {ct_d_l_era_right : Value} {od_d_l_era_right an_d_l_era_right : Option Addr} {sl_d_l_era_right : Array (Option Value)} {f_d_l_era_right : Addr} {oc_d_l_others : Value} {kV_d_l_others : Value} {dc_d_l_others : Value} {pm_d_l_others : Value} {cd_d_l_others : Value} {ct_d_l_others : Value} {od_d_l_others an_d_l_others : Option Addr} {sl_d_l_others : Array (Option Value)} {f_d_l_others : Addr} {oc_d_l_right : Value} {kV_d_l_right : Value} {dc_d_l_right : Value} {pm_d_l_right : Value} {cd_d_l_right : Value} {ct_d_l_right : Value} {od_d_l_right an_d_l_right : Option Addr} {sl_d_l_right : Array (Option Value)} {f_d_l_right : Addr} {oc_d_law : Value} {kV_d_law : Value} {dc_d_law : Value} {pm_d_law : Value} {cd_d_law : Value} {ct_d_law : Value} {od_d_law an_d_law : Option Addr} {sl_d_law : Array (Option Value)} {f_d_law : Addr}
    (g_E_InvalidHouses : PySem.W.nsIn K mainGlobals "InvalidHouses" = some (some (.ref C_InvalidHouses)))
    (g_E_InvalidRoads : PySem.W.nsIn K mainGlobals "InvalidRoads" = some (some (.ref C_InvalidRoads)))
    (g_E_NotJoined : PySem.W.nsIn K mainGlobals "NotJoined" = some (some (.ref C_NotJoined)))
    (g_m_UnsaidError : PySem.W.nsIn K mainGlobals "UnsaidError" = some (some (.ref C_UnsaidError)))
    (g_g_MOST_HOUSES : PySem.W.nsIn K mainGlobals "MOST_HOUSES" = some (some (.int 16 t_MOST_HOUSES)))
    (g_g_MOST_LETTERS : PySem.W.nsIn K mainGlobals "MOST_LETTERS" = some (some (.int 8 t_MOST_LETTERS)))
    (g_g_MOST_SIGNS : PySem.W.nsIn K mainGlobals "MOST_SIGNS" = some (some (.int 40 t_MOST_SIGNS)))
    (g_m_FORMS : PySem.W.nsIn K mainGlobals "FORMS" = some (some (.ref C_FORMS)))
    (g_m_Tree : PySem.W.nsIn K mainGlobals "Tree" = some (some (.ref C_Tree)))
    (a_x_InvalidHouses : PySem.W.findIn K (.ref C_InvalidHouses) "__init__" = some (some (.ref f_x_InvalidHouses)))
    (a_x_InvalidRoads : PySem.W.findIn K (.ref C_InvalidRoads) "__init__" = some (some (.ref f_x_InvalidRoads)))
    (a_x_NotJoined : PySem.W.findIn K (.ref C_NotJoined) "__init__" = some (some (.ref f_x_NotJoined)))
    (a_d_is_int : PySem.W.nsIn K mainGlobals "is_int" = some (some (.ref f_d_is_int)))
    (a_d_is_count : PySem.W.nsIn K mainGlobals "is_count" = some (some (.ref f_d_is_count)))
    (a_d_is_life : PySem.W.nsIn K mainGlobals "is_life" = some (some (.ref f_d_is_life)))
    (a_d_is_list : PySem.W.nsIn K mainGlobals "is_list" = some (some (.ref f_d_is_list)))
    (a_d_is_signs : PySem.W.nsIn K mainGlobals "is_signs" = some (some (.ref f_d_is_signs)))
    (a_d_is_cell : PySem.W.nsIn K mainGlobals "is_cell" = some (some (.ref f_d_is_cell)))
    (a_d_is_text : PySem.W.nsIn K mainGlobals "is_text" = some (some (.ref f_d_is_text)))
    (a_d_is_line : PySem.W.nsIn K mainGlobals "is_line" = some (some (.ref f_d_is_line)))
    (a_d_Tree_init : PySem.W.findIn K (.ref C_Tree) "__init__" = some (some (.ref f_d_Tree_init)))
    (a_d_Tree___contains__ : PySem.W.findIn K (.ref C_Tree) "__contains__" = some (some (.ref f_d_Tree___contains__)))
    (a_d_are_roads : PySem.W.nsIn K mainGlobals "_are_roads" = some (some (.ref f_d_are_roads)))
    (a_d_is_road : PySem.W.nsIn K mainGlobals "_is_road" = some (some (.ref f_d_is_road)))
    (a_d_near : PySem.W.nsIn K mainGlobals "_near" = some (some (.ref f_d_near)))
    (a_d_steps_to : PySem.W.nsIn K mainGlobals "_steps_to" = some (some (.ref f_d_steps_to)))
    (a_d_are_lines : PySem.W.nsIn K mainGlobals "are_lines" = some (some (.ref f_d_are_lines)))
    (a_d_are_lines_of : PySem.W.nsIn K mainGlobals "are_lines_of" = some (some (.ref f_d_are_lines_of)))
    (a_d_is_row : PySem.W.nsIn K mainGlobals "is_row" = some (some (.ref f_d_is_row)))
    (a_d_has_no_key_twice : PySem.W.nsIn K mainGlobals "has_no_key_twice" = some (some (.ref f_d_has_no_key_twice)))
    (a_d_key_of : PySem.W.nsIn K mainGlobals "key_of" = some (some (.ref f_d_key_of)))
    (a_d_is_era : PySem.W.nsIn K mainGlobals "is_era" = some (some (.ref f_d_is_era)))
    (a_d_is_letter : PySem.W.nsIn K mainGlobals "is_letter" = some (some (.ref f_d_is_letter)))
    (a_d_is_item : PySem.W.nsIn K mainGlobals "_is_item" = some (some (.ref f_d_is_item)))
    (a_d_l_cell : PySem.W.nsIn K mainGlobals "_law_cell" = some (some (.ref f_d_l_cell)))
    (a_d_l_box : PySem.W.nsIn K mainGlobals "_law_box" = some (some (.ref f_d_l_box)))
    (a_d_l_take : PySem.W.nsIn K mainGlobals "_law_take" = some (some (.ref f_d_l_take)))
    (a_d_l_mixed : PySem.W.nsIn K mainGlobals "_law_mixed" = some (some (.ref f_d_l_mixed)))
    (a_d_l_tree : PySem.W.nsIn K mainGlobals "_law_tree" = some (some (.ref f_d_l_tree)))
    (a_d_l_signs : PySem.W.nsIn K mainGlobals "_law_signs" = some (some (.ref f_d_l_signs)))
    (a_d_l_number : PySem.W.nsIn K mainGlobals "_law_number" = some (some (.ref f_d_l_number)))
    (a_d_l_line : PySem.W.nsIn K mainGlobals "_law_line" = some (some (.ref f_d_l_line)))
    (a_d_l_lines : PySem.W.nsIn K mainGlobals "_law_lines" = some (some (.ref f_d_l_lines)))
    (a_d_l_words : PySem.W.nsIn K mainGlobals "_law_words" = some (some (.ref f_d_l_words)))
    (a_d_l_letter : PySem.W.nsIn K mainGlobals "_law_letter" = some (some (.ref f_d_l_letter)))
    (a_d_l_odd : PySem.W.nsIn K mainGlobals "_law_odd" = some (some (.ref f_d_l_odd)))
    (a_d_l_changed : PySem.W.nsIn K mainGlobals "_law_changed" = some (some (.ref f_d_l_changed)))
    (a_d_l_twice : PySem.W.nsIn K mainGlobals "_law_twice" = some (some (.ref f_d_l_twice)))
    (a_d_l_whole : PySem.W.nsIn K mainGlobals "_law_whole" = some (some (.ref f_d_l_whole)))
    (a_d_l_is_line : PySem.W.nsIn K mainGlobals "_law_is_line" = some (some (.ref f_d_l_is_line)))
    (a_d_l_are_lines : PySem.W.nsIn K mainGlobals "_law_are_lines" = some (some (.ref f_d_l_are_lines)))
    (a_d_l_is_era : PySem.W.nsIn K mainGlobals "_law_is_era" = some (some (.ref f_d_l_is_era)))
    (a_d_l_item : PySem.W.nsIn K mainGlobals "_law_item" = some (some (.ref f_d_l_item)))
    (a_d_l_is_letter : PySem.W.nsIn K mainGlobals "_law_is_letter" = some (some (.ref f_d_l_is_letter)))
    (a_d_l_letter_right : PySem.W.nsIn K mainGlobals "_law_letter_right" = some (some (.ref f_d_l_letter_right)))
    (a_d_l_era_right : PySem.W.nsIn K mainGlobals "_law_era_right" = some (some (.ref f_d_l_era_right)))
    (a_d_l_others : PySem.W.nsIn K mainGlobals "_law_others" = some (some (.ref f_d_l_others)))
    (a_d_l_right : PySem.W.nsIn K mainGlobals "_law_right" = some (some (.ref f_d_l_right)))
    (a_d_law : PySem.W.nsIn K mainGlobals "law" = some (some (.ref f_d_law)))
    (l_x_InvalidHouses : K.lookup f_x_InvalidHouses = some ⟨oc_x_InvalidHouses, od_x_InvalidHouses, .func (PySem.W.fnOf "__init__" "InvalidHouses.__init__" (defArgs s_InvalidHouses_init) (defBody s_InvalidHouses_init) (defScope s_InvalidHouses_init) .none kV_x_InvalidHouses dc_x_InvalidHouses pm_x_InvalidHouses an_x_InvalidHouses cd_x_InvalidHouses ct_x_InvalidHouses), sl_x_InvalidHouses⟩)
    (l_x_InvalidRoads : K.lookup f_x_InvalidRoads = some ⟨oc_x_InvalidRoads, od_x_InvalidRoads, .func (PySem.W.fnOf "__init__" "InvalidRoads.__init__" (defArgs s_InvalidRoads_init) (defBody s_InvalidRoads_init) (defScope s_InvalidRoads_init) .none kV_x_InvalidRoads dc_x_InvalidRoads pm_x_InvalidRoads an_x_InvalidRoads cd_x_InvalidRoads ct_x_InvalidRoads), sl_x_InvalidRoads⟩)
    (l_x_NotJoined : K.lookup f_x_NotJoined = some ⟨oc_x_NotJoined, od_x_NotJoined, .func (PySem.W.fnOf "__init__" "NotJoined.__init__" (defArgs s_NotJoined_init) (defBody s_NotJoined_init) (defScope s_NotJoined_init) .none kV_x_NotJoined dc_x_NotJoined pm_x_NotJoined an_x_NotJoined cd_x_NotJoined ct_x_NotJoined), sl_x_NotJoined⟩)
    (l_w_FORMS : K.lookup C_FORMS = some ⟨.type "dict", none, .dict es_w_FORMS n_w_FORMS, #[]⟩)
    (l_d_is_int : K.lookup f_d_is_int = some ⟨oc_d_is_int, od_d_is_int, .func (PySem.W.fnOf "is_int" "is_int" (defArgs s_is_int) (defBody s_is_int) (defScope s_is_int) .none kV_d_is_int dc_d_is_int pm_d_is_int an_d_is_int cd_d_is_int ct_d_is_int), sl_d_is_int⟩)
    (l_d_is_count : K.lookup f_d_is_count = some ⟨oc_d_is_count, od_d_is_count, .func (PySem.W.fnOf "is_count" "is_count" (defArgs s_is_count) (defBody s_is_count) (defScope s_is_count) .none kV_d_is_count dc_d_is_count pm_d_is_count an_d_is_count cd_d_is_count ct_d_is_count), sl_d_is_count⟩)
    (l_d_is_life : K.lookup f_d_is_life = some ⟨oc_d_is_life, od_d_is_life, .func (PySem.W.fnOf "is_life" "is_life" (defArgs s_is_life) (defBody s_is_life) (defScope s_is_life) .none kV_d_is_life dc_d_is_life pm_d_is_life an_d_is_life cd_d_is_life ct_d_is_life), sl_d_is_life⟩)
    (l_d_is_list : K.lookup f_d_is_list = some ⟨oc_d_is_list, od_d_is_list, .func (PySem.W.fnOf "is_list" "is_list" (defArgs s_is_list) (defBody s_is_list) (defScope s_is_list) .none kV_d_is_list dc_d_is_list pm_d_is_list an_d_is_list cd_d_is_list ct_d_is_list), sl_d_is_list⟩)
    (l_d_is_signs : K.lookup f_d_is_signs = some ⟨oc_d_is_signs, od_d_is_signs, .func (PySem.W.fnOf "is_signs" "is_signs" (defArgs s_is_signs) (defBody s_is_signs) (defScope s_is_signs) .none kV_d_is_signs dc_d_is_signs pm_d_is_signs an_d_is_signs cd_d_is_signs ct_d_is_signs), sl_d_is_signs⟩)
    (l_d_is_cell : K.lookup f_d_is_cell = some ⟨oc_d_is_cell, od_d_is_cell, .func (PySem.W.fnOf "is_cell" "is_cell" (defArgs s_is_cell) (defBody s_is_cell) (defScope s_is_cell) .none kV_d_is_cell dc_d_is_cell pm_d_is_cell an_d_is_cell cd_d_is_cell ct_d_is_cell), sl_d_is_cell⟩)
    (l_d_is_text : K.lookup f_d_is_text = some ⟨oc_d_is_text, od_d_is_text, .func (PySem.W.fnOf "is_text" "is_text" (defArgs s_is_text) (defBody s_is_text) (defScope s_is_text) .none kV_d_is_text dc_d_is_text pm_d_is_text an_d_is_text cd_d_is_text ct_d_is_text), sl_d_is_text⟩)
    (l_d_is_line : K.lookup f_d_is_line = some ⟨oc_d_is_line, od_d_is_line, .func (PySem.W.fnOf "is_line" "is_line" (defArgs s_is_line) (defBody s_is_line) (defScope s_is_line) .none kV_d_is_line dc_d_is_line pm_d_is_line an_d_is_line cd_d_is_line ct_d_is_line), sl_d_is_line⟩)
    (l_d_Tree_init : K.lookup f_d_Tree_init = some ⟨oc_d_Tree_init, od_d_Tree_init, .func (PySem.W.fnOf "__init__" "Tree.__init__" (defArgs s_Tree_init) (defBody s_Tree_init) (defScope s_Tree_init) .none kV_d_Tree_init dc_d_Tree_init pm_d_Tree_init an_d_Tree_init cd_d_Tree_init ct_d_Tree_init), sl_d_Tree_init⟩)
    (l_d_Tree___contains__ : K.lookup f_d_Tree___contains__ = some ⟨oc_d_Tree___contains__, od_d_Tree___contains__, .func (PySem.W.fnOf "__contains__" "Tree.__contains__" (defArgs s_Tree___contains__) (defBody s_Tree___contains__) (defScope s_Tree___contains__) .none kV_d_Tree___contains__ dc_d_Tree___contains__ pm_d_Tree___contains__ an_d_Tree___contains__ cd_d_Tree___contains__ ct_d_Tree___contains__), sl_d_Tree___contains__⟩)
    (l_d_are_roads : K.lookup f_d_are_roads = some ⟨oc_d_are_roads, od_d_are_roads, .func (PySem.W.fnOf "_are_roads" "_are_roads" (defArgs s_are_roads) (defBody s_are_roads) (defScope s_are_roads) .none kV_d_are_roads dc_d_are_roads pm_d_are_roads an_d_are_roads cd_d_are_roads ct_d_are_roads), sl_d_are_roads⟩)
    (l_d_is_road : K.lookup f_d_is_road = some ⟨oc_d_is_road, od_d_is_road, .func (PySem.W.fnOf "_is_road" "_is_road" (defArgs s_is_road) (defBody s_is_road) (defScope s_is_road) .none kV_d_is_road dc_d_is_road pm_d_is_road an_d_is_road cd_d_is_road ct_d_is_road), sl_d_is_road⟩)
    (l_d_near : K.lookup f_d_near = some ⟨oc_d_near, od_d_near, .func (PySem.W.fnOf "_near" "_near" (defArgs s_near) (defBody s_near) (defScope s_near) .none kV_d_near dc_d_near pm_d_near an_d_near cd_d_near ct_d_near), sl_d_near⟩)
    (l_d_steps_to : K.lookup f_d_steps_to = some ⟨oc_d_steps_to, od_d_steps_to, .func (PySem.W.fnOf "_steps_to" "_steps_to" (defArgs s_steps_to) (defBody s_steps_to) (defScope s_steps_to) .none kV_d_steps_to dc_d_steps_to pm_d_steps_to an_d_steps_to cd_d_steps_to ct_d_steps_to), sl_d_steps_to⟩)
    (l_d_are_lines : K.lookup f_d_are_lines = some ⟨oc_d_are_lines, od_d_are_lines, .func (PySem.W.fnOf "are_lines" "are_lines" (defArgs s_are_lines) (defBody s_are_lines) (defScope s_are_lines) .none kV_d_are_lines dc_d_are_lines pm_d_are_lines an_d_are_lines cd_d_are_lines ct_d_are_lines), sl_d_are_lines⟩)
    (l_d_are_lines_of : K.lookup f_d_are_lines_of = some ⟨oc_d_are_lines_of, od_d_are_lines_of, .func (PySem.W.fnOf "are_lines_of" "are_lines_of" (defArgs s_are_lines_of) (defBody s_are_lines_of) (defScope s_are_lines_of) .none kV_d_are_lines_of dc_d_are_lines_of pm_d_are_lines_of an_d_are_lines_of cd_d_are_lines_of ct_d_are_lines_of), sl_d_are_lines_of⟩)
    (l_d_is_row : K.lookup f_d_is_row = some ⟨oc_d_is_row, od_d_is_row, .func (PySem.W.fnOf "is_row" "is_row" (defArgs s_is_row) (defBody s_is_row) (defScope s_is_row) .none kV_d_is_row dc_d_is_row pm_d_is_row an_d_is_row cd_d_is_row ct_d_is_row), sl_d_is_row⟩)
    (l_d_has_no_key_twice : K.lookup f_d_has_no_key_twice = some ⟨oc_d_has_no_key_twice, od_d_has_no_key_twice, .func (PySem.W.fnOf "has_no_key_twice" "has_no_key_twice" (defArgs s_has_no_key_twice) (defBody s_has_no_key_twice) (defScope s_has_no_key_twice) .none kV_d_has_no_key_twice dc_d_has_no_key_twice pm_d_has_no_key_twice an_d_has_no_key_twice cd_d_has_no_key_twice ct_d_has_no_key_twice), sl_d_has_no_key_twice⟩)
    (l_d_key_of : K.lookup f_d_key_of = some ⟨oc_d_key_of, od_d_key_of, .func (PySem.W.fnOf "key_of" "key_of" (defArgs s_key_of) (defBody s_key_of) (defScope s_key_of) .none kV_d_key_of dc_d_key_of pm_d_key_of an_d_key_of cd_d_key_of ct_d_key_of), sl_d_key_of⟩)
    (l_d_is_era : K.lookup f_d_is_era = some ⟨oc_d_is_era, od_d_is_era, .func (PySem.W.fnOf "is_era" "is_era" (defArgs s_is_era) (defBody s_is_era) (defScope s_is_era) .none kV_d_is_era dc_d_is_era pm_d_is_era an_d_is_era cd_d_is_era ct_d_is_era), sl_d_is_era⟩)
    (l_d_is_letter : K.lookup f_d_is_letter = some ⟨oc_d_is_letter, od_d_is_letter, .func (PySem.W.fnOf "is_letter" "is_letter" (defArgs s_is_letter) (defBody s_is_letter) (defScope s_is_letter) .none kV_d_is_letter dc_d_is_letter pm_d_is_letter an_d_is_letter cd_d_is_letter ct_d_is_letter), sl_d_is_letter⟩)
    (l_d_is_item : K.lookup f_d_is_item = some ⟨oc_d_is_item, od_d_is_item, .func (PySem.W.fnOf "_is_item" "_is_item" (defArgs s_is_item) (defBody s_is_item) (defScope s_is_item) .none kV_d_is_item dc_d_is_item pm_d_is_item an_d_is_item cd_d_is_item ct_d_is_item), sl_d_is_item⟩)
    (l_d_l_cell : K.lookup f_d_l_cell = some ⟨oc_d_l_cell, od_d_l_cell, .func (PySem.W.fnOf "_law_cell" "_law_cell" (defArgs s_l_cell) (defBody s_l_cell) (defScope s_l_cell) .none kV_d_l_cell dc_d_l_cell pm_d_l_cell an_d_l_cell cd_d_l_cell ct_d_l_cell), sl_d_l_cell⟩)
    (l_d_l_box : K.lookup f_d_l_box = some ⟨oc_d_l_box, od_d_l_box, .func (PySem.W.fnOf "_law_box" "_law_box" (defArgs s_l_box) (defBody s_l_box) (defScope s_l_box) .none kV_d_l_box dc_d_l_box pm_d_l_box an_d_l_box cd_d_l_box ct_d_l_box), sl_d_l_box⟩)
    (l_d_l_take : K.lookup f_d_l_take = some ⟨oc_d_l_take, od_d_l_take, .func (PySem.W.fnOf "_law_take" "_law_take" (defArgs s_l_take) (defBody s_l_take) (defScope s_l_take) .none kV_d_l_take dc_d_l_take pm_d_l_take an_d_l_take cd_d_l_take ct_d_l_take), sl_d_l_take⟩)
    (l_d_l_mixed : K.lookup f_d_l_mixed = some ⟨oc_d_l_mixed, od_d_l_mixed, .func (PySem.W.fnOf "_law_mixed" "_law_mixed" (defArgs s_l_mixed) (defBody s_l_mixed) (defScope s_l_mixed) .none kV_d_l_mixed dc_d_l_mixed pm_d_l_mixed an_d_l_mixed cd_d_l_mixed ct_d_l_mixed), sl_d_l_mixed⟩)
    (l_d_l_tree : K.lookup f_d_l_tree = some ⟨oc_d_l_tree, od_d_l_tree, .func (PySem.W.fnOf "_law_tree" "_law_tree" (defArgs s_l_tree) (defBody s_l_tree) (defScope s_l_tree) .none kV_d_l_tree dc_d_l_tree pm_d_l_tree an_d_l_tree cd_d_l_tree ct_d_l_tree), sl_d_l_tree⟩)
    (l_d_l_signs : K.lookup f_d_l_signs = some ⟨oc_d_l_signs, od_d_l_signs, .func (PySem.W.fnOf "_law_signs" "_law_signs" (defArgs s_l_signs) (defBody s_l_signs) (defScope s_l_signs) .none kV_d_l_signs dc_d_l_signs pm_d_l_signs an_d_l_signs cd_d_l_signs ct_d_l_signs), sl_d_l_signs⟩)
    (l_d_l_number : K.lookup f_d_l_number = some ⟨oc_d_l_number, od_d_l_number, .func (PySem.W.fnOf "_law_number" "_law_number" (defArgs s_l_number) (defBody s_l_number) (defScope s_l_number) .none kV_d_l_number dc_d_l_number pm_d_l_number an_d_l_number cd_d_l_number ct_d_l_number), sl_d_l_number⟩)
    (l_d_l_line : K.lookup f_d_l_line = some ⟨oc_d_l_line, od_d_l_line, .func (PySem.W.fnOf "_law_line" "_law_line" (defArgs s_l_line) (defBody s_l_line) (defScope s_l_line) .none kV_d_l_line dc_d_l_line pm_d_l_line an_d_l_line cd_d_l_line ct_d_l_line), sl_d_l_line⟩)
    (l_d_l_lines : K.lookup f_d_l_lines = some ⟨oc_d_l_lines, od_d_l_lines, .func (PySem.W.fnOf "_law_lines" "_law_lines" (defArgs s_l_lines) (defBody s_l_lines) (defScope s_l_lines) .none kV_d_l_lines dc_d_l_lines pm_d_l_lines an_d_l_lines cd_d_l_lines ct_d_l_lines), sl_d_l_lines⟩)
    (l_d_l_words : K.lookup f_d_l_words = some ⟨oc_d_l_words, od_d_l_words, .func (PySem.W.fnOf "_law_words" "_law_words" (defArgs s_l_words) (defBody s_l_words) (defScope s_l_words) .none kV_d_l_words dc_d_l_words pm_d_l_words an_d_l_words cd_d_l_words ct_d_l_words), sl_d_l_words⟩)
    (l_d_l_letter : K.lookup f_d_l_letter = some ⟨oc_d_l_letter, od_d_l_letter, .func (PySem.W.fnOf "_law_letter" "_law_letter" (defArgs s_l_letter) (defBody s_l_letter) (defScope s_l_letter) .none kV_d_l_letter dc_d_l_letter pm_d_l_letter an_d_l_letter cd_d_l_letter ct_d_l_letter), sl_d_l_letter⟩)
    (l_d_l_odd : K.lookup f_d_l_odd = some ⟨oc_d_l_odd, od_d_l_odd, .func (PySem.W.fnOf "_law_odd" "_law_odd" (defArgs s_l_odd) (defBody s_l_odd) (defScope s_l_odd) .none kV_d_l_odd dc_d_l_odd pm_d_l_odd an_d_l_odd cd_d_l_odd ct_d_l_odd), sl_d_l_odd⟩)
    (l_d_l_changed : K.lookup f_d_l_changed = some ⟨oc_d_l_changed, od_d_l_changed, .func (PySem.W.fnOf "_law_changed" "_law_changed" (defArgs s_l_changed) (defBody s_l_changed) (defScope s_l_changed) .none kV_d_l_changed dc_d_l_changed pm_d_l_changed an_d_l_changed cd_d_l_changed ct_d_l_changed), sl_d_l_changed⟩)
    (l_d_l_twice : K.lookup f_d_l_twice = some ⟨oc_d_l_twice, od_d_l_twice, .func (PySem.W.fnOf "_law_twice" "_law_twice" (defArgs s_l_twice) (defBody s_l_twice) (defScope s_l_twice) .none kV_d_l_twice dc_d_l_twice pm_d_l_twice an_d_l_twice cd_d_l_twice ct_d_l_twice), sl_d_l_twice⟩)
    (l_d_l_whole : K.lookup f_d_l_whole = some ⟨oc_d_l_whole, od_d_l_whole, .func (PySem.W.fnOf "_law_whole" "_law_whole" (defArgs s_l_whole) (defBody s_l_whole) (defScope s_l_whole) .none kV_d_l_whole dc_d_l_whole pm_d_l_whole an_d_l_whole cd_d_l_whole ct_d_l_whole), sl_d_l_whole⟩)
    (l_d_l_is_line : K.lookup f_d_l_is_line = some ⟨oc_d_l_is_line, od_d_l_is_line, .func (PySem.W.fnOf "_law_is_line" "_law_is_line" (defArgs s_l_is_line) (defBody s_l_is_line) (defScope s_l_is_line) .none kV_d_l_is_line dc_d_l_is_line pm_d_l_is_line an_d_l_is_line cd_d_l_is_line ct_d_l_is_line), sl_d_l_is_line⟩)
    (l_d_l_are_lines : K.lookup f_d_l_are_lines = some ⟨oc_d_l_are_lines, od_d_l_are_lines, .func (PySem.W.fnOf "_law_are_lines" "_law_are_lines" (defArgs s_l_are_lines) (defBody s_l_are_lines) (defScope s_l_are_lines) .none kV_d_l_are_lines dc_d_l_are_lines pm_d_l_are_lines an_d_l_are_lines cd_d_l_are_lines ct_d_l_are_lines), sl_d_l_are_lines⟩)
    (l_d_l_is_era : K.lookup f_d_l_is_era = some ⟨oc_d_l_is_era, od_d_l_is_era, .func (PySem.W.fnOf "_law_is_era" "_law_is_era" (defArgs s_l_is_era) (defBody s_l_is_era) (defScope s_l_is_era) .none kV_d_l_is_era dc_d_l_is_era pm_d_l_is_era an_d_l_is_era cd_d_l_is_era ct_d_l_is_era), sl_d_l_is_era⟩)
    (l_d_l_item : K.lookup f_d_l_item = some ⟨oc_d_l_item, od_d_l_item, .func (PySem.W.fnOf "_law_item" "_law_item" (defArgs s_l_item) (defBody s_l_item) (defScope s_l_item) .none kV_d_l_item dc_d_l_item pm_d_l_item an_d_l_item cd_d_l_item ct_d_l_item), sl_d_l_item⟩)
    (l_d_l_is_letter : K.lookup f_d_l_is_letter = some ⟨oc_d_l_is_letter, od_d_l_is_letter, .func (PySem.W.fnOf "_law_is_letter" "_law_is_letter" (defArgs s_l_is_letter) (defBody s_l_is_letter) (defScope s_l_is_letter) .none kV_d_l_is_letter dc_d_l_is_letter pm_d_l_is_letter an_d_l_is_letter cd_d_l_is_letter ct_d_l_is_letter), sl_d_l_is_letter⟩)
    (l_d_l_letter_right : K.lookup f_d_l_letter_right = some ⟨oc_d_l_letter_right, od_d_l_letter_right, .func (PySem.W.fnOf "_law_letter_right" "_law_letter_right" (defArgs s_l_letter_right) (defBody s_l_letter_right) (defScope s_l_letter_right) .none kV_d_l_letter_right dc_d_l_letter_right pm_d_l_letter_right an_d_l_letter_right cd_d_l_letter_right ct_d_l_letter_right), sl_d_l_letter_right⟩)
    (l_d_l_era_right : K.lookup f_d_l_era_right = some ⟨oc_d_l_era_right, od_d_l_era_right, .func (PySem.W.fnOf "_law_era_right" "_law_era_right" (defArgs s_l_era_right) (defBody s_l_era_right) (defScope s_l_era_right) .none kV_d_l_era_right dc_d_l_era_right pm_d_l_era_right an_d_l_era_right cd_d_l_era_right ct_d_l_era_right), sl_d_l_era_right⟩)
    (l_d_l_others : K.lookup f_d_l_others = some ⟨oc_d_l_others, od_d_l_others, .func (PySem.W.fnOf "_law_others" "_law_others" (defArgs s_l_others) (defBody s_l_others) (defScope s_l_others) .none kV_d_l_others dc_d_l_others pm_d_l_others an_d_l_others cd_d_l_others ct_d_l_others), sl_d_l_others⟩)
    (l_d_l_right : K.lookup f_d_l_right = some ⟨oc_d_l_right, od_d_l_right, .func (PySem.W.fnOf "_law_right" "_law_right" (defArgs s_l_right) (defBody s_l_right) (defScope s_l_right) .none kV_d_l_right dc_d_l_right pm_d_l_right an_d_l_right cd_d_l_right ct_d_l_right), sl_d_l_right⟩)
    (l_d_law : K.lookup f_d_law = some ⟨oc_d_law, od_d_law, .func (PySem.W.fnOf "law" "law" (defArgs s_law) (defBody s_law) (defScope s_law) .none kV_d_law dc_d_law pm_d_law an_d_law cd_d_law ct_d_law), sl_d_law⟩)
    (l_zzw_FORMS : es_w_FORMS.toList = [{ hash := PyData.keyHash w.params "halt", key := .str "halt" t_w_FORMS_0, val := .ref A_FORMS_halt }, { hash := PyData.keyHash w.params "held", key := .str "held" t_w_FORMS_1, val := .ref A_FORMS_held }, { hash := PyData.keyHash w.params "sure", key := .str "sure" t_w_FORMS_2, val := .ref A_FORMS_sure }, { hash := PyData.keyHash w.params "still", key := .str "still" t_w_FORMS_3, val := .ref A_FORMS_still }, { hash := PyData.keyHash w.params "elder", key := .str "elder" t_w_FORMS_4, val := .ref A_FORMS_elder }, { hash := PyData.keyHash w.params "take", key := .str "take" t_w_FORMS_5, val := .ref A_FORMS_take }, { hash := PyData.keyHash w.params "taken", key := .str "taken" t_w_FORMS_6, val := .ref A_FORMS_taken }, { hash := PyData.keyHash w.params "have", key := .str "have" t_w_FORMS_7, val := .ref A_FORMS_have }, { hash := PyData.keyHash w.params "lines", key := .str "lines" t_w_FORMS_8, val := .ref A_FORMS_lines }])
    (l_zzzq_FORMS_halt : K.lookup A_FORMS_halt = some o_q_FORMS_halt)
    (l_zzzq_FORMS_held : K.lookup A_FORMS_held = some o_q_FORMS_held)
    (l_zzzq_FORMS_sure : K.lookup A_FORMS_sure = some o_q_FORMS_sure)
    (l_zzzq_FORMS_still : K.lookup A_FORMS_still = some o_q_FORMS_still)
    (l_zzzq_FORMS_elder : K.lookup A_FORMS_elder = some o_q_FORMS_elder)
    (l_zzzq_FORMS_take : K.lookup A_FORMS_take = some o_q_FORMS_take)
    (l_zzzq_FORMS_taken : K.lookup A_FORMS_taken = some o_q_FORMS_taken)
    (l_zzzq_FORMS_have : K.lookup A_FORMS_have = some o_q_FORMS_have)
    (l_zzzq_FORMS_lines : K.lookup A_FORMS_lines = some o_q_FORMS_lines)
    (xl_E_InvalidHouses : K.lookup C_InvalidHouses = some (excClassObj "InvalidHouses" q_E_InvalidHouses C_InvalidHouses N_E_InvalidHouses bs_E_InvalidHouses [.ref C_UnsaidError, .type "ValueError", .type "Exception", .type "BaseException", .type "object"] true sn_E_InvalidHouses sub_E_InvalidHouses ab_E_InvalidHouses col_E_InvalidHouses dd_E_InvalidHouses k0_E_InvalidHouses k1_E_InvalidHouses k2_E_InvalidHouses k3_E_InvalidHouses k5_E_InvalidHouses "ValueError.__new__"))
    (xl_E_InvalidRoads : K.lookup C_InvalidRoads = some (excClassObj "InvalidRoads" q_E_InvalidRoads C_InvalidRoads N_E_InvalidRoads bs_E_InvalidRoads [.ref C_UnsaidError, .type "ValueError", .type "Exception", .type "BaseException", .type "object"] true sn_E_InvalidRoads sub_E_InvalidRoads ab_E_InvalidRoads col_E_InvalidRoads dd_E_InvalidRoads k0_E_InvalidRoads k1_E_InvalidRoads k2_E_InvalidRoads k3_E_InvalidRoads k5_E_InvalidRoads "ValueError.__new__"))
    (xl_E_NotJoined : K.lookup C_NotJoined = some (excClassObj "NotJoined" q_E_NotJoined C_NotJoined N_E_NotJoined bs_E_NotJoined [.ref C_UnsaidError, .type "ValueError", .type "Exception", .type "BaseException", .type "object"] true sn_E_NotJoined sub_E_NotJoined ab_E_NotJoined col_E_NotJoined dd_E_NotJoined k0_E_NotJoined k1_E_NotJoined k2_E_NotJoined k3_E_NotJoined k5_E_NotJoined "ValueError.__new__"))
    (xl_u_UnsaidError : K.lookup C_UnsaidError = some (excClassObj nm_u_UnsaidError q_u_UnsaidError C_UnsaidError N_u_UnsaidError bs_u_UnsaidError [.type "ValueError", .type "Exception", .type "BaseException", .type "object"] true sn_u_UnsaidError sub_u_UnsaidError ab_u_UnsaidError col_u_UnsaidError dd_u_UnsaidError k0_u_UnsaidError k1_u_UnsaidError k2_u_UnsaidError k3_u_UnsaidError k5_u_UnsaidError "ValueError.__new__"))
    (c_x_InvalidHouses : PySem.W.codeIn K cd_x_InvalidHouses "InvalidHouses.__init__" = true)
    (kp_x_InvalidHouses : PySem.W.keepIn K (.ref f_x_InvalidHouses) = true)
    (ty_C_InvalidHouses : PySem.W.typeIn K (.ref C_InvalidHouses) = some (.type "type"))
    (sa_E_InvalidHouses : PySem.W.findIn K (.ref C_InvalidHouses) "__setattr__" = some (some (.builtin "object.__setattr__")))
    (kc_C_InvalidHouses : PySem.W.keepIn K (.ref C_InvalidHouses) = true)
    (ti_E_InvalidHouses : PySem.W.typeIn K (.ref f_x_InvalidHouses) = some (.type "function"))
    (nf_E_InvalidHouses_given : PySem.W.findIn K (.ref C_InvalidHouses) "given" = some none)
    (ga_E_InvalidHouses : PySem.W.findIn K (.ref C_InvalidHouses) "__getattribute__" = some (some (.builtin "BaseException.__getattribute__")))
    (gt_E_InvalidHouses : PySem.W.findIn K (.ref C_InvalidHouses) "__getattr__" = some none)
    (hd_C_InvalidHouses : PySem.W.hasDictIn K C_InvalidHouses = true)
    (ncl_E_InvalidHouses : PySem.W.findIn K (.ref C_InvalidHouses) "__class__" = some (some (.builtin "object.__class__")))
    (nsp : PySem.W.specialIn K (.builtin "object.__class__") "__get__" = some (some (.builtin "getset_descriptor.__get__")))
    (ntk : PySem.W.takesIn K (.builtin "object.__class__") = some true)
    (c_x_InvalidRoads : PySem.W.codeIn K cd_x_InvalidRoads "InvalidRoads.__init__" = true)
    (kp_x_InvalidRoads : PySem.W.keepIn K (.ref f_x_InvalidRoads) = true)
    (ty_C_InvalidRoads : PySem.W.typeIn K (.ref C_InvalidRoads) = some (.type "type"))
    (sa_E_InvalidRoads : PySem.W.findIn K (.ref C_InvalidRoads) "__setattr__" = some (some (.builtin "object.__setattr__")))
    (kc_C_InvalidRoads : PySem.W.keepIn K (.ref C_InvalidRoads) = true)
    (ti_E_InvalidRoads : PySem.W.typeIn K (.ref f_x_InvalidRoads) = some (.type "function"))
    (nf_E_InvalidRoads_given : PySem.W.findIn K (.ref C_InvalidRoads) "given" = some none)
    (ga_E_InvalidRoads : PySem.W.findIn K (.ref C_InvalidRoads) "__getattribute__" = some (some (.builtin "BaseException.__getattribute__")))
    (gt_E_InvalidRoads : PySem.W.findIn K (.ref C_InvalidRoads) "__getattr__" = some none)
    (hd_C_InvalidRoads : PySem.W.hasDictIn K C_InvalidRoads = true)
    (ncl_E_InvalidRoads : PySem.W.findIn K (.ref C_InvalidRoads) "__class__" = some (some (.builtin "object.__class__")))
    (c_x_NotJoined : PySem.W.codeIn K cd_x_NotJoined "NotJoined.__init__" = true)
    (kp_x_NotJoined : PySem.W.keepIn K (.ref f_x_NotJoined) = true)
    (ty_C_NotJoined : PySem.W.typeIn K (.ref C_NotJoined) = some (.type "type"))
    (sa_E_NotJoined : PySem.W.findIn K (.ref C_NotJoined) "__setattr__" = some (some (.builtin "object.__setattr__")))
    (kc_C_NotJoined : PySem.W.keepIn K (.ref C_NotJoined) = true)
    (ti_E_NotJoined : PySem.W.typeIn K (.ref f_x_NotJoined) = some (.type "function"))
    (nf_E_NotJoined_house : PySem.W.findIn K (.ref C_NotJoined) "house" = some none)
    (ga_E_NotJoined : PySem.W.findIn K (.ref C_NotJoined) "__getattribute__" = some (some (.builtin "BaseException.__getattribute__")))
    (gt_E_NotJoined : PySem.W.findIn K (.ref C_NotJoined) "__getattr__" = some none)
    (hd_C_NotJoined : PySem.W.hasDictIn K C_NotJoined = true)
    (ncl_E_NotJoined : PySem.W.findIn K (.ref C_NotJoined) "__class__" = some (some (.builtin "object.__class__")))
    (ty_C_UnsaidError : PySem.W.typeIn K (.ref C_UnsaidError) = some (.type "type"))
    (eb_C_UnsaidError : PySem.W.subIn K (.ref C_UnsaidError) (.type "BaseException") = some true)
    (hd_C_UnsaidError : PySem.W.hasDictIn K C_UnsaidError = true)
    (lo_w_FORMS : (C_FORMS == sysModules) = false)
    (lc_q_FORMS_halt : o_q_FORMS_halt.cls = .type "tuple")
    (ld_q_FORMS_halt : o_q_FORMS_halt.data = .seq #[] n_q_FORMS_halt)
    (lc_q_FORMS_held : o_q_FORMS_held.cls = .type "tuple")
    (ld_q_FORMS_held : o_q_FORMS_held.data = .seq #[.str "house" t_q_FORMS_held_0, .str "life" t_q_FORMS_held_1, .str "lines" t_q_FORMS_held_2] n_q_FORMS_held)
    (lc_q_FORMS_sure : o_q_FORMS_sure.cls = .type "tuple")
    (ld_q_FORMS_sure : o_q_FORMS_sure.data = .seq #[] n_q_FORMS_sure)
    (lc_q_FORMS_still : o_q_FORMS_still.cls = .type "tuple")
    (ld_q_FORMS_still : o_q_FORMS_still.data = .seq #[.str "house" t_q_FORMS_still_0, .str "life" t_q_FORMS_still_1] n_q_FORMS_still)
    (lc_q_FORMS_elder : o_q_FORMS_elder.cls = .type "tuple")
    (ld_q_FORMS_elder : o_q_FORMS_elder.data = .seq #[] n_q_FORMS_elder)
    (lc_q_FORMS_take : o_q_FORMS_take.cls = .type "tuple")
    (ld_q_FORMS_take : o_q_FORMS_take.data = .seq #[.str "life" t_q_FORMS_take_0, .str "start" t_q_FORMS_take_1, .str "lines" t_q_FORMS_take_2] n_q_FORMS_take)
    (lc_q_FORMS_taken : o_q_FORMS_taken.cls = .type "tuple")
    (ld_q_FORMS_taken : o_q_FORMS_taken.data = .seq #[.str "house" t_q_FORMS_taken_0] n_q_FORMS_taken)
    (lc_q_FORMS_have : o_q_FORMS_have.cls = .type "tuple")
    (ld_q_FORMS_have : o_q_FORMS_have.data = .seq #[.str "house" t_q_FORMS_have_0, .str "count" t_q_FORMS_have_1] n_q_FORMS_have)
    (lc_q_FORMS_lines : o_q_FORMS_lines.cls = .type "tuple")
    (ld_q_FORMS_lines : o_q_FORMS_lines.data = .seq #[.str "house" t_q_FORMS_lines_0, .str "start" t_q_FORMS_lines_1, .str "lines" t_q_FORMS_lines_2] n_q_FORMS_lines)
    (pg_C_Tree : PySem.W.plainGet K C_Tree Str.empty = true)
    (hd_C_Tree : PySem.W.hasDictIn K C_Tree = true)
    (po_C_Tree : PySem.W.plainOver K C_Tree = true)
    (sa_C_Tree : PySem.W.findIn K (.ref C_Tree) "__setattr__" = some (some (.builtin "object.__setattr__")))
    (h_na_Tree_houses_C_Tree : PySem.W.findIn K (.ref C_Tree) "houses" = some none)
    (h_na_Tree_roads_C_Tree : PySem.W.findIn K (.ref C_Tree) "roads" = some none)
    (h_na_Tree_near_C_Tree : PySem.W.findIn K (.ref C_Tree) "_near" = some none)
    (h_na_Tree_steps_C_Tree : PySem.W.findIn K (.ref C_Tree) "_steps" = some none)
    (z_n_abs : PySem.W.nsIn K mainGlobals "abs" = some none)
    (z_n_all : PySem.W.nsIn K mainGlobals "all" = some none)
    (z_n_bool : PySem.W.nsIn K mainGlobals "bool" = some none)
    (z_n_int : PySem.W.nsIn K mainGlobals "int" = some none)
    (z_n_isinstance : PySem.W.nsIn K mainGlobals "isinstance" = some none)
    (z_n_len : PySem.W.nsIn K mainGlobals "len" = some none)
    (z_n_list : PySem.W.nsIn K mainGlobals "list" = some none)
    (z_n_max : PySem.W.nsIn K mainGlobals "max" = some none)
    (z_n_min : PySem.W.nsIn K mainGlobals "min" = some none)
    (z_n_range : PySem.W.nsIn K mainGlobals "range" = some none)
    (z_n_repr : PySem.W.nsIn K mainGlobals "repr" = some none)
    (z_n_sorted : PySem.W.nsIn K mainGlobals "sorted" = some none)
    (z_n_str : PySem.W.nsIn K mainGlobals "str" = some none)
    (z_n_sum : PySem.W.nsIn K mainGlobals "sum" = some none)
    (z_n_tuple : PySem.W.nsIn K mainGlobals "tuple" = some none)
    (z_n_zip : PySem.W.nsIn K mainGlobals "zip" = some none)
    (c_d_is_int : PySem.W.codeIn K cd_d_is_int "is_int" = true)
    (kp_d_is_int : PySem.W.keepIn K (.ref f_d_is_int) = true)
    (c_d_is_count : PySem.W.codeIn K cd_d_is_count "is_count" = true)
    (kp_d_is_count : PySem.W.keepIn K (.ref f_d_is_count) = true)
    (c_d_is_life : PySem.W.codeIn K cd_d_is_life "is_life" = true)
    (kp_d_is_life : PySem.W.keepIn K (.ref f_d_is_life) = true)
    (c_d_is_list : PySem.W.codeIn K cd_d_is_list "is_list" = true)
    (kp_d_is_list : PySem.W.keepIn K (.ref f_d_is_list) = true)
    (c_d_is_signs : PySem.W.codeIn K cd_d_is_signs "is_signs" = true)
    (kp_d_is_signs : PySem.W.keepIn K (.ref f_d_is_signs) = true)
    (c_d_is_cell : PySem.W.codeIn K cd_d_is_cell "is_cell" = true)
    (kp_d_is_cell : PySem.W.keepIn K (.ref f_d_is_cell) = true)
    (c_d_is_text : PySem.W.codeIn K cd_d_is_text "is_text" = true)
    (kp_d_is_text : PySem.W.keepIn K (.ref f_d_is_text) = true)
    (c_d_is_line : PySem.W.codeIn K cd_d_is_line "is_line" = true)
    (kp_d_is_line : PySem.W.keepIn K (.ref f_d_is_line) = true)
    (c_d_Tree_init : PySem.W.codeIn K cd_d_Tree_init "Tree.__init__" = true)
    (kp_d_Tree_init : PySem.W.keepIn K (.ref f_d_Tree_init) = true)
    (mk_C_Tree : PySem.W.makesIn K C_Tree = true)
    (i_d_Tree_init : PySem.W.isFn K (.ref f_d_Tree_init) = true)
    (kc_C_Tree : PySem.W.keepIn K (.ref C_Tree) = true)
    (sy_C_Tree_list : PySem.W.subIn K (.ref C_Tree) (.type "list") = some false)
    (sy_C_Tree_tuple : PySem.W.subIn K (.ref C_Tree) (.type "tuple") = some false)
    (sy_C_Tree_bool : PySem.W.subIn K (.ref C_Tree) (.type "bool") = some false)
    (sy_C_Tree_int : PySem.W.subIn K (.ref C_Tree) (.type "int") = some false)
    (sy_C_Tree_str : PySem.W.subIn K (.ref C_Tree) (.type "str") = some false)
    (su_C_Tree_C_Tree : PySem.W.subIn K (.ref C_Tree) (.ref C_Tree) = some true)
    (ty_C_Tree : PySem.W.typeIn K (.ref C_Tree) = some (.type "type"))
    (ncl_ti_Tree : PySem.W.findIn K (.ref C_Tree) "__class__" = some (some (.builtin "object.__class__")))
    (nmo_ti_Tree : PySem.W.mroIn K C_Tree (.type "object") = some true)
    (i_d_Tree___contains__ : PySem.W.isFn K (.ref f_d_Tree___contains__) = true)
    (c_d_Tree___contains__ : PySem.W.codeIn K cd_d_Tree___contains__ "Tree.__contains__" = true)
    (kp_d_Tree___contains__ : PySem.W.keepIn K (.ref f_d_Tree___contains__) = true)
    (c_d_are_roads : PySem.W.codeIn K cd_d_are_roads "_are_roads" = true)
    (kp_d_are_roads : PySem.W.keepIn K (.ref f_d_are_roads) = true)
    (c_d_is_road : PySem.W.codeIn K cd_d_is_road "_is_road" = true)
    (kp_d_is_road : PySem.W.keepIn K (.ref f_d_is_road) = true)
    (c_d_near : PySem.W.codeIn K cd_d_near "_near" = true)
    (kp_d_near : PySem.W.keepIn K (.ref f_d_near) = true)
    (c_d_steps_to : PySem.W.codeIn K cd_d_steps_to "_steps_to" = true)
    (kp_d_steps_to : PySem.W.keepIn K (.ref f_d_steps_to) = true)
    (c_d_are_lines : PySem.W.codeIn K cd_d_are_lines "are_lines" = true)
    (kp_d_are_lines : PySem.W.keepIn K (.ref f_d_are_lines) = true)
    (c_d_are_lines_of : PySem.W.codeIn K cd_d_are_lines_of "are_lines_of" = true)
    (kp_d_are_lines_of : PySem.W.keepIn K (.ref f_d_are_lines_of) = true)
    (c_d_is_row : PySem.W.codeIn K cd_d_is_row "is_row" = true)
    (kp_d_is_row : PySem.W.keepIn K (.ref f_d_is_row) = true)
    (c_d_has_no_key_twice : PySem.W.codeIn K cd_d_has_no_key_twice "has_no_key_twice" = true)
    (kp_d_has_no_key_twice : PySem.W.keepIn K (.ref f_d_has_no_key_twice) = true)
    (c_d_key_of : PySem.W.codeIn K cd_d_key_of "key_of" = true)
    (kp_d_key_of : PySem.W.keepIn K (.ref f_d_key_of) = true)
    (c_d_is_era : PySem.W.codeIn K cd_d_is_era "is_era" = true)
    (kp_d_is_era : PySem.W.keepIn K (.ref f_d_is_era) = true)
    (c_d_is_letter : PySem.W.codeIn K cd_d_is_letter "is_letter" = true)
    (kp_d_is_letter : PySem.W.keepIn K (.ref f_d_is_letter) = true)
    (c_d_is_item : PySem.W.codeIn K cd_d_is_item "_is_item" = true)
    (kp_d_is_item : PySem.W.keepIn K (.ref f_d_is_item) = true)
    (c_d_l_cell : PySem.W.codeIn K cd_d_l_cell "_law_cell" = true)
    (kp_d_l_cell : PySem.W.keepIn K (.ref f_d_l_cell) = true)
    (c_d_l_box : PySem.W.codeIn K cd_d_l_box "_law_box" = true)
    (kp_d_l_box : PySem.W.keepIn K (.ref f_d_l_box) = true)
    (c_d_l_take : PySem.W.codeIn K cd_d_l_take "_law_take" = true)
    (kp_d_l_take : PySem.W.keepIn K (.ref f_d_l_take) = true)
    (c_d_l_mixed : PySem.W.codeIn K cd_d_l_mixed "_law_mixed" = true)
    (kp_d_l_mixed : PySem.W.keepIn K (.ref f_d_l_mixed) = true)
    (c_d_l_tree : PySem.W.codeIn K cd_d_l_tree "_law_tree" = true)
    (kp_d_l_tree : PySem.W.keepIn K (.ref f_d_l_tree) = true)
    (c_d_l_signs : PySem.W.codeIn K cd_d_l_signs "_law_signs" = true)
    (kp_d_l_signs : PySem.W.keepIn K (.ref f_d_l_signs) = true)
    (c_d_l_number : PySem.W.codeIn K cd_d_l_number "_law_number" = true)
    (kp_d_l_number : PySem.W.keepIn K (.ref f_d_l_number) = true)
    (c_d_l_line : PySem.W.codeIn K cd_d_l_line "_law_line" = true)
    (kp_d_l_line : PySem.W.keepIn K (.ref f_d_l_line) = true)
    (c_d_l_lines : PySem.W.codeIn K cd_d_l_lines "_law_lines" = true)
    (kp_d_l_lines : PySem.W.keepIn K (.ref f_d_l_lines) = true)
    (c_d_l_words : PySem.W.codeIn K cd_d_l_words "_law_words" = true)
    (kp_d_l_words : PySem.W.keepIn K (.ref f_d_l_words) = true)
    (c_d_l_letter : PySem.W.codeIn K cd_d_l_letter "_law_letter" = true)
    (kp_d_l_letter : PySem.W.keepIn K (.ref f_d_l_letter) = true)
    (c_d_l_odd : PySem.W.codeIn K cd_d_l_odd "_law_odd" = true)
    (kp_d_l_odd : PySem.W.keepIn K (.ref f_d_l_odd) = true)
    (c_d_l_changed : PySem.W.codeIn K cd_d_l_changed "_law_changed" = true)
    (kp_d_l_changed : PySem.W.keepIn K (.ref f_d_l_changed) = true)
    (c_d_l_twice : PySem.W.codeIn K cd_d_l_twice "_law_twice" = true)
    (kp_d_l_twice : PySem.W.keepIn K (.ref f_d_l_twice) = true)
    (c_d_l_whole : PySem.W.codeIn K cd_d_l_whole "_law_whole" = true)
    (kp_d_l_whole : PySem.W.keepIn K (.ref f_d_l_whole) = true)
    (c_d_l_is_line : PySem.W.codeIn K cd_d_l_is_line "_law_is_line" = true)
    (kp_d_l_is_line : PySem.W.keepIn K (.ref f_d_l_is_line) = true)
    (c_d_l_are_lines : PySem.W.codeIn K cd_d_l_are_lines "_law_are_lines" = true)
    (kp_d_l_are_lines : PySem.W.keepIn K (.ref f_d_l_are_lines) = true)
    (c_d_l_is_era : PySem.W.codeIn K cd_d_l_is_era "_law_is_era" = true)
    (kp_d_l_is_era : PySem.W.keepIn K (.ref f_d_l_is_era) = true)
    (c_d_l_item : PySem.W.codeIn K cd_d_l_item "_law_item" = true)
    (kp_d_l_item : PySem.W.keepIn K (.ref f_d_l_item) = true)
    (c_d_l_is_letter : PySem.W.codeIn K cd_d_l_is_letter "_law_is_letter" = true)
    (kp_d_l_is_letter : PySem.W.keepIn K (.ref f_d_l_is_letter) = true)
    (c_d_l_letter_right : PySem.W.codeIn K cd_d_l_letter_right "_law_letter_right" = true)
    (kp_d_l_letter_right : PySem.W.keepIn K (.ref f_d_l_letter_right) = true)
    (c_d_l_era_right : PySem.W.codeIn K cd_d_l_era_right "_law_era_right" = true)
    (kp_d_l_era_right : PySem.W.keepIn K (.ref f_d_l_era_right) = true)
    (c_d_l_others : PySem.W.codeIn K cd_d_l_others "_law_others" = true)
    (kp_d_l_others : PySem.W.keepIn K (.ref f_d_l_others) = true)
    (c_d_l_right : PySem.W.codeIn K cd_d_l_right "_law_right" = true)
    (kp_d_l_right : PySem.W.keepIn K (.ref f_d_l_right) = true)
    (c_d_law : PySem.W.codeIn K cd_d_law "law" = true)
    (kp_d_law : PySem.W.keepIn K (.ref f_d_law) = true) :
    ∃ fd : FuncData, (∀ (s : Shared) (v : Value), BindsTo s fd ⟨[v], []⟩ [("_law_script", v)]) ∧ ∀ base : Heap, K.In base → base.Ns mainGlobals mg → FnG P w K mg base 11 fa fd ["_law_script"] (spLaw K) := by
  have e := hfa.symm.trans (mg_of X G a_d_law)
  cases e
  have F_x_InvalidHouses := fun_mk (st := s_InvalidHouses_init) l_x_InvalidHouses c_x_InvalidHouses kp_x_InvalidHouses
  have b_x_InvalidHouses := F_x_InvalidHouses.binds (ps := ["self", "given"]) fun _ _ _ _ _ _ us hl => match us, hl with | [_, _], _ => rfl
  have n_E_InvalidHouses : ErrN K C_UnsaidError C_InvalidHouses "InvalidHouses" := ⟨⟨_, _, _, _, _, _, _, _, _, _, _, _, _, xl_E_InvalidHouses⟩, ty_C_InvalidHouses⟩
  have F_x_InvalidRoads := fun_mk (st := s_InvalidRoads_init) l_x_InvalidRoads c_x_InvalidRoads kp_x_InvalidRoads
  have b_x_InvalidRoads := F_x_InvalidRoads.binds (ps := ["self", "given"]) fun _ _ _ _ _ _ us hl => match us, hl with | [_, _], _ => rfl
  have n_E_InvalidRoads : ErrN K C_UnsaidError C_InvalidRoads "InvalidRoads" := ⟨⟨_, _, _, _, _, _, _, _, _, _, _, _, _, xl_E_InvalidRoads⟩, ty_C_InvalidRoads⟩
  have F_x_NotJoined := fun_mk (st := s_NotJoined_init) l_x_NotJoined c_x_NotJoined kp_x_NotJoined
  have b_x_NotJoined := F_x_NotJoined.binds (ps := ["self", "house"]) fun _ _ _ _ _ _ us hl => match us, hl with | [_, _], _ => rfl
  have n_E_NotJoined : ErrN K C_UnsaidError C_NotJoined "NotJoined" := ⟨⟨_, _, _, _, _, _, _, _, _, _, _, _, _, xl_E_NotJoined⟩, ty_C_NotJoined⟩
  have F_d_is_int := fun_mk (st := s_is_int) l_d_is_int c_d_is_int kp_d_is_int
  have F_d_is_count := fun_mk (st := s_is_count) l_d_is_count c_d_is_count kp_d_is_count
  have F_d_is_life := fun_mk (st := s_is_life) l_d_is_life c_d_is_life kp_d_is_life
  have F_d_is_list := fun_mk (st := s_is_list) l_d_is_list c_d_is_list kp_d_is_list
  have F_d_is_signs := fun_mk (st := s_is_signs) l_d_is_signs c_d_is_signs kp_d_is_signs
  have F_d_is_cell := fun_mk (st := s_is_cell) l_d_is_cell c_d_is_cell kp_d_is_cell
  have F_d_is_text := fun_mk (st := s_is_text) l_d_is_text c_d_is_text kp_d_is_text
  have F_d_is_line := fun_mk (st := s_is_line) l_d_is_line c_d_is_line kp_d_is_line
  have F_d_Tree_init := fun_mk (st := s_Tree_init) l_d_Tree_init c_d_Tree_init kp_d_Tree_init
  have b_d_Tree_init := F_d_Tree_init.binds (ps := ["self", "houses", "roads"]) fun _ _ _ _ _ _ us hl => match us, hl with | [_, _, _], _ => rfl
  have F_d_Tree___contains__ := fun_mk (st := s_Tree___contains__) l_d_Tree___contains__ c_d_Tree___contains__ kp_d_Tree___contains__
  have F_d_are_roads := fun_mk (st := s_are_roads) l_d_are_roads c_d_are_roads kp_d_are_roads
  have F_d_is_road := fun_mk (st := s_is_road) l_d_is_road c_d_is_road kp_d_is_road
  have F_d_near := fun_mk (st := s_near) l_d_near c_d_near kp_d_near
  have F_d_steps_to := fun_mk (st := s_steps_to) l_d_steps_to c_d_steps_to kp_d_steps_to
  have F_d_are_lines := fun_mk (st := s_are_lines) l_d_are_lines c_d_are_lines kp_d_are_lines
  have F_d_are_lines_of := fun_mk (st := s_are_lines_of) l_d_are_lines_of c_d_are_lines_of kp_d_are_lines_of
  have F_d_is_row := fun_mk (st := s_is_row) l_d_is_row c_d_is_row kp_d_is_row
  have F_d_has_no_key_twice := fun_mk (st := s_has_no_key_twice) l_d_has_no_key_twice c_d_has_no_key_twice kp_d_has_no_key_twice
  have F_d_key_of := fun_mk (st := s_key_of) l_d_key_of c_d_key_of kp_d_key_of
  have F_d_is_era := fun_mk (st := s_is_era) l_d_is_era c_d_is_era kp_d_is_era
  have F_d_is_letter := fun_mk (st := s_is_letter) l_d_is_letter c_d_is_letter kp_d_is_letter
  have F_d_is_item := fun_mk (st := s_is_item) l_d_is_item c_d_is_item kp_d_is_item
  have F_d_l_cell := fun_mk (st := s_l_cell) l_d_l_cell c_d_l_cell kp_d_l_cell
  have F_d_l_box := fun_mk (st := s_l_box) l_d_l_box c_d_l_box kp_d_l_box
  have F_d_l_take := fun_mk (st := s_l_take) l_d_l_take c_d_l_take kp_d_l_take
  have F_d_l_mixed := fun_mk (st := s_l_mixed) l_d_l_mixed c_d_l_mixed kp_d_l_mixed
  have F_d_l_tree := fun_mk (st := s_l_tree) l_d_l_tree c_d_l_tree kp_d_l_tree
  have F_d_l_signs := fun_mk (st := s_l_signs) l_d_l_signs c_d_l_signs kp_d_l_signs
  have F_d_l_number := fun_mk (st := s_l_number) l_d_l_number c_d_l_number kp_d_l_number
  have F_d_l_line := fun_mk (st := s_l_line) l_d_l_line c_d_l_line kp_d_l_line
  have F_d_l_lines := fun_mk (st := s_l_lines) l_d_l_lines c_d_l_lines kp_d_l_lines
  have F_d_l_words := fun_mk (st := s_l_words) l_d_l_words c_d_l_words kp_d_l_words
  have F_d_l_letter := fun_mk (st := s_l_letter) l_d_l_letter c_d_l_letter kp_d_l_letter
  have F_d_l_odd := fun_mk (st := s_l_odd) l_d_l_odd c_d_l_odd kp_d_l_odd
  have F_d_l_changed := fun_mk (st := s_l_changed) l_d_l_changed c_d_l_changed kp_d_l_changed
  have F_d_l_twice := fun_mk (st := s_l_twice) l_d_l_twice c_d_l_twice kp_d_l_twice
  have F_d_l_whole := fun_mk (st := s_l_whole) l_d_l_whole c_d_l_whole kp_d_l_whole
  have F_d_l_is_line := fun_mk (st := s_l_is_line) l_d_l_is_line c_d_l_is_line kp_d_l_is_line
  have F_d_l_are_lines := fun_mk (st := s_l_are_lines) l_d_l_are_lines c_d_l_are_lines kp_d_l_are_lines
  have F_d_l_is_era := fun_mk (st := s_l_is_era) l_d_l_is_era c_d_l_is_era kp_d_l_is_era
  have F_d_l_item := fun_mk (st := s_l_item) l_d_l_item c_d_l_item kp_d_l_item
  have F_d_l_is_letter := fun_mk (st := s_l_is_letter) l_d_l_is_letter c_d_l_is_letter kp_d_l_is_letter
  have F_d_l_letter_right := fun_mk (st := s_l_letter_right) l_d_l_letter_right c_d_l_letter_right kp_d_l_letter_right
  have F_d_l_era_right := fun_mk (st := s_l_era_right) l_d_l_era_right c_d_l_era_right kp_d_l_era_right
  have F_d_l_others := fun_mk (st := s_l_others) l_d_l_others c_d_l_others kp_d_l_others
  have F_d_l_right := fun_mk (st := s_l_right) l_d_l_right c_d_l_right kp_d_l_right
  have F_d_law := fun_mk (st := s_law) l_d_law c_d_law kp_d_law
  let T : Tx K mg w.params := {
    C_UnsaidError := C_UnsaidError,
    C_InvalidHouses := C_InvalidHouses,
    E_InvalidHouses := ⟨⟨f_x_InvalidHouses, _, ⟨mg_of X G g_E_InvalidHouses, ⟨⟨_, _, _, _, _, _, _, _, _, _, _, _, _, _, _, xl_E_InvalidHouses, refs_U _⟩, sa_E_InvalidHouses, n_E_InvalidHouses.eb, ty_C_InvalidHouses, kc_C_InvalidHouses⟩, a_x_InvalidHouses, ti_E_InvalidHouses, ⟨ga_E_InvalidHouses, gt_E_InvalidHouses, n_E_InvalidHouses.eb, hd_C_InvalidHouses, ncl_E_InvalidHouses, nsp, ntk, n_E_InvalidHouses.mo⟩⟩, fun P w base => ok_xi F_x_InvalidHouses sc_InvalidHouses_init rfl (by decide) (by decide), b_x_InvalidHouses, fun us ws h1 h2 => match us, ws, h1, h2 with | [_], [_], _, _ => rfl⟩, nf_E_InvalidHouses_given, n_E_InvalidHouses⟩,
    C_InvalidRoads := C_InvalidRoads,
    E_InvalidRoads := ⟨⟨f_x_InvalidRoads, _, ⟨mg_of X G g_E_InvalidRoads, ⟨⟨_, _, _, _, _, _, _, _, _, _, _, _, _, _, _, xl_E_InvalidRoads, refs_U _⟩, sa_E_InvalidRoads, n_E_InvalidRoads.eb, ty_C_InvalidRoads, kc_C_InvalidRoads⟩, a_x_InvalidRoads, ti_E_InvalidRoads, ⟨ga_E_InvalidRoads, gt_E_InvalidRoads, n_E_InvalidRoads.eb, hd_C_InvalidRoads, ncl_E_InvalidRoads, nsp, ntk, n_E_InvalidRoads.mo⟩⟩, fun P w base => ok_xi F_x_InvalidRoads sc_InvalidRoads_init rfl (by decide) (by decide), b_x_InvalidRoads, fun us ws h1 h2 => match us, ws, h1, h2 with | [_], [_], _, _ => rfl⟩, nf_E_InvalidRoads_given, n_E_InvalidRoads⟩,
    C_NotJoined := C_NotJoined,
    E_NotJoined := ⟨⟨f_x_NotJoined, _, ⟨mg_of X G g_E_NotJoined, ⟨⟨_, _, _, _, _, _, _, _, _, _, _, _, _, _, _, xl_E_NotJoined, refs_U _⟩, sa_E_NotJoined, n_E_NotJoined.eb, ty_C_NotJoined, kc_C_NotJoined⟩, a_x_NotJoined, ti_E_NotJoined, ⟨ga_E_NotJoined, gt_E_NotJoined, n_E_NotJoined.eb, hd_C_NotJoined, ncl_E_NotJoined, nsp, ntk, n_E_NotJoined.mo⟩⟩, fun P w base => ok_xi F_x_NotJoined sc_NotJoined_init rfl (by decide) (by decide), b_x_NotJoined, fun us ws h1 h2 => match us, ws, h1, h2 with | [_], [_], _, _ => rfl⟩, nf_E_NotJoined_house, n_E_NotJoined⟩,
    m_UnsaidError := mg_of X G g_m_UnsaidError,
    u_UnsaidError := UsE.of xl_u_UnsaidError ty_C_UnsaidError eb_C_UnsaidError hd_C_UnsaidError,
    t_MOST_HOUSES := t_MOST_HOUSES,
    g_MOST_HOUSES := mg_of X G g_g_MOST_HOUSES,
    t_MOST_LETTERS := t_MOST_LETTERS,
    g_MOST_LETTERS := mg_of X G g_g_MOST_LETTERS,
    t_MOST_SIGNS := t_MOST_SIGNS,
    g_MOST_SIGNS := mg_of X G g_g_MOST_SIGNS,
    C_FORMS := C_FORMS,
    A_FORMS_halt := A_FORMS_halt,
    A_FORMS_held := A_FORMS_held,
    A_FORMS_sure := A_FORMS_sure,
    A_FORMS_still := A_FORMS_still,
    A_FORMS_elder := A_FORMS_elder,
    A_FORMS_take := A_FORMS_take,
    A_FORMS_taken := A_FORMS_taken,
    A_FORMS_have := A_FORMS_have,
    A_FORMS_lines := A_FORMS_lines,
    m_FORMS := mg_of X G g_m_FORMS,
    w_FORMS := WDict.mk' [t_w_FORMS_0, t_w_FORMS_1, t_w_FORMS_2, t_w_FORMS_3, t_w_FORMS_4, t_w_FORMS_5, t_w_FORMS_6, t_w_FORMS_7, t_w_FORMS_8] lo_w_FORMS l_w_FORMS rfl l_zzw_FORMS,
    q_FORMS_halt := ⟨_, _, _, l_zzzq_FORMS_halt, lc_q_FORMS_halt, ld_q_FORMS_halt, (show 0 ≤ sizeLine from by decide +kernel), .nil⟩,
    q_FORMS_held := ⟨_, _, _, l_zzzq_FORMS_held, lc_q_FORMS_held, ld_q_FORMS_held, (show 3 ≤ sizeLine from by decide +kernel), (.cons ⟨_, rfl⟩ (.cons ⟨_, rfl⟩ (.cons ⟨_, rfl⟩ .nil)))⟩,
    q_FORMS_sure := ⟨_, _, _, l_zzzq_FORMS_sure, lc_q_FORMS_sure, ld_q_FORMS_sure, (show 0 ≤ sizeLine from by decide +kernel), .nil⟩,
    q_FORMS_still := ⟨_, _, _, l_zzzq_FORMS_still, lc_q_FORMS_still, ld_q_FORMS_still, (show 2 ≤ sizeLine from by decide +kernel), (.cons ⟨_, rfl⟩ (.cons ⟨_, rfl⟩ .nil))⟩,
    q_FORMS_elder := ⟨_, _, _, l_zzzq_FORMS_elder, lc_q_FORMS_elder, ld_q_FORMS_elder, (show 0 ≤ sizeLine from by decide +kernel), .nil⟩,
    q_FORMS_take := ⟨_, _, _, l_zzzq_FORMS_take, lc_q_FORMS_take, ld_q_FORMS_take, (show 3 ≤ sizeLine from by decide +kernel), (.cons ⟨_, rfl⟩ (.cons ⟨_, rfl⟩ (.cons ⟨_, rfl⟩ .nil)))⟩,
    q_FORMS_taken := ⟨_, _, _, l_zzzq_FORMS_taken, lc_q_FORMS_taken, ld_q_FORMS_taken, (show 1 ≤ sizeLine from by decide +kernel), (.cons ⟨_, rfl⟩ .nil)⟩,
    q_FORMS_have := ⟨_, _, _, l_zzzq_FORMS_have, lc_q_FORMS_have, ld_q_FORMS_have, (show 2 ≤ sizeLine from by decide +kernel), (.cons ⟨_, rfl⟩ (.cons ⟨_, rfl⟩ .nil))⟩,
    q_FORMS_lines := ⟨_, _, _, l_zzzq_FORMS_lines, lc_q_FORMS_lines, ld_q_FORMS_lines, (show 3 ≤ sizeLine from by decide +kernel), (.cons ⟨_, rfl⟩ (.cons ⟨_, rfl⟩ (.cons ⟨_, rfl⟩ .nil)))⟩,
    C_Tree := C_Tree,
    cl_Tree := ⟨pg_C_Tree, hd_C_Tree, po_C_Tree, sa_C_Tree⟩,
    m_Tree := mg_of X G g_m_Tree,
    na_Tree_houses := h_na_Tree_houses_C_Tree,
    na_Tree_roads := h_na_Tree_roads_C_Tree,
    na_Tree_near := h_na_Tree_near_C_Tree,
    na_Tree_steps := h_na_Tree_steps_C_Tree,
    n_abs := mg_none_of X G z_n_abs,
    n_all := mg_none_of X G z_n_all,
    n_bool := mg_none_of X G z_n_bool,
    n_int := mg_none_of X G z_n_int,
    n_isinstance := mg_none_of X G z_n_isinstance,
    n_len := mg_none_of X G z_n_len,
    n_list := mg_none_of X G z_n_list,
    n_max := mg_none_of X G z_n_max,
    n_min := mg_none_of X G z_n_min,
    n_range := mg_none_of X G z_n_range,
    n_repr := mg_none_of X G z_n_repr,
    n_sorted := mg_none_of X G z_n_sorted,
    n_str := mg_none_of X G z_n_str,
    n_sum := mg_none_of X G z_n_sum,
    n_tuple := mg_none_of X G z_n_tuple,
    n_zip := mg_none_of X G z_n_zip,
    d_is_int := ⟨f_d_is_int, _, F_d_is_int, mg_of X G a_d_is_int, fun us hl => match us, hl with | [_], _ => rfl, fun us ws h1 h2 => match us, ws, h1, h2 with | [], [_], _, _ => rfl⟩,
    d_is_count := ⟨f_d_is_count, _, F_d_is_count, mg_of X G a_d_is_count, fun us hl => match us, hl with | [_], _ => rfl, fun us ws h1 h2 => match us, ws, h1, h2 with | [], [_], _, _ => rfl⟩,
    d_is_life := ⟨f_d_is_life, _, F_d_is_life, mg_of X G a_d_is_life, fun us hl => match us, hl with | [_], _ => rfl, fun us ws h1 h2 => match us, ws, h1, h2 with | [], [_], _, _ => rfl⟩,
    d_is_list := ⟨f_d_is_list, _, F_d_is_list, mg_of X G a_d_is_list, fun us hl => match us, hl with | [_], _ => rfl, fun us ws h1 h2 => match us, ws, h1, h2 with | [], [_], _, _ => rfl⟩,
    d_is_signs := ⟨f_d_is_signs, _, F_d_is_signs, mg_of X G a_d_is_signs, fun us hl => match us, hl with | [_], _ => rfl, fun us ws h1 h2 => match us, ws, h1, h2 with | [], [_], _, _ => rfl⟩,
    d_is_cell := ⟨f_d_is_cell, _, F_d_is_cell, mg_of X G a_d_is_cell, fun us hl => match us, hl with | [_], _ => rfl, fun us ws h1 h2 => match us, ws, h1, h2 with | [], [_], _, _ => rfl⟩,
    d_is_text := ⟨f_d_is_text, _, F_d_is_text, mg_of X G a_d_is_text, fun us hl => match us, hl with | [_], _ => rfl, fun us ws h1 h2 => match us, ws, h1, h2 with | [], [_], _, _ => rfl⟩,
    d_is_line := ⟨f_d_is_line, _, F_d_is_line, mg_of X G a_d_is_line, fun us hl => match us, hl with | [_], _ => rfl, fun us ws h1 h2 => match us, ws, h1, h2 with | [], [_], _, _ => rfl⟩,
    d_Tree_init := ⟨f_d_Tree_init, _, F_d_Tree_init, b_d_Tree_init, fun us ws h1 h2 => match us, ws, h1, h2 with | [_], [_, _], _, _ => rfl⟩,
    k_Tree := ⟨mk_C_Tree, a_d_Tree_init, i_d_Tree_init, kc_C_Tree⟩,
    ky_Tree_list := kit_typ (by decide +kernel) sy_C_Tree_list,
    ky_Tree_tuple := kit_typ (by decide +kernel) sy_C_Tree_tuple,
    ky_Tree_bool := kit_typ (by decide +kernel) sy_C_Tree_bool,
    ky_Tree_int := kit_typ (by decide +kernel) sy_C_Tree_int,
    ky_Tree_str := kit_typ (by decide +kernel) sy_C_Tree_str,
    i_Tree_Tree := PySem.W.kit_ref hd_C_Tree ty_C_Tree su_C_Tree_C_Tree,
    ti_Tree := ⟨ncl_ti_Tree, nsp, ntk, nmo_ti_Tree⟩,
    d_Tree___contains__ := ⟨f_d_Tree___contains__, _, F_d_Tree___contains__, ⟨a_d_Tree___contains__, i_d_Tree___contains__, kp_d_Tree___contains__⟩, fun us hl => match us, hl with | [_, _], _ => rfl, fun us ws h1 h2 => match us, ws, h1, h2 with | [_], [_], _, _ => rfl⟩,
    d_are_roads := ⟨f_d_are_roads, _, F_d_are_roads, mg_of X G a_d_are_roads, fun us hl => match us, hl with | [_, _], _ => rfl, fun us ws h1 h2 => match us, ws, h1, h2 with | [], [_, _], _, _ => rfl⟩,
    d_is_road := ⟨f_d_is_road, _, F_d_is_road, mg_of X G a_d_is_road, fun us hl => match us, hl with | [_, _], _ => rfl, fun us ws h1 h2 => match us, ws, h1, h2 with | [], [_, _], _, _ => rfl⟩,
    d_near := ⟨f_d_near, _, F_d_near, mg_of X G a_d_near, fun us hl => match us, hl with | [_, _], _ => rfl, fun us ws h1 h2 => match us, ws, h1, h2 with | [], [_, _], _, _ => rfl⟩,
    d_steps_to := ⟨f_d_steps_to, _, F_d_steps_to, mg_of X G a_d_steps_to, fun us hl => match us, hl with | [_, _], _ => rfl, fun us ws h1 h2 => match us, ws, h1, h2 with | [], [_, _], _, _ => rfl⟩,
    d_are_lines := ⟨f_d_are_lines, _, F_d_are_lines, mg_of X G a_d_are_lines, fun us hl => match us, hl with | [_], _ => rfl, fun us ws h1 h2 => match us, ws, h1, h2 with | [], [_], _, _ => rfl⟩,
    d_are_lines_of := ⟨f_d_are_lines_of, _, F_d_are_lines_of, mg_of X G a_d_are_lines_of, fun us hl => match us, hl with | [_, _], _ => rfl, fun us ws h1 h2 => match us, ws, h1, h2 with | [], [_, _], _, _ => rfl⟩,
    d_is_row := ⟨f_d_is_row, _, F_d_is_row, mg_of X G a_d_is_row, fun us hl => match us, hl with | [_, _], _ => rfl, fun us ws h1 h2 => match us, ws, h1, h2 with | [], [_, _], _, _ => rfl⟩,
    d_has_no_key_twice := ⟨f_d_has_no_key_twice, _, F_d_has_no_key_twice, mg_of X G a_d_has_no_key_twice, fun us hl => match us, hl with | [_], _ => rfl, fun us ws h1 h2 => match us, ws, h1, h2 with | [], [_], _, _ => rfl⟩,
    d_key_of := ⟨f_d_key_of, _, F_d_key_of, mg_of X G a_d_key_of, fun us hl => match us, hl with | [_], _ => rfl, fun us ws h1 h2 => match us, ws, h1, h2 with | [], [_], _, _ => rfl⟩,
    d_is_era := ⟨f_d_is_era, _, F_d_is_era, mg_of X G a_d_is_era, fun us hl => match us, hl with | [_], _ => rfl, fun us ws h1 h2 => match us, ws, h1, h2 with | [], [_], _, _ => rfl⟩,
    d_is_letter := ⟨f_d_is_letter, _, F_d_is_letter, mg_of X G a_d_is_letter, fun us hl => match us, hl with | [_, _], _ => rfl, fun us ws h1 h2 => match us, ws, h1, h2 with | [], [_, _], _, _ => rfl⟩,
    d_is_item := ⟨f_d_is_item, _, F_d_is_item, mg_of X G a_d_is_item, fun us hl => match us, hl with | [_, _, _], _ => rfl, fun us ws h1 h2 => match us, ws, h1, h2 with | [], [_, _, _], _, _ => rfl⟩,
    d_l_cell := ⟨f_d_l_cell, _, F_d_l_cell, mg_of X G a_d_l_cell, fun us hl => match us, hl with | [_, _], _ => rfl, fun us ws h1 h2 => match us, ws, h1, h2 with | [], [_, _], _, _ => rfl⟩,
    d_l_box := ⟨f_d_l_box, _, F_d_l_box, mg_of X G a_d_l_box, fun us hl => match us, hl with | [_], _ => rfl, fun us ws h1 h2 => match us, ws, h1, h2 with | [], [_], _, _ => rfl⟩,
    d_l_take := ⟨f_d_l_take, _, F_d_l_take, mg_of X G a_d_l_take, fun us hl => match us, hl with | [_, _], _ => rfl, fun us ws h1 h2 => match us, ws, h1, h2 with | [], [_, _], _, _ => rfl⟩,
    d_l_mixed := ⟨f_d_l_mixed, _, F_d_l_mixed, mg_of X G a_d_l_mixed, fun us hl => match us, hl with | [_, _], _ => rfl, fun us ws h1 h2 => match us, ws, h1, h2 with | [], [_, _], _, _ => rfl⟩,
    d_l_tree := ⟨f_d_l_tree, _, F_d_l_tree, mg_of X G a_d_l_tree, fun us hl => match us, hl with | [_, _], _ => rfl, fun us ws h1 h2 => match us, ws, h1, h2 with | [], [_, _], _, _ => rfl⟩,
    d_l_signs := ⟨f_d_l_signs, _, F_d_l_signs, mg_of X G a_d_l_signs, fun us hl => match us, hl with | [], _ => rfl, fun us ws h1 h2 => match us, ws, h1, h2 with | [], [], _, _ => rfl⟩,
    d_l_number := ⟨f_d_l_number, _, F_d_l_number, mg_of X G a_d_l_number, fun us hl => match us, hl with | [_], _ => rfl, fun us ws h1 h2 => match us, ws, h1, h2 with | [], [_], _, _ => rfl⟩,
    d_l_line := ⟨f_d_l_line, _, F_d_l_line, mg_of X G a_d_l_line, fun us hl => match us, hl with | [_, _], _ => rfl, fun us ws h1 h2 => match us, ws, h1, h2 with | [], [_, _], _, _ => rfl⟩,
    d_l_lines := ⟨f_d_l_lines, _, F_d_l_lines, mg_of X G a_d_l_lines, fun us hl => match us, hl with | [_, _], _ => rfl, fun us ws h1 h2 => match us, ws, h1, h2 with | [], [_, _], _, _ => rfl⟩,
    d_l_words := ⟨f_d_l_words, _, F_d_l_words, mg_of X G a_d_l_words, fun us hl => match us, hl with | [], _ => rfl, fun us ws h1 h2 => match us, ws, h1, h2 with | [], [], _, _ => rfl⟩,
    d_l_letter := ⟨f_d_l_letter, _, F_d_l_letter, mg_of X G a_d_l_letter, fun us hl => match us, hl with | [_, _], _ => rfl, fun us ws h1 h2 => match us, ws, h1, h2 with | [], [_, _], _, _ => rfl⟩,
    d_l_odd := ⟨f_d_l_odd, _, F_d_l_odd, mg_of X G a_d_l_odd, fun us hl => match us, hl with | [_, _, _], _ => rfl, fun us ws h1 h2 => match us, ws, h1, h2 with | [], [_, _, _], _, _ => rfl⟩,
    d_l_changed := ⟨f_d_l_changed, _, F_d_l_changed, mg_of X G a_d_l_changed, fun us hl => match us, hl with | [_, _, _, _], _ => rfl, fun us ws h1 h2 => match us, ws, h1, h2 with | [], [_, _, _, _], _, _ => rfl⟩,
    d_l_twice := ⟨f_d_l_twice, _, F_d_l_twice, mg_of X G a_d_l_twice, fun us hl => match us, hl with | [_, _], _ => rfl, fun us ws h1 h2 => match us, ws, h1, h2 with | [], [_, _], _, _ => rfl⟩,
    d_l_whole := ⟨f_d_l_whole, _, F_d_l_whole, mg_of X G a_d_l_whole, fun us hl => match us, hl with | [_, _], _ => rfl, fun us ws h1 h2 => match us, ws, h1, h2 with | [], [_, _], _, _ => rfl⟩,
    d_l_is_line := ⟨f_d_l_is_line, _, F_d_l_is_line, mg_of X G a_d_l_is_line, fun us hl => match us, hl with | [_, _], _ => rfl, fun us ws h1 h2 => match us, ws, h1, h2 with | [], [_, _], _, _ => rfl⟩,
    d_l_are_lines := ⟨f_d_l_are_lines, _, F_d_l_are_lines, mg_of X G a_d_l_are_lines, fun us hl => match us, hl with | [_, _], _ => rfl, fun us ws h1 h2 => match us, ws, h1, h2 with | [], [_, _], _, _ => rfl⟩,
    d_l_is_era := ⟨f_d_l_is_era, _, F_d_l_is_era, mg_of X G a_d_l_is_era, fun us hl => match us, hl with | [_], _ => rfl, fun us ws h1 h2 => match us, ws, h1, h2 with | [], [_], _, _ => rfl⟩,
    d_l_item := ⟨f_d_l_item, _, F_d_l_item, mg_of X G a_d_l_item, fun us hl => match us, hl with | [_, _, _], _ => rfl, fun us ws h1 h2 => match us, ws, h1, h2 with | [], [_, _, _], _, _ => rfl⟩,
    d_l_is_letter := ⟨f_d_l_is_letter, _, F_d_l_is_letter, mg_of X G a_d_l_is_letter, fun us hl => match us, hl with | [_, _], _ => rfl, fun us ws h1 h2 => match us, ws, h1, h2 with | [], [_, _], _, _ => rfl⟩,
    d_l_letter_right := ⟨f_d_l_letter_right, _, F_d_l_letter_right, mg_of X G a_d_l_letter_right, fun us hl => match us, hl with | [_, _, _, _], _ => rfl, fun us ws h1 h2 => match us, ws, h1, h2 with | [], [_, _, _, _], _, _ => rfl⟩,
    d_l_era_right := ⟨f_d_l_era_right, _, F_d_l_era_right, mg_of X G a_d_l_era_right, fun us hl => match us, hl with | [_, _], _ => rfl, fun us ws h1 h2 => match us, ws, h1, h2 with | [], [_, _], _, _ => rfl⟩,
    d_l_others := ⟨f_d_l_others, _, F_d_l_others, mg_of X G a_d_l_others, fun us hl => match us, hl with | [_, _], _ => rfl, fun us ws h1 h2 => match us, ws, h1, h2 with | [], [_, _], _, _ => rfl⟩,
    d_l_right := ⟨f_d_l_right, _, F_d_l_right, mg_of X G a_d_l_right, fun us hl => match us, hl with | [_], _ => rfl, fun us ws h1 h2 => match us, ws, h1, h2 with | [], [_], _, _ => rfl⟩,
    d_law := ⟨fa, _, F_d_law, mg_of X G a_d_law, fun us hl => match us, hl with | [_], _ => rfl, fun us ws h1 h2 => match us, ws, h1, h2 with | [], [_], _, _ => rfl⟩ }
  exact ⟨_, fun s v => .of_eq rfl, fun base _ _ => ok_law T⟩
end K32

open PySem PySem.W PyProof.Rows
set_option maxRecDepth 100000 in
set_option maxHeartbeats 0 in
theorem PySem.Challenge.cw_neverunsaid_k32_letters_judged_holds : PySem.Challenge.rw_neverunsaid_k32_letters_judged.Holds := by
  w_on; o_law; k_head; (case hw => w_witness2)
  k_fill
  refine Nv.walkG (l := PySem.Challenge.rw_neverunsaid_k32_letters_judged) (n := 63) (k := 11) (x := "_law_script") (sp := K32.spLaw) rfl (by decide) rfl ⟨rfl, by decide, by decide⟩ (fun w h Y => PySem.W.kIn_of Y) ?F ?S
  case F =>
    intro w mg fa h KX G hmg
    refine' K32.all_mk KX G hmg ?g_E_InvalidHouses ?g_E_InvalidRoads ?g_E_NotJoined ?g_m_UnsaidError ?g_g_MOST_HOUSES ?g_g_MOST_LETTERS ?g_g_MOST_SIGNS ?g_m_FORMS ?g_m_Tree ?a_x_InvalidHouses ?a_x_InvalidRoads ?a_x_NotJoined ?a_d_is_int ?a_d_is_count ?a_d_is_life ?a_d_is_list ?a_d_is_signs ?a_d_is_cell ?a_d_is_text ?a_d_is_line ?a_d_Tree_init ?a_d_Tree___contains__ ?a_d_are_roads ?a_d_is_road ?a_d_near ?a_d_steps_to ?a_d_are_lines ?a_d_are_lines_of ?a_d_is_row ?a_d_has_no_key_twice ?a_d_key_of ?a_d_is_era ?a_d_is_letter ?a_d_is_item ?a_d_l_cell ?a_d_l_box ?a_d_l_take ?a_d_l_mixed ?a_d_l_tree ?a_d_l_signs ?a_d_l_number ?a_d_l_line ?a_d_l_lines ?a_d_l_words ?a_d_l_letter ?a_d_l_odd ?a_d_l_changed ?a_d_l_twice ?a_d_l_whole ?a_d_l_is_line ?a_d_l_are_lines ?a_d_l_is_era ?a_d_l_item ?a_d_l_is_letter ?a_d_l_letter_right ?a_d_l_era_right ?a_d_l_others ?a_d_l_right ?a_d_law ?l_x_InvalidHouses ?l_x_InvalidRoads ?l_x_NotJoined ?l_w_FORMS ?l_d_is_int ?l_d_is_count ?l_d_is_life ?l_d_is_list ?l_d_is_signs ?l_d_is_cell ?l_d_is_text ?l_d_is_line ?l_d_Tree_init ?l_d_Tree___contains__ ?l_d_are_roads ?l_d_is_road ?l_d_near ?l_d_steps_to ?l_d_are_lines ?l_d_are_lines_of ?l_d_is_row ?l_d_has_no_key_twice ?l_d_key_of ?l_d_is_era ?l_d_is_letter ?l_d_is_item ?l_d_l_cell ?l_d_l_box ?l_d_l_take ?l_d_l_mixed ?l_d_l_tree ?l_d_l_signs ?l_d_l_number ?l_d_l_line ?l_d_l_lines ?l_d_l_words ?l_d_l_letter ?l_d_l_odd ?l_d_l_changed ?l_d_l_twice ?l_d_l_whole ?l_d_l_is_line ?l_d_l_are_lines ?l_d_l_is_era ?l_d_l_item ?l_d_l_is_letter ?l_d_l_letter_right ?l_d_l_era_right ?l_d_l_others ?l_d_l_right ?l_d_law ?l_zzw_FORMS ?l_zzzq_FORMS_halt ?l_zzzq_FORMS_held ?l_zzzq_FORMS_sure ?l_zzzq_FORMS_still ?l_zzzq_FORMS_elder ?l_zzzq_FORMS_take ?l_zzzq_FORMS_taken ?l_zzzq_FORMS_have ?l_zzzq_FORMS_lines ?xl_E_InvalidHouses ?xl_E_InvalidRoads ?xl_E_NotJoined ?xl_u_UnsaidError ?c_x_InvalidHouses ?kp_x_InvalidHouses ?ty_C_InvalidHouses ?sa_E_InvalidHouses ?kc_C_InvalidHouses ?ti_E_InvalidHouses ?nf_E_InvalidHouses_given ?ga_E_InvalidHouses ?gt_E_InvalidHouses ?hd_C_InvalidHouses ?ncl_E_InvalidHouses ?nsp ?ntk ?c_x_InvalidRoads ?kp_x_InvalidRoads ?ty_C_InvalidRoads ?sa_E_InvalidRoads ?kc_C_InvalidRoads ?ti_E_InvalidRoads ?nf_E_InvalidRoads_given ?ga_E_InvalidRoads ?gt_E_InvalidRoads ?hd_C_InvalidRoads ?ncl_E_InvalidRoads ?c_x_NotJoined ?kp_x_NotJoined ?ty_C_NotJoined ?sa_E_NotJoined ?kc_C_NotJoined ?ti_E_NotJoined ?nf_E_NotJoined_house ?ga_E_NotJoined ?gt_E_NotJoined ?hd_C_NotJoined ?ncl_E_NotJoined ?ty_C_UnsaidError ?eb_C_UnsaidError ?hd_C_UnsaidError ?lo_w_FORMS ?lc_q_FORMS_halt ?ld_q_FORMS_halt ?lc_q_FORMS_held ?ld_q_FORMS_held ?lc_q_FORMS_sure ?ld_q_FORMS_sure ?lc_q_FORMS_still ?ld_q_FORMS_still ?lc_q_FORMS_elder ?ld_q_FORMS_elder ?lc_q_FORMS_take ?ld_q_FORMS_take ?lc_q_FORMS_taken ?ld_q_FORMS_taken ?lc_q_FORMS_have ?ld_q_FORMS_have ?lc_q_FORMS_lines ?ld_q_FORMS_lines ?pg_C_Tree ?hd_C_Tree ?po_C_Tree ?sa_C_Tree ?h_na_Tree_houses_C_Tree ?h_na_Tree_roads_C_Tree ?h_na_Tree_near_C_Tree ?h_na_Tree_steps_C_Tree ?z_n_abs ?z_n_all ?z_n_bool ?z_n_int ?z_n_isinstance ?z_n_len ?z_n_list ?z_n_max ?z_n_min ?z_n_range ?z_n_repr ?z_n_sorted ?z_n_str ?z_n_sum ?z_n_tuple ?z_n_zip ?c_d_is_int ?kp_d_is_int ?c_d_is_count ?kp_d_is_count ?c_d_is_life ?kp_d_is_life ?c_d_is_list ?kp_d_is_list ?c_d_is_signs ?kp_d_is_signs ?c_d_is_cell ?kp_d_is_cell ?c_d_is_text ?kp_d_is_text ?c_d_is_line ?kp_d_is_line ?c_d_Tree_init ?kp_d_Tree_init ?mk_C_Tree ?i_d_Tree_init ?kc_C_Tree ?sy_C_Tree_list ?sy_C_Tree_tuple ?sy_C_Tree_bool ?sy_C_Tree_int ?sy_C_Tree_str ?su_C_Tree_C_Tree ?ty_C_Tree ?ncl_ti_Tree ?nmo_ti_Tree ?i_d_Tree___contains__ ?c_d_Tree___contains__ ?kp_d_Tree___contains__ ?c_d_are_roads ?kp_d_are_roads ?c_d_is_road ?kp_d_is_road ?c_d_near ?kp_d_near ?c_d_steps_to ?kp_d_steps_to ?c_d_are_lines ?kp_d_are_lines ?c_d_are_lines_of ?kp_d_are_lines_of ?c_d_is_row ?kp_d_is_row ?c_d_has_no_key_twice ?kp_d_has_no_key_twice ?c_d_key_of ?kp_d_key_of ?c_d_is_era ?kp_d_is_era ?c_d_is_letter ?kp_d_is_letter ?c_d_is_item ?kp_d_is_item ?c_d_l_cell ?kp_d_l_cell ?c_d_l_box ?kp_d_l_box ?c_d_l_take ?kp_d_l_take ?c_d_l_mixed ?kp_d_l_mixed ?c_d_l_tree ?kp_d_l_tree ?c_d_l_signs ?kp_d_l_signs ?c_d_l_number ?kp_d_l_number ?c_d_l_line ?kp_d_l_line ?c_d_l_lines ?kp_d_l_lines ?c_d_l_words ?kp_d_l_words ?c_d_l_letter ?kp_d_l_letter ?c_d_l_odd ?kp_d_l_odd ?c_d_l_changed ?kp_d_l_changed ?c_d_l_twice ?kp_d_l_twice ?c_d_l_whole ?kp_d_l_whole ?c_d_l_is_line ?kp_d_l_is_line ?c_d_l_are_lines ?kp_d_l_are_lines ?c_d_l_is_era ?kp_d_l_is_era ?c_d_l_item ?kp_d_l_item ?c_d_l_is_letter ?kp_d_l_is_letter ?c_d_l_letter_right ?kp_d_l_letter_right ?c_d_l_era_right ?kp_d_l_era_right ?c_d_l_others ?kp_d_l_others ?c_d_l_right ?kp_d_l_right ?c_d_law ?kp_d_law
    (case g_E_InvalidHouses => k_is)
    (case g_E_InvalidRoads => k_is)
    (case g_E_NotJoined => k_is)
    (case g_m_UnsaidError => k_is)
    (case g_g_MOST_HOUSES => k_is)
    (case g_g_MOST_LETTERS => k_is)
    (case g_g_MOST_SIGNS => k_is)
    (case g_m_FORMS => k_is)
    (case g_m_Tree => k_is)
    (case a_x_InvalidHouses => k_is)
    (case a_x_InvalidRoads => k_is)
    (case a_x_NotJoined => k_is)
    (case a_d_is_int => k_is)
    (case a_d_is_count => k_is)
    (case a_d_is_life => k_is)
    (case a_d_is_list => k_is)
    (case a_d_is_signs => k_is)
    (case a_d_is_cell => k_is)
    (case a_d_is_text => k_is)
    (case a_d_is_line => k_is)
    (case a_d_Tree_init => k_is)
    (case a_d_Tree___contains__ => k_is)
    (case a_d_are_roads => k_is)
    (case a_d_is_road => k_is)
    (case a_d_near => k_is)
    (case a_d_steps_to => k_is)
    (case a_d_are_lines => k_is)
    (case a_d_are_lines_of => k_is)
    (case a_d_is_row => k_is)
    (case a_d_has_no_key_twice => k_is)
    (case a_d_key_of => k_is)
    (case a_d_is_era => k_is)
    (case a_d_is_letter => k_is)
    (case a_d_is_item => k_is)
    (case a_d_l_cell => k_is)
    (case a_d_l_box => k_is)
    (case a_d_l_take => k_is)
    (case a_d_l_mixed => k_is)
    (case a_d_l_tree => k_is)
    (case a_d_l_signs => k_is)
    (case a_d_l_number => k_is)
    (case a_d_l_line => k_is)
    (case a_d_l_lines => k_is)
    (case a_d_l_words => k_is)
    (case a_d_l_letter => k_is)
    (case a_d_l_odd => k_is)
    (case a_d_l_changed => k_is)
    (case a_d_l_twice => k_is)
    (case a_d_l_whole => k_is)
    (case a_d_l_is_line => k_is)
    (case a_d_l_are_lines => k_is)
    (case a_d_l_is_era => k_is)
    (case a_d_l_item => k_is)
    (case a_d_l_is_letter => k_is)
    (case a_d_l_letter_right => k_is)
    (case a_d_l_era_right => k_is)
    (case a_d_l_others => k_is)
    (case a_d_l_right => k_is)
    (case a_d_law => k_is)
    (case l_x_InvalidHouses => k_is)
    (case l_x_InvalidRoads => k_is)
    (case l_x_NotJoined => k_is)
    (case l_w_FORMS => k_is)
    (case l_d_is_int => k_is)
    (case l_d_is_count => k_is)
    (case l_d_is_life => k_is)
    (case l_d_is_list => k_is)
    (case l_d_is_signs => k_is)
    (case l_d_is_cell => k_is)
    (case l_d_is_text => k_is)
    (case l_d_is_line => k_is)
    (case l_d_Tree_init => k_is)
    (case l_d_Tree___contains__ => k_is)
    (case l_d_are_roads => k_is)
    (case l_d_is_road => k_is)
    (case l_d_near => k_is)
    (case l_d_steps_to => k_is)
    (case l_d_are_lines => k_is)
    (case l_d_are_lines_of => k_is)
    (case l_d_is_row => k_is)
    (case l_d_has_no_key_twice => k_is)
    (case l_d_key_of => k_is)
    (case l_d_is_era => k_is)
    (case l_d_is_letter => k_is)
    (case l_d_is_item => k_is)
    (case l_d_l_cell => k_is)
    (case l_d_l_box => k_is)
    (case l_d_l_take => k_is)
    (case l_d_l_mixed => k_is)
    (case l_d_l_tree => k_is)
    (case l_d_l_signs => k_is)
    (case l_d_l_number => k_is)
    (case l_d_l_line => k_is)
    (case l_d_l_lines => k_is)
    (case l_d_l_words => k_is)
    (case l_d_l_letter => k_is)
    (case l_d_l_odd => k_is)
    (case l_d_l_changed => k_is)
    (case l_d_l_twice => k_is)
    (case l_d_l_whole => k_is)
    (case l_d_l_is_line => k_is)
    (case l_d_l_are_lines => k_is)
    (case l_d_l_is_era => k_is)
    (case l_d_l_item => k_is)
    (case l_d_l_is_letter => k_is)
    (case l_d_l_letter_right => k_is)
    (case l_d_l_era_right => k_is)
    (case l_d_l_others => k_is)
    (case l_d_l_right => k_is)
    (case l_d_law => k_is)
    (case l_zzw_FORMS => rfl)
    (case l_zzzq_FORMS_halt => k_is)
    (case l_zzzq_FORMS_held => k_is)
    (case l_zzzq_FORMS_sure => k_is)
    (case l_zzzq_FORMS_still => k_is)
    (case l_zzzq_FORMS_elder => k_is)
    (case l_zzzq_FORMS_take => k_is)
    (case l_zzzq_FORMS_taken => k_is)
    (case l_zzzq_FORMS_have => k_is)
    (case l_zzzq_FORMS_lines => k_is)
    (case xl_E_InvalidHouses => k_is)
    (case xl_E_InvalidRoads => k_is)
    (case xl_E_NotJoined => k_is)
    (case xl_u_UnsaidError => k_is)
    (case c_x_InvalidHouses => k_is)
    (case kp_x_InvalidHouses => k_is)
    (case ty_C_InvalidHouses => k_is)
    (case sa_E_InvalidHouses => k_is)
    (case kc_C_InvalidHouses => k_is)
    (case ti_E_InvalidHouses => k_is)
    (case nf_E_InvalidHouses_given => k_is)
    (case ga_E_InvalidHouses => k_is)
    (case gt_E_InvalidHouses => k_is)
    (case hd_C_InvalidHouses => k_is)
    (case ncl_E_InvalidHouses => k_is)
    (case nsp => k_is)
    (case ntk => k_is)
    (case c_x_InvalidRoads => k_is)
    (case kp_x_InvalidRoads => k_is)
    (case ty_C_InvalidRoads => k_is)
    (case sa_E_InvalidRoads => k_is)
    (case kc_C_InvalidRoads => k_is)
    (case ti_E_InvalidRoads => k_is)
    (case nf_E_InvalidRoads_given => k_is)
    (case ga_E_InvalidRoads => k_is)
    (case gt_E_InvalidRoads => k_is)
    (case hd_C_InvalidRoads => k_is)
    (case ncl_E_InvalidRoads => k_is)
    (case c_x_NotJoined => k_is)
    (case kp_x_NotJoined => k_is)
    (case ty_C_NotJoined => k_is)
    (case sa_E_NotJoined => k_is)
    (case kc_C_NotJoined => k_is)
    (case ti_E_NotJoined => k_is)
    (case nf_E_NotJoined_house => k_is)
    (case ga_E_NotJoined => k_is)
    (case gt_E_NotJoined => k_is)
    (case hd_C_NotJoined => k_is)
    (case ncl_E_NotJoined => k_is)
    (case ty_C_UnsaidError => k_is)
    (case eb_C_UnsaidError => k_is)
    (case hd_C_UnsaidError => k_is)
    (case lo_w_FORMS => rfl)
    (case lc_q_FORMS_halt => rfl)
    (case ld_q_FORMS_halt => rfl)
    (case lc_q_FORMS_held => rfl)
    (case ld_q_FORMS_held => rfl)
    (case lc_q_FORMS_sure => rfl)
    (case ld_q_FORMS_sure => rfl)
    (case lc_q_FORMS_still => rfl)
    (case ld_q_FORMS_still => rfl)
    (case lc_q_FORMS_elder => rfl)
    (case ld_q_FORMS_elder => rfl)
    (case lc_q_FORMS_take => rfl)
    (case ld_q_FORMS_take => rfl)
    (case lc_q_FORMS_taken => rfl)
    (case ld_q_FORMS_taken => rfl)
    (case lc_q_FORMS_have => rfl)
    (case ld_q_FORMS_have => rfl)
    (case lc_q_FORMS_lines => rfl)
    (case ld_q_FORMS_lines => rfl)
    (case pg_C_Tree => k_is)
    (case hd_C_Tree => k_is)
    (case po_C_Tree => k_is)
    (case sa_C_Tree => k_is)
    (case h_na_Tree_houses_C_Tree => k_is)
    (case h_na_Tree_roads_C_Tree => k_is)
    (case h_na_Tree_near_C_Tree => k_is)
    (case h_na_Tree_steps_C_Tree => k_is)
    (case z_n_abs => k_is)
    (case z_n_all => k_is)
    (case z_n_bool => k_is)
    (case z_n_int => k_is)
    (case z_n_isinstance => k_is)
    (case z_n_len => k_is)
    (case z_n_list => k_is)
    (case z_n_max => k_is)
    (case z_n_min => k_is)
    (case z_n_range => k_is)
    (case z_n_repr => k_is)
    (case z_n_sorted => k_is)
    (case z_n_str => k_is)
    (case z_n_sum => k_is)
    (case z_n_tuple => k_is)
    (case z_n_zip => k_is)
    (case c_d_is_int => k_is)
    (case kp_d_is_int => k_is)
    (case c_d_is_count => k_is)
    (case kp_d_is_count => k_is)
    (case c_d_is_life => k_is)
    (case kp_d_is_life => k_is)
    (case c_d_is_list => k_is)
    (case kp_d_is_list => k_is)
    (case c_d_is_signs => k_is)
    (case kp_d_is_signs => k_is)
    (case c_d_is_cell => k_is)
    (case kp_d_is_cell => k_is)
    (case c_d_is_text => k_is)
    (case kp_d_is_text => k_is)
    (case c_d_is_line => k_is)
    (case kp_d_is_line => k_is)
    (case c_d_Tree_init => k_is)
    (case kp_d_Tree_init => k_is)
    (case mk_C_Tree => k_is)
    (case i_d_Tree_init => k_is)
    (case kc_C_Tree => k_is)
    (case sy_C_Tree_list => k_is)
    (case sy_C_Tree_tuple => k_is)
    (case sy_C_Tree_bool => k_is)
    (case sy_C_Tree_int => k_is)
    (case sy_C_Tree_str => k_is)
    (case su_C_Tree_C_Tree => k_is)
    (case ty_C_Tree => k_is)
    (case ncl_ti_Tree => k_is)
    (case nmo_ti_Tree => k_is)
    (case i_d_Tree___contains__ => k_is)
    (case c_d_Tree___contains__ => k_is)
    (case kp_d_Tree___contains__ => k_is)
    (case c_d_are_roads => k_is)
    (case kp_d_are_roads => k_is)
    (case c_d_is_road => k_is)
    (case kp_d_is_road => k_is)
    (case c_d_near => k_is)
    (case kp_d_near => k_is)
    (case c_d_steps_to => k_is)
    (case kp_d_steps_to => k_is)
    (case c_d_are_lines => k_is)
    (case kp_d_are_lines => k_is)
    (case c_d_are_lines_of => k_is)
    (case kp_d_are_lines_of => k_is)
    (case c_d_is_row => k_is)
    (case kp_d_is_row => k_is)
    (case c_d_has_no_key_twice => k_is)
    (case kp_d_has_no_key_twice => k_is)
    (case c_d_key_of => k_is)
    (case kp_d_key_of => k_is)
    (case c_d_is_era => k_is)
    (case kp_d_is_era => k_is)
    (case c_d_is_letter => k_is)
    (case kp_d_is_letter => k_is)
    (case c_d_is_item => k_is)
    (case kp_d_is_item => k_is)
    (case c_d_l_cell => k_is)
    (case kp_d_l_cell => k_is)
    (case c_d_l_box => k_is)
    (case kp_d_l_box => k_is)
    (case c_d_l_take => k_is)
    (case kp_d_l_take => k_is)
    (case c_d_l_mixed => k_is)
    (case kp_d_l_mixed => k_is)
    (case c_d_l_tree => k_is)
    (case kp_d_l_tree => k_is)
    (case c_d_l_signs => k_is)
    (case kp_d_l_signs => k_is)
    (case c_d_l_number => k_is)
    (case kp_d_l_number => k_is)
    (case c_d_l_line => k_is)
    (case kp_d_l_line => k_is)
    (case c_d_l_lines => k_is)
    (case kp_d_l_lines => k_is)
    (case c_d_l_words => k_is)
    (case kp_d_l_words => k_is)
    (case c_d_l_letter => k_is)
    (case kp_d_l_letter => k_is)
    (case c_d_l_odd => k_is)
    (case kp_d_l_odd => k_is)
    (case c_d_l_changed => k_is)
    (case kp_d_l_changed => k_is)
    (case c_d_l_twice => k_is)
    (case kp_d_l_twice => k_is)
    (case c_d_l_whole => k_is)
    (case kp_d_l_whole => k_is)
    (case c_d_l_is_line => k_is)
    (case kp_d_l_is_line => k_is)
    (case c_d_l_are_lines => k_is)
    (case kp_d_l_are_lines => k_is)
    (case c_d_l_is_era => k_is)
    (case kp_d_l_is_era => k_is)
    (case c_d_l_item => k_is)
    (case kp_d_l_item => k_is)
    (case c_d_l_is_letter => k_is)
    (case kp_d_l_is_letter => k_is)
    (case c_d_l_letter_right => k_is)
    (case kp_d_l_letter_right => k_is)
    (case c_d_l_era_right => k_is)
    (case kp_d_l_era_right => k_is)
    (case c_d_l_others => k_is)
    (case kp_d_l_others => k_is)
    (case c_d_l_right => k_is)
    (case kp_d_l_right => k_is)
    (case c_d_law => k_is)
    (case kp_d_law => k_is)
  case S => exact fun K H a ns hl hS => ⟨a, ns, rfl, hS, hl, fun _ => rfl⟩
