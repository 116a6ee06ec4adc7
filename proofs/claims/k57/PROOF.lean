import PyProof.Rows.All
import Wide.All
import OpenK.AllK
import Wide.FinOn
import HandS.ForMost
import HandS.ForExc
import HandS.IsInst
import HandS.StrMore
import HandS.Style
import HandS.Property
import HandS.Flow
import HandS.TryMany
import HandS.ExcInit
import HandS.ExcIs
import HandS.ExcField
import HandS.Defaults
import HandS.Wide
import HandS.Walk
import HandS.FStr
import HandS.Conv
import HandS.SortInts
import HandS.More
import PyProof.CallFns
import PyProof.FString3
import PyProof.Rows.StrIntSpec
import PyProof.P3Eq
import HandS.HotCalls
import PyProof.InstEq
import HandS.Small
import PyProof.Rows.StrSplitMax
import PyProof.StrLawsIn
import PyProof.FitsReplace
import PyProof.ReprRoads
import HandS.NamedTupGet
import HandS.OwnEq
import HandS.MakeKw
import PyProof.StrLawsChain
import HandS.Zip
import HandS.Zip0
import HandS.WrittenGet
import PyProof.ZipIter
import HandS.Sort
import HandS.TupAny
import HandS.RaiseMore
import PyProof.Rows.StrCase
import HandS.StrSplit
import HandS.Codes
import PySem.Challenge.RW_neverunsaid_k57_acts_as_lines
set_option Elab.async false
set_option linter.all false
set_option maxRecDepth 100000
set_option maxHeartbeats 4000000
namespace Nv
open PySem PySem.Spec PyProof.Rows L2

/-- a def's promise where no repr is under way -/
structure FnG (P : Program) (w : World) (K : PySem.W.Frag) (mg : Str → Option Value) (base : Heap) (k : Nat)
    (f : Addr) (fd : FuncData) (ps : List Str) (sp : Sp) : Prop where
  len : ∀ vs H Q E, sp vs H Q E → vs.length = ps.length
  run : ∀ (A : Around) (outer : List Env) (s : Shared) (H : Hp) (args : Args) (us : List Value) (vs : List V) (Q : VK) (E : XK),
    A.guards = some [] → Room k A → Env0 P w K mg base A outer s H → BindsTo s fd args (ps.zip us) → Vals vs us →
    sp vs H Q E → codeAny (model P w) A (.call (.ref f) args) (CR (L2.CX P w) outer P w H s Q E) s

section
variable {P : Program} {w : World} {K : PySem.W.Frag} {mg : Str → Option Value} {base : Heap} {k : Nat}
    {f : Addr} {fd : FuncData} {ps : List Str} {sp : Sp}
theorem FnG.mono {j : Nat} (F : FnG P w K mg base j f fd ps sp) (h : j ≤ k) : FnG P w K mg base k f fd ps sp :=
  ⟨F.len, fun A o s H a us vs Q E hg hr => F.run A o s H a us vs Q E hg (hr.mono h)⟩
theorem FnG.imp {sp' : Sp} (F : FnG P w K mg base k f fd ps sp) (h : ∀ vs H Q E, sp' vs H Q E → sp vs H Q E) :
    FnG P w K mg base k f fd ps sp' :=
  ⟨fun vs H Q E z => F.len vs H Q E (h _ _ _ _ z),
    fun A o s H a us vs Q E hg hr he hb hv hs => F.run A o s H a us vs Q E hg hr he hb hv (h _ _ _ _ hs)⟩
/-- a def by its body -/
theorem okG {x qual : Str} {st : Stmt} {N : List Str} (F : Fun K x qual st f fd) (S : FnScope N ps (defScope st))
    (len : ∀ vs H Q E, sp vs H Q E → vs.length = ps.length)
    (body : ∀ (cdv : Value) (A : Around) (outer : List Env) (s : Shared) (H : Hp) (vs : List V) (Q : VK) (E : XK),
      A.guards = some [] → Room k (A.deeper (envOfC qual (defScope st) s.heap.objs.size f cdv)) → sp vs H Q E →
      ∃ t, PSs (cxOf (L2.CX P w) P w K mg base N qual (defScope st) f cdv A outer s H E) (defBody st) t ∧
        t { nx := fun _ H' => Q .non H', rt := Q } (start N vs) H) :
    FnG P w K mg base (k + 1) f fd ps sp := by
  obtain ⟨oc, od, kV, doc, pm, an, cdv, ct, osl, rfl, lk, hcd⟩ := F.ex
  refine ⟨len, ?_⟩
  intro A outer s H args us vs Q E hg hr e0 hb r hsp
  have hl := len _ _ _ _ hsp
  have stays : ∀ b o, base.get? b = some o → s.heap.get? b = some o := fun b o e => (e0.bs b o e).1
  have KX : K.In s.heap := e0.mod.kin.keeps stays
  have kinds : ∀ y ∈ ps.zip us, (defScope st).names.lookup y.1 = some .local ∨
      ((defScope st).names.lookup y.1 = some .cell ∧
        ((cellsFrom (s.heap.objs.size + 1) (defScope st).names []).lookup y.1).isSome = true) := by
    intro y hy
    rcases S.par y.1 (List.of_mem_zip (a := y.1) (b := y.2) hy).1 with q | q
    · exact Or.inl q
    · exact Or.inr ⟨q, PySem.W.cellsFrom_some _ _ _ (Or.inl q)⟩
  refine codeAny_call_function hr.depth (KX _ _ lk) rfl S.co S.gen rfl (PySem.W.codeRec_of KX hcd) (hb _ _ _ _ ?_)
  refine wpAny_newFunctionEnv_cells S.kind kinds ?_
  intro env he s1 x
  subst he
  refine ⟨(e0.mod.nolimit.keeps stays).keeps x.toInCall.keep, codeAny_func ?_⟩
  obtain ⟨t, ht, hq⟩ := body cdv A outer s H vs Q E hg (hr.deeper _) hsp
  have I := inv_start (CX := L2.CX P w) (E := E) S hr.hd e0 hl r x
  refine wpAny_mono (ht.run [] s1 (start N vs) H _ I hq) ?_ (fun _ _ z => z)
  intro fl s' hs
  have fin : ∀ {σ' : L2.St} {H' : Hp} {v : V} {u : Value},
      Inv (cxOf (L2.CX P w) P w K mg base N qual (defScope st) f cdv A outer s H E) [] σ' H' s' → RelV v u → Q v H' →
      CE outer P w H s Q u s' := fun {σ' H' v u} J rv q => ⟨v, H', J.os, J.bare, J.base, J.hok, rv, q⟩
  cases fl with
  | next => obtain ⟨_, _, J, q⟩ := hs; exact fin (v := V.non) (u := Value.none) J rfl q
  | ret u => obtain ⟨_, _, _, J, rv, q⟩ := hs; exact fin J rv q
  | brk => obtain ⟨_, _, _, q⟩ := hs; exact q.elim
  | cont => obtain ⟨_, _, _, q⟩ := hs; exact q.elim
end

/-! calls -/
section
variable {X : Cx} {W : WX} {k : Nat} {f C : Addr} {fd : FuncData} {ps ks : List Str} {sp : Sp} {x m : Str}
    {p pos apos : Pos} {e o : Expr} {es : List Expr} {kws : List Keyword} {ta : TE} {t tk' : TA}
theorem runG {pins : List (Addr × Obj)} {σ : L2.St} {H : Hp} {s : Shared} {Q : VK} {us us2 : List Value} {vs : List V} {kw : List (Str × Value)}
    (F : FnG X.prog X.w X.K X.mg X.base k f fd ps sp) (tk : Takes X W) (hG : X.A.guards = some []) (hr : Room k X.A)
    (hb : BindsTo s fd ⟨us, kw⟩ (ps.zip us2)) (I : Inv X pins σ H s) (r : Vals vs us2) (h : sp vs H Q (WE W σ)) :
    wpAny (model X.prog X.w) X.A (call (.ref f) us kw) (EP X pins σ Q) X.xe s := by
  refine wpAny_call (codeAny_mono (F.run X.A X.stack s H ⟨us, kw⟩ us2 vs Q (WE W σ) hG hr I.env0 hb r h) ?_)
  intro r s' hq
  cases r with
  | error er => exact passAt tk σ pins H s er s' I hq
  | ok fl =>
    cases fl with
    | ret u => exact I.after hq
    | next => exact hq.elim
    | brk => exact hq.elim
    | cont => exact hq.elim
theorem lenG {us : List Value} {vs : List V} {H : Hp} {Q : VK} {E : XK} (F : FnG X.prog X.w X.K X.mg X.base k f fd ps sp)
    (r : Vals vs us) (h : sp vs H Q E) : us.length = ps.length := by
  rw [← r.length]
  exact F.len _ _ _ _ h
/-- all parameters are given by position -/
def Pos1 (fd : FuncData) (ps : List Str) : Prop := ∀ us : List Value, us.length = ps.length → bindArgs fd ⟨us, []⟩ = pure (ps.zip us)
/-- n parameters are given by position, those behind them by their names -/
def Kw1 (fd : FuncData) (ps ks : List Str) (n : Nat) : Prop :=
  ∀ us ws : List Value, us.length = n → ws.length = ks.length → bindArgs fd ⟨us, ks.zip ws⟩ = pure (ps.zip (us ++ ws))
/-- f(e, ..), also where it may raise -/
def tCG (sp : Sp) (W : WX) (t : TA) : TE := fun σ H Q => t σ H fun vs H1 => sp vs H1 Q (WE W σ)
theorem pe_cG (F : FnG X.prog X.w X.K X.mg X.base k f fd ps sp) (b : Pos1 fd ps) (tk : Takes X W) (hG : X.A.guards = some []) (hr : Room k X.A)
    (hm : X.mg x = some (.ref f)) (hk : PySem.W.keepIn X.K (.ref f) = true) (ha : PA X (e :: es) t) (hg : Gl X x := by rfl)
    (hdb : (x == ("__debug__" : Str)) = false := by decide) (he : starEach (e :: es) X.env = (false, eval e X.env) :: starEach es X.env := by rfl)
    (hpl : (backTo pos (starEach es X.env)).any (·.1) = false := by rfl) : PE X (.Call (.Name x p) (e :: es) [] pos) (tCG sp W t) := by
  constructor
  intro pins s σ H Q I h
  refine wpAny_Call_Name_kw (ld_glob I hg hm ?_ hdb)
  refine PySem.W.callWith_K (h₀ := X.base) I.ok.mod.kin hk (thn (ha.run pos pins s σ H _ I h) ?_) he hpl
  intro us s1 ⟨vs, H1, I1, r, q⟩
  exact ⟨I1.kIn, runG F tk hG hr (.of_eq (b _ (lenG F r q))) I1 r q⟩
theorem pe_cG0 (F : FnG X.prog X.w X.K X.mg X.base k f fd ps sp) (b : Pos1 fd ps) (tk : Takes X W) (hG : X.A.guards = some []) (hr : Room k X.A)
    (hm : X.mg x = some (.ref f)) (hk : PySem.W.keepIn X.K (.ref f) = true) (hg : Gl X x := by rfl)
    (hdb : (x == ("__debug__" : Str)) = false := by decide) : PE X (.Call (.Name x p) [] [] pos) (tCG sp W tNil) := by
  constructor
  intro pins s σ H Q I h
  refine wpAny_Call_Name_kw (ld_glob I hg hm ?_ hdb)
  exact PySem.W.callWith_K0 I.kIn hk (runG F tk hG hr (.of_eq (b [] (lenG F .nil h))) I .nil h)
/-- f(k = e, ..), keywords in the parameters' order -/
theorem pe_cGk (F : FnG X.prog X.w X.K X.mg X.base k f fd ps sp) (b : Kw1 fd ps ks 0) (hlen : ps.length = ks.length) (tk : Takes X W) (hG : X.A.guards = some []) (hr : Room k X.A)
    (hm : X.mg x = some (.ref f)) (hk : PySem.W.keepIn X.K (.ref f) = true) (ha : PK X kws t) (hg : Gl X x := by rfl)
    (hall : (backToKw pos (keywordEach kws X.env)).all (·.1.isSome) = true := by rfl) (hks : (backToKw pos (keywordEach kws X.env)).filterMap (·.1) = ks := by rfl)
    (hdb : (x == ("__debug__" : Str)) = false := by decide)
    (hpl : ((backTo pos (starEach [] X.env)).any (·.1) || (backToKw pos (keywordEach kws X.env)).any (·.1.isNone)) = false := by rfl) :
    PE X (.Call (.Name x p) [] kws pos) (tCG sp W t) := by
  constructor
  intro pins s σ H Q I h
  refine wpAny_Call_Name_kw (ld_glob I hg hm ?_ hdb)
  refine PySem.W.callWith_KW0 (h₀ := X.base) I.ok.mod.kin hk hall ?_ hpl
  refine thn (ha.run pos pins s σ H _ I h) ?_
  intro ws s2 ⟨zs, H2, I2, rz, q2⟩
  refine ⟨I2.kIn, ?_⟩
  rw [hks]
  exact runG F tk hG hr (.of_eq (b [] ws rfl ((lenG F rz q2).trans hlen))) I2 rz q2
/-- o.m(e, ..) -/
def tMG (C : Addr) (m : Str) (sp : Sp) (W : WX) (ta : TE) (t : TA) : TE := fun σ H Q => ta σ H fun x H1 => ∃ a dx fs, x = .ref a ∧ H1 a = some (.ins C dx fs) ∧
  fs.lookup m = none ∧ t σ H1 fun vs H2 => sp (x :: vs) H2 Q (WE W σ)
theorem pe_mG {pl : Sem Bool} (he : PE X o ta) (c : Cls X.K C) (hm : Meth X.K C m f) (F : FnG X.prog X.w X.K X.mg X.base k f fd ps sp) (b : Pos1 fd ps) (tk : Takes X W)
    (hG : X.A.guards = some []) (hr : Room k X.A) (ha : PA X (e :: es) t)
    (hst : starEach (e :: es) X.env = (false, eval e X.env) :: starEach es X.env := by rfl) (hpl : (backTo pos (starEach es X.env)).any (·.1) = false := by rfl)
    (ht : eval (.Call (.Attribute o m apos) (e :: es) [] pos) X.env = (do
      let ov ← eval o X.env
      standAt apos.atName
      let (f, first) ← holding [ov] (getMethod ov m pl)
      callWith pos f first (backTo pos (starEach (e :: es) X.env)) (backToKw pos (keywordEach [] X.env))) := by rfl) :
    PE X (.Call (.Attribute o m apos) (e :: es) [] pos) (tMG C m sp W ta t) := by
  constructor
  intro pins s σ H Q I h
  refine PySem.W.methodCall_KW (pl := pl) (thn (he.run pins s σ H _ I h) ?_) ht
  intro u s1 ⟨x, H1, I1, rx, a, dx, fs, ex, ea, l, q⟩
  subst ex
  obtain rfl : u = Value.ref a := rx
  refine getmeth_ok I1 ea c hm l ?_
  refine PySem.W.callWith_K (first := [.ref a]) (h₀ := X.base) I.ok.mod.kin hm.kp (thn (ha.run pos pins s1 σ H1 _ I1 q) ?_) hst hpl
  intro us s2 ⟨vs, H2, I2, r, q2⟩
  have r2 : Vals (V.ref a :: vs) (Value.ref a :: us) := .cons rfl r
  exact ⟨I2.kIn, runG (us := .ref a :: us) F tk hG hr (.of_eq (b _ (lenG F r2 q2))) I2 r2 q2⟩
theorem pe_mG0 {pl : Sem Bool} (he : PE X o ta) (c : Cls X.K C) (hm : Meth X.K C m f) (F : FnG X.prog X.w X.K X.mg X.base k f fd ps sp) (b : Pos1 fd ps) (tk : Takes X W)
    (hG : X.A.guards = some []) (hr : Room k X.A)
    (ht : eval (.Call (.Attribute o m apos) [] [] pos) X.env = (do
      let ov ← eval o X.env
      standAt apos.atName
      let (f, first) ← holding [ov] (getMethod ov m pl)
      callWith pos f first (backTo pos (starEach [] X.env)) (backToKw pos (keywordEach [] X.env))) := by rfl) :
    PE X (.Call (.Attribute o m apos) [] [] pos) (tMG C m sp W ta tNil) := by
  constructor
  intro pins s σ H Q I h
  refine PySem.W.methodCall_KW (pl := pl) (thn (he.run pins s σ H _ I h) ?_) ht
  intro u s1 ⟨x, H1, I1, rx, a, dx, fs, ex, ea, l, q⟩
  subst ex
  obtain rfl : u = Value.ref a := rx
  refine getmeth_ok I1 ea c hm l ?_
  have r2 : Vals [V.ref a] [Value.ref a] := .cons rfl .nil
  exact PySem.W.callWith_K0 (first := [.ref a]) I1.kIn hm.kp (runG (us := [.ref a]) F tk hG hr (.of_eq (b _ (lenG F r2 q))) I1 r2 q)
/-- o.m(k = e, ..) -/
theorem pe_mGk {pl : Sem Bool} (he : PE X o ta) (c : Cls X.K C) (hm : Meth X.K C m f) (F : FnG X.prog X.w X.K X.mg X.base k f fd ps sp) (b : Kw1 fd ps ks 1) (hlen : ps.length = ks.length + 1) (tk : Takes X W)
    (hG : X.A.guards = some []) (hr : Room k X.A) (ha : PK X kws t)
    (hall : (backToKw pos (keywordEach kws X.env)).all (·.1.isSome) = true := by rfl) (hks : (backToKw pos (keywordEach kws X.env)).filterMap (·.1) = ks := by rfl)
    (hpl : ((backTo pos (starEach [] X.env)).any (·.1) || (backToKw pos (keywordEach kws X.env)).any (·.1.isNone)) = false := by rfl)
    (ht : eval (.Call (.Attribute o m apos) [] kws pos) X.env = (do
      let ov ← eval o X.env
      standAt apos.atName
      let (f, first) ← holding [ov] (getMethod ov m pl)
      callWith pos f first (backTo pos (starEach [] X.env)) (backToKw pos (keywordEach kws X.env))) := by rfl) :
    PE X (.Call (.Attribute o m apos) [] kws pos) (tMG C m sp W ta t) := by
  constructor
  intro pins s σ H Q I h
  refine PySem.W.methodCall_KW (pl := pl) (thn (he.run pins s σ H _ I h) ?_) ht
  intro u s1 ⟨x, H1, I1, rx, a, dx, fs, ex, ea, l, q⟩
  subst ex
  obtain rfl : u = Value.ref a := rx
  refine getmeth_ok I1 ea c hm l ?_
  refine PySem.W.callWith_KW0 (first := [.ref a]) (h₀ := X.base) I.ok.mod.kin hm.kp hall ?_ hpl
  refine thn (ha.run pos pins s1 σ H1 _ I1 q) ?_
  intro ws s2 ⟨zs, H2, I2, rz, q2⟩
  refine ⟨I2.kIn, ?_⟩
  rw [hks]
  have r2 : Vals (V.ref a :: zs) (Value.ref a :: ws) := .cons rfl rz
  have hw : ws.length = ks.length := by
    have z := lenG F r2 q2
    rw [List.length_cons, hlen] at z
    omega
  exact runG (us := [.ref a]) F tk hG hr (.of_eq (b [.ref a] ws rfl hw)) I2 r2 q2
end
end Nv

namespace Nv
open PySem PySem.Spec PyProof.Rows L2

/-- the law's call, from an abstract heap that tracks the script alone or nothing -/
theorem law_from {P : Program} {w : World} {K : PySem.W.Frag} {mg mb : Str → Option Value} {k : Nat} {fa a : Addr} {fd : FuncData} {x : Str} {sp : Sp}
    {s₁ : Shared} {vs : List Value} {H : Hp}
    (KX : K.In s₁.heap) (hns : s₁.heap.Ns mainGlobals mg) (hb : s₁.heap.Ns builtinsNs mb) (hbb : ∀ x : Str, x ≠ "__name__" → mb x = bootBuiltins x)
    (hlim : s₁.heap.NoLimit) (hg : s₁.gens = #[]) (ha : s₁.heap.get? a = some { cls := .type "list", data := .seq vs.toArray }) (hr : Room k callerA)
    (F : ∀ base : Heap, K.In base → base.Ns mainGlobals mg → FnG P w K mg base k fa fd [x] sp) (hbind : ∀ (s : Shared) (u : Value), BindsTo s fd ⟨[u], []⟩ [(x, u)])
    (hok : HOk P w H s₁.heap) (only : ∀ b, H b = none ∨ (b = a ∧ K.lookup a = none ∧ ∃ o xs, H b = some (.frz o (.lst xs))))
    (hsp : sp [.ref a] H (fun v _ => v = .bl true) fun _ _ _ => False) :
    codeAny (model P w) callerA (.call (.ref fa) ⟨[.ref a], []⟩)
      (fun r s' => r = .ok (.ret (.bool true)) ∧ OldK s₁.heap s'.heap ∧ s'.os = s₁.os ∧ AllBare s'.gens) s₁ := by
  have notA : ∀ {b : Addr} {o : Obj} {es : Array DictEntry} {ep : Nat}, s₁.heap.get? b = some o → o.data = .dict es ep → H b = none := by
    intro b o es ep e d
    rcases only b with z | ⟨z, _, _⟩
    · exact z
    · subst z
      rw [ha] at e
      cases e
      cases (show Data.seq vs.toArray _ = Data.dict es ep from d)
  have nsKeep : ∀ {b : Addr} {m : Str → Option Value}, s₁.heap.Ns b m → (hidT s₁.heap H).Ns b m := by
    intro b m ⟨o, es, ep, e, d, r⟩
    exact ⟨o, es, ep, hidT_get e (notA e d), d, r⟩
  have kin : K.In (hidT s₁.heap H) := by
    intro b o e
    refine hidT_get (KX b o e) ?_
    rcases only b with z | ⟨z, z2, _⟩
    · exact z
    · rw [z, z2] at e
      cases e
  have lim : (hidT s₁.heap H).NoLimit := by
    obtain ⟨mc, h1, h2⟩ := hlim
    exact ⟨mc, nsKeep h1, h2⟩
  have md : Mod K mg (hidT s₁.heap H) := ⟨kin, nsKeep hns, ⟨mb, nsKeep hb, hbb⟩, lim⟩
  have noF : ∀ b : Addr, b ∉ frs [] := fun b z => by
    cases (show b ∈ ([] : List Addr) from z)
  have e0 : Env0 P w K mg (hidT s₁.heap H) callerA [] s₁ H :=
    ⟨rfl, md, fun b o e => of_hidT e, Nat.le_of_eq (hidT_size _ _), trivial, fun b z => absurd z (noF b), hok, .of_eq hg⟩
  refine codeAny_mono ((F _ kin (nsKeep hns)).run callerA [] s₁ H ⟨[.ref a], []⟩ [.ref a] [.ref a] _ _ rfl hr e0 (hbind s₁ (.ref a)) (.cons rfl .nil) hsp) ?_
  intro r s' h
  cases r with
  | error e =>
    obtain ⟨_, _, _, _, _, _, _, _, _, _, _, _, z⟩ := h
    exact z.elim
  | ok fl =>
    cases fl with
    | next => exact h.elim
    | brk => exact h.elim
    | cont => exact h.elim
    | ret u =>
      obtain ⟨v, H', os, bare, un, hok', rv, q⟩ := h
      have q1 : v = .bl true := q
      subst q1
      obtain rfl : u = Value.bool true := rv
      refine ⟨rfl, OldK.of_keep ?_, os, bare⟩
      intro b o e
      rcases only b with z | ⟨_, _, ob, xs, z⟩
      · exact un.keep b o e z (noF b) (fun z => by cases z)
      · have z2 := un.frzs b ob _ z
        have e1 := (hok b _ z).1
        have e2 := (hok' b _ z2).1
        rw [e] at e1
        cases e1
        exact e2

/-- the end of a law's row: its promise as a FnG -/
theorem walkG {l : PySem.W.OpenLaw} {n k : Nat} {q : Program} {loose : List Str} {XP : (Str → Option Value) → Heap → Prop} {YP : World → Heap → Prop}
    {d : DefRec} {K : Params → PySem.W.Frag} {sp : PySem.W.Frag → Sp} {x : Str}
    (hn : l.most = some n) (hn2 : n ≤ sizeLine) (hdf : d.params.defaults = []) (hr : Room k callerA)
    (hY : ∀ (w : World) (h : Heap), YP w h → (K w.params).In h)
    (F : ∀ (w : World) (mg : Str → Option Value) (fa : Addr) (h : Heap), (K w.params).In h → h.Ns mainGlobals mg → mg d.name = some (.ref fa) →
      ∃ fd : FuncData, (∀ (s : Shared) (u : Value), BindsTo s fd ⟨[u], []⟩ [(x, u)]) ∧
        ∀ base : Heap, (K w.params).In base → base.Ns mainGlobals mg → FnG l.prog w (K w.params) mg base k fa fd [x] (sp (K w.params)))
    (hsp : ∀ (K : PySem.W.Frag) (H : Hp) (a : Addr) (ns : List Int), ns.length ≤ n → SqL K H a (ns.map V.int) → sp K [.ref a] H (fun v _ => v = .bl true) fun _ _ _ => False) :
    PySem.W.WalkO q loose XP YP l.row.toRowW d [] (fun f vs => PySem.call f vs) := by
  refine Att.attach_call hn hdf ?_
  intro w s₀ s₁ mg mb fa o pm cd doc a vs ns G Y ho hd hcd hmg hobj hints hlen hg
  have KX := hY w _ Y
  obtain ⟨fd, hb, hF⟩ := F w mg fa _ KX G.T.g hmg
  have rv := vals_ints hints
  have lv := hints.length
  have hlz : ns.length ≤ sizeLine := Nat.le_trans hlen hn2
  cases hk : (K w.params).lookup a with
  | some ob =>
    have e := KX a ob hk
    rw [hobj] at e
    cases e
    refine law_from (H := fun _ => none) KX G.T.g G.T.b G.T.builtins G.T.nolimit hg hobj hr hF hb (fun b u z => by cases z) (fun _ => .inl rfl) (hsp _ _ a ns hlen ?_)
    exact .inr ⟨_, vs.toArray, _, hk, rfl, rfl, rfl, by rw [List.size_toArray, lv]; exact hlz, by simpa using rv⟩
  | none =>
    have at1 : ∀ (o : HO) , (fun b => if b = a then some o else none : Hp) a = some o := fun o => if_pos rfl
    refine law_from (H := fun b => if b = a then some (.frz { cls := .type "list", data := .seq vs.toArray } (.lst (ns.map V.int))) else none)
      KX G.T.g G.T.b G.T.builtins G.T.nolimit hg hobj hr hF hb ?_ ?_ (hsp _ _ a ns hlen (.inl (.inr ⟨_, at1 _⟩)))
    · intro b u z
      by_cases h : b = a
      · subst h
        rw [at1] at z
        cases z
        exact ⟨hobj, by rw [List.length_map]; exact hlz, vs, _, rv, hobj⟩
      · have z2 := (if_neg h).symm.trans z
        cases z2
    · intro b
      by_cases h : b = a
      · exact .inr ⟨h, hk, _, _, if_pos h⟩
      · exact .inl (if_neg h)
end Nv

namespace Nv
open PySem PySem.Spec PyProof.Rows L2

/-! data that stands in the heap, dicts too -/
def keyD : Key → PyData
  | .inl i => .int i
  | .inr x => .str x
mutual
inductive DV (H : Hp) : V → PyData → Prop
  | non : DV H .non .none
  | bl (b : Bool) : DV H (.bl b) (.bool b)
  | int (i : Int) : DV H (.int i) (.int i)
  | str (x : Str) : DV H (.str x) (.str x)
  | lst {a : Addr} {xs : List V} {ds : List PyData} : H a = some (.lst xs) → a ≠ sysModules → DVs H xs ds → DV H (.ref a) (.list ds)
  | tup {a : Addr} {xs : List V} {ds : List PyData} : H a = some (.tup xs) → DVs H xs ds → DV H (.ref a) (.tuple ds)
  | dct {a : Addr} {kvs : List (Key × V)} {ds : List (PyData × PyData)} : H a = some (.dK kvs) → DVk H kvs ds → DV H (.ref a) (.dict ds)
inductive DVs (H : Hp) : List V → List PyData → Prop
  | nil : DVs H [] []
  | cons {v : V} {vs : List V} {d : PyData} {ds : List PyData} : DV H v d → DVs H vs ds → DVs H (v :: vs) (d :: ds)
inductive DVk (H : Hp) : List (Key × V) → List (PyData × PyData) → Prop
  | nil : DVk H [] []
  | cons {k : Key} {v : V} {vs : List (Key × V)} {d : PyData} {ds : List (PyData × PyData)} : DV H v d → DVk H vs ds → DVk H ((k, v) :: vs) ((keyD k, d) :: ds)
end
mutual
theorem DV.mono {H H' : Hp} (e : ∀ a o, H a = some o → H' a = some o) : ∀ {v : V} {d : PyData}, DV H v d → DV H' v d
  | _, _, .non => .non
  | _, _, .bl b => .bl b
  | _, _, .int i => .int i
  | _, _, .str x => .str x
  | _, _, .lst h n r => .lst (e _ _ h) n (DVs.mono e r)
  | _, _, .tup h r => .tup (e _ _ h) (DVs.mono e r)
  | _, _, .dct h r => .dct (e _ _ h) (DVk.mono e r)
theorem DVs.mono {H H' : Hp} (e : ∀ a o, H a = some o → H' a = some o) : ∀ {vs : List V} {ds : List PyData}, DVs H vs ds → DVs H' vs ds
  | _, _, .nil => .nil
  | _, _, .cons h r => .cons (DV.mono e h) (DVs.mono e r)
theorem DVk.mono {H H' : Hp} (e : ∀ a o, H a = some o → H' a = some o) : ∀ {vs : List (Key × V)} {ds : List (PyData × PyData)}, DVk H vs ds → DVk H' vs ds
  | _, _, .nil => .nil
  | _, _, .cons h r => .cons (DV.mono e h) (DVk.mono e r)
end

section
variable {X : Cx} {pins : List (Addr × Obj)} {σ : L2.St} {H : Hp} {s : Shared}
theorem readsKey {w : World} {h : Heap} {k : Key} {v : Value} (e : keyIs k v = true) : Reads h v (keyD k) [] := by
  rcases keyIs_shape e with ⟨i, t, rfl, rfl⟩ | ⟨x, t, rfl, rfl⟩
  · exact .int i t
  · exact .str x t
mutual
theorem DV.reads (I : Inv X pins σ H s) : ∀ {v : V} {d : PyData} {u : Value}, DV H v d → RelV v u → ∃ as, Reads s.heap u d as ∧ sysModules ∉ as
  | _, _, u, .non, r => by
    cases (show u = Value.none from r)
    exact ⟨[], .none, by simp⟩
  | _, _, u, .bl b, r => by
    cases (show u = Value.bool b from r)
    exact ⟨[], .bool b, by simp⟩
  | _, _, u, .int i, r => by
    obtain ⟨t, rfl⟩ := (show ∃ t, u = Value.int i t from r)
    exact ⟨[], .int i t, by simp⟩
  | _, _, u, .str x, r => by
    obtain ⟨t, rfl⟩ := (show ∃ t, u = Value.str x t from r)
    exact ⟨[], .str x t, by simp⟩
  | _, _, u, @DV.lst _ a xs ds h n q, r => by
    cases (show u = Value.ref a from r)
    obtain ⟨_, its, m, rv, e⟩ := (show ObjOk X.prog X.w H s.heap a (.lst xs) from I.hok a _ h)
    obtain ⟨as, ra, na⟩ := DVs.reads I q rv
    refine ⟨a :: as, .list e rfl rfl ra, fun z => ?_⟩
    rcases List.mem_cons.mp z with z | z
    · exact n z.symm
    · exact na z
  | _, _, u, @DV.tup _ a xs ds h q, r => by
    cases (show u = Value.ref a from r)
    obtain ⟨_, its, rv, o, e1, e2, m, e3⟩ := (show ObjOk X.prog X.w H s.heap a (.tup xs) from I.hok a _ h)
    obtain ⟨as, ra, na⟩ := DVs.reads I q rv
    exact ⟨as, .tuple e1 e2 e3 ra, na⟩
  | _, _, u, @DV.dct _ a kvs ds h q, r => by
    cases (show u = Value.ref a from r)
    obtain ⟨_, ns, vs, rel, o, es, ep, e1, e2, e3, _, pr, _⟩ := (show ObjOk X.prog X.w H s.heap a (.dK kvs) from I.hok a _ h)
    obtain ⟨as, bs, k1, k2, n1, n2⟩ := DVk.reads I q rel pr
    refine ⟨a :: as ++ bs, .dict e1 e2.1 e3 k1 k2, fun z => ?_⟩
    have na : a ≠ sysModules := fun z => by
      rw [z] at ns
      simp at ns
    rcases List.mem_cons.mp z with z | z
    · exact na z.symm
    · rcases List.mem_append.mp z with z | z
      · exact n1 z
      · exact n2 z
theorem DVs.reads (I : Inv X pins σ H s) : ∀ {vs : List V} {ds : List PyData} {us : List Value}, DVs H vs ds → Vals vs us → ∃ as, ReadsAll s.heap us ds as ∧ sysModules ∉ as
  | _, _, _, .nil, .nil => ⟨[], .nil, by simp⟩
  | _, _, _, .cons h q, .cons r t => by
    obtain ⟨as, r1, n1⟩ := DV.reads I h r
    obtain ⟨bs, r2, n2⟩ := DVs.reads I q t
    exact ⟨as ++ bs, .cons r1 r2, fun z => (List.mem_append.mp z).elim n1 n2⟩
theorem DVk.reads (I : Inv X pins σ H s) : ∀ {kvs : List (Key × V)} {ds : List (PyData × PyData)} {vs : List (Key × Value)} {es : List DictEntry}, DVk H kvs ds → KV kvs vs → Pairs (mixKind X.prog X.w) es vs →
    ∃ as bs, ReadsAll s.heap (es.map (fun x => x.key)) (ds.map (fun x => x.1)) as ∧ ReadsAll s.heap (es.map (fun x => x.val)) (ds.map (fun x => x.2)) bs ∧ sysModules ∉ as ∧ sysModules ∉ bs
  | _, _, _, _, .nil, .nil, p => by
    cases p
    exact ⟨[], [], .nil, .nil, by simp, by simp⟩
  | _, _, _, _, .cons (k := k) h q, .cons r t, p => by
    cases p with
    | cons p1 p2 p3 =>
      obtain ⟨rk, rv⟩ := r
      rw [← rk, mixKind_is] at p1
      rw [← p2] at rv
      obtain ⟨as, r1, n1⟩ := DV.reads I h rv
      obtain ⟨bs, cs, r2, r3, n2, n3⟩ := DVk.reads I q t p3
      have rd := readsKey (w := X.w) (h := s.heap) p1
      exact ⟨[] ++ bs, as ++ cs, .cons rd r2, .cons r1 r3, by simpa using n2, fun z => (List.mem_append.mp z).elim n1 n3⟩
end

/-- repr(x), x a list, a tuple or a dict of data -/
def rRepr : List V → Hp → VK → Prop := fun xs H Q => ∃ (a : Addr) (d : PyData), xs = [.ref a] ∧ DV H (.ref a) d ∧ d.showable = true ∧ d.depth ≤ 60 ∧ d.shown.length ≤ sizeLine ∧ Q (.str d.shown) H
theorem call_repr (hG : X.A.guards = some []) (hu : X.A.units + 64 < cLine) : CallR X (.builtin "repr") rRepr := by
  intro pins s σ H xs us Q I r h
  obtain ⟨a, d, rfl, hd, hs, hp, hz, q⟩ := h
  cases r with
  | cons r1 r2 =>
    cases r2
    cases r1
    obtain ⟨as, rd, na⟩ := DV.reads I hd rfl
    exact repr_of_reads' rd hs (fun _ => na) hG (by omega) (fun _ _ e => e) (fun h' u tk k => ⟨.str d.shown, H, I.kept k, ⟨u, rfl⟩, q⟩) hz
end
end Nv

namespace PySem.W
open PySem PySem.Spec PySem.Calls PyProof.Rows
section
variable {prog : Program} {w : World} {A : Around} {E : Value → Shared → Prop} {s : Shared} {K : Frag} {x D : Addr} {ox : Obj} {od : Option Obj}
/-- what isinstance asks of the class D of an own exception -/
structure NvCls (K : Frag) (D : Addr) : Prop where
  ga : findIn K (.ref D) "__getattribute__" = some (some (.builtin "BaseException.__getattribute__"))
  gt : findIn K (.ref D) "__getattr__" = some none
  sub : subIn K (.ref D) (.type "BaseException") = some true
  dct : hasDictIn K D = true
  cl : findIn K (.ref D) "__class__" = some (some (.builtin "object.__class__"))
  sp : specialIn K (.builtin "object.__class__") "__get__" = some (some (.builtin "getset_descriptor.__get__"))
  tk : takesIn K (.builtin "object.__class__") = some true
  mo : mroIn K D (.type "object") = some true
theorem nv_find (c : NvCls K D) : findObj K D od "__class__" = some (.bind (.builtin "getset_descriptor.__get__") (.builtin "object.__class__")) := by
  have hs : (clsIn K D).isSome = true := by
    obtain ⟨cd, h, _⟩ := any_some c.dct
    rw [h]
    rfl
  cases od with
  | none => exact findObj_dataN hs c.cl c.sp c.tk
  | some o => exact findObj_data hs c.cl c.sp c.tk
theorem nv_class {Q : Option Value → Shared → Prop} (c : NvCls K D) (X : K.In s.heap) (I : InstAt s.heap x ox D od)
    (h : Q (some (.ref D)) { s with toks := s.toks + 1 }) : wpAny (model prog w) A (getAttr? (.ref x) "__class__") Q E s := by
  have e1 : (false && onTheHeap (Value.builtin "BaseException.__getattribute__")) = false := rfl
  have e2 : (Value.builtin "BaseException.__getattribute__" == Value.builtin "object.__getattribute__") = false := by decide +kernel
  have e3 : (onTheHeap (Value.ref D) && Value.builtin "BaseException.__getattribute__" == Value.builtin "object.__getattribute__") = false := by
    rw [e2]
    rfl
  obtain ⟨hp, g, d, t, os⟩ := s
  have T0 := I.type (M := model prog w)
  have T1 := looks_findIn (M := model prog w) X c.ga
  have T2 := looks_findIn (M := model prog w) X c.gt
  have T3 := looks_find (M := model prog w) X I (nv_find (od := od) c)
  have T4 : Looks (model prog w) hp (isInstance (.ref x) (.type "BaseException")) true := T0.andThen (looks_subIn X c.sub)
  unfold getAttr? getAttrBy? getAttrBy
  refine wpAny_bind (wpAny_mkText (wpAny_bind (wpAny_attempt ?_)))
  refine wpAny_holding (wpAny_bind (T0.at (wpAny_bind (T1.at ?_))))
  show wpAny _ _ (if (onTheHeap (Value.ref D) && Value.builtin "BaseException.__getattribute__" == Value.builtin "object.__getattribute__") = true then _ else _) _ _ _
  rw [e3, if_neg Bool.false_ne_true]
  unfold getAttrByItsOwn hookBefore
  refine wpAny_bind ?_
  rw [if_pos (show onTheHeap (Value.ref D) = true from rfl)]
  refine T2.at (wpAny_bind (wpAny_attempt (wpAny_holding ?_)))
  unfold callGetattribute
  rw [e1, if_neg Bool.false_ne_true]
  unfold boundAndCalled
  rw [PySem.F.excAttr_ValueError.ga.bind (.ref x)]
  refine wpAny_bind (wpAny_pure ?_)
  show wpAny _ _ (call (.builtin "BaseException.__getattribute__") [.ref x, .str "__class__" t]) _ _ _
  refine wpAny_call (codeAny_call_builtin PySem.F.excAttr_ValueError.ga.plain PySem.F.entry_bexc_ga ?_)
  refine @check_slot (model prog w) _ _ ⟨hp, g, d, t + 1, os⟩ "BaseException.__getattribute__" "BaseException" "__getattribute__" (.ref x)
    [.str "__class__" t] [] _ (by decide +kernel) (by decide +kernel) T4 (PySem.F.args_bexc_ga (.ref x) (.str "__class__" t)) ?_
  unfold Builtin.«object.__getattribute__»
  refine wpAny_bind (wpAny_of_eq (a := ((Value.ref x : Value), [Value.str "__class__" t])) (by first | rfl | (simp only [slotArgs]; rfl)) ?_)
  refine wpAny_bind (wpAny_pure (wpAny_bind (T0.at (wpAny_bind (T3.at ?_)))))
  show wpAny _ _ (holding [Value.builtin "object.__class__"] (call (.builtin "getset_descriptor.__get__") [.builtin "object.__class__", .ref x, .ref D]) >>= ret) _ _ _
  refine wpAny_bind (wpAny_holding (wpAny_call (class_get (s := ⟨hp, g, d, t + 1, os⟩) (ox := ox) (od := od) X I c.mo ?_)))
  refine wpAny_pure ?_
  show wpAny _ _ (handedOut (.ref D)) _ _ _
  rw [handedOut_of (v := .ref D) rfl]
  first
    | exact wpAny_pure (wpAny_pure h)
    | exact wpAny_pure h
    | exact wpAny_pure (wpAny_bind (wpAny_pure (wpAny_pure h)))
theorem nv_kit (c : NvCls K D) : KitX K (.ref x) (.ref D) (fun h => ∃ od, InstAt h x ox D od) := by
  obtain ⟨cdD, hcD, _⟩ := any_some c.dct
  refine ⟨fun _ _ _ ⟨_, I⟩ => I.type, fun _ _ X _ => ?_, fun h tp dd its n sl X htp => ?_, fun X ⟨_, I⟩ k => nv_class c X I k⟩
  · unfold clsIn at hcD
    split at hcD
    · rename_i ho
      intro A' Q' E' s' k q
      unfold isType loadHead
      exact wpAny_bind (wpAny_loadPart (k _ _ (X _ _ ho)) (wpAny_pure q))
    · cases hcD
  · cases q : (Value.ref D == Value.ref tp) with
    | false => rfl
    | true =>
      have e : D = tp := Value.ref.inj (beq_iff_eq.mp q)
      subst e
      unfold clsIn at hcD
      split at hcD
      · rename_i ho
        have z := (X _ _ ho).symm.trans htp
        cases z
      · cases hcD
end
end PySem.W
namespace Nv
open PySem PySem.Spec PyProof.Rows L2

/-- isinstance(e, c), e the exception that the suite holds, with a dict of its own or without -/
def rIsX (K : PySem.W.Frag) (cls : Value) (a : Addr) : List V → Hp → VK → Prop := fun xs H Q => ∃ (D : Addr) (c : V) (cv : Value) (b : Bool), xs = [.ref a, c] ∧ cls = .ref D ∧
  PySem.W.NvCls K D ∧ (∀ u, RelV c u → u = cv) ∧ PySem.W.kitOne K (.ref D) cv = some b ∧ (∀ dd, H dd = H dd) ∧ Q (.bl b) H
/-- the dict of the held exception, if it has one, stands in the heap -/
def XDict (H : Hp) (d : Option Addr) : Prop := ∀ dd, d = some dd → ∃ fs, H dd = some (.xd fs)
def rIsXd (K : PySem.W.Frag) (cls : Value) (d : Option Addr) (a : Addr) : List V → Hp → VK → Prop := fun xs H Q => ∃ (D : Addr) (c : V) (cv : Value) (b : Bool), xs = [.ref a, c] ∧ cls = .ref D ∧
  PySem.W.NvCls K D ∧ (∀ u, RelV c u → u = cv) ∧ PySem.W.kitOne K (.ref D) cv = some b ∧ XDict H d ∧ Q (.bl b) H
theorem call_isX {X : Cx} {a : Addr} {oe : Obj} {cls : Value} {d : Option Addr} {pn : List (Addr × Obj)} (hz : Zc cls d oe) (hf : ∃ vs, oe.data = .fields vs) :
    CallR (X.suite a ((a, oe) :: pn)) (.builtin "isinstance") (rIsXd X.K cls d a) := by
  intro pins s σ H xs us Q I r h
  obtain ⟨D, c, cv, b, rfl, rfl, C, hcv, e, hx, q⟩ := h
  cases r with
  | cons rx rr =>
    cases rr with
    | cons rt rr =>
      cases rr
      cases rx
      have ec := hcv _ rt
      subst ec
      obtain ⟨hget, _⟩ := I.pin (a, oe) (List.mem_append.mpr (.inl List.mem_cons_self))
      obtain ⟨vs, hv⟩ := hf
      have J : ∃ od, PySem.W.InstAt s.heap a oe D od := by
        have no : PySem.W.notCls oe = true := by
          unfold PySem.W.notCls
          rw [hv] <;> rfl
        cases d with
        | none => exact ⟨none, hget, hz.1, no, by rw [hz.2]; trivial⟩
        | some dd =>
          obtain ⟨fs, hd⟩ := hx dd rfl
          obtain ⟨mA, ⟨od, es, ep, ho, _⟩, _⟩ := (show ObjOk X.prog X.w H s.heap dd (.xd fs) from I.hok dd _ hd)
          exact ⟨some od, hget, hz.1, no, by rw [hz.2]; exact ho⟩
      exact PySem.W.kia_one (PySem.W.nv_kit C) I.kIn J e (fun z => nomatch z) fun tk => ⟨.bl b, H, I.kept (t' := tk) fun _ _ z => z, rfl, q⟩
end Nv

namespace Nv
open PySem PySem.Spec PyProof.Rows L2

/-- an except clause's class, the slot of its name, the reading of its suite -/
abbrev Cls3 := Value × Nat × (Addr → Value → Option Addr → TS)
/-- the ends behind a suite: its name is gone -/
def gone (i : Nat) (D : Ends) : Ends :=
  { nx := fun σ' H' => D.nx (σ'.set i none) H', rt := D.rt, bk := fun σ' H' => D.bk (σ'.set i none) H', ct := fun σ' H' => D.ct (σ'.set i none) H' }
def wAsN (K : PySem.W.Frag) (Wout : WX) (D : Ends) : List Cls3 → WX
  | [] => Wout
  | (c, i, ts) :: r => fun cls d σ H => ∃ b, PySem.W.exmOne K cls c = some b ∧
      (b = true → ∀ a, H a = none → ts a cls d (gone i D) (σ.set i (some (.ref a))) H) ∧ (b = false → wAsN K Wout D r cls d σ H)
inductive HdsAs (X : Cx) : List ExceptHandler → List Cls3 → Prop
  | nil : HdsAs X [] []
  | cons {x n : Str} {c : Value} {i : Nat} {ts : Addr → Value → Option Addr → TS} {b₀ : Stmt} {suite : List Stmt} {np pos' : Pos} {hds : List ExceptHandler} {l : List Cls3}
      (hi : X.N[i]? = some n) (hln : X.env.kindOf n = some .local) (hc : Names X x c)
      (hsu : ∀ (a : Addr) (oe : Obj) (cls : Value) (d : Option Addr) (pn : List (Addr × Obj)), Zc cls d oe → (∃ vs, oe.data = .fields vs) → PSs (X.suite a ((a, oe) :: pn)) (b₀ :: suite) (ts a cls d))
      (r : HdsAs X hds l) : HdsAs X (.ExceptHandler (some (.Name x np)) (some n) (b₀ :: suite) pos' :: hds) ((c, i, ts) :: l)

section
variable {X : Cx} {pins : List (Addr × Obj)} {σ : L2.St} {H : Hp}
theorem field_not_frame {B h : Heap} {l : List Env} {a : Addr} {o : Obj} {vs : Array Value} (ff : h.FunFrames B l) (e : h.get? a = some o) (dd : o.data = .fields vs) : a ∉ frs l := fun hm => by
  obtain ⟨_, o', e', hnf⟩ := ff.mem hm
  rw [e] at e'
  cases e'
  exact hnf _ dd
/-- the clauses, one behind another, at an exception that is on the ground -/
theorem clauses (hs : X.stack = X.env :: X.outer) (hf : X.env.frame = some X.env.locals) (hN : X.N.Nodup) {Wout : WX} (tk : Takes X Wout) {D : Ends} {sI s' : Shared} {a : Addr} {B h3 : Heap} {cls : Value} {d : Option Addr}
    (ok : X.Ok) (J : Inv X pins σ H sI) (nb : ∀ b o, sI.heap.get? b = some o → b ∉ frs X.stack → B.get? b = some o) (na : H a = none) (os : s'.os = sI.os) (ag : AllBare s'.gens)
    (up : sI.heap.UpToSlots s'.heap) (up3 : s'.heap.UpToSlots h3) (fl3 : HandSPX.FlyingZ B (X.env :: X.outer) a (Zc cls d) h3) :
    ∀ {hds : List ExceptHandler} {l : List Cls3}, HdsAs X hds l → wAsN X.K Wout D l cls d σ H → wpAny (model X.prog X.w) X.A (handleBy (.ref a) X.env hds) (SP X pins D) X.xe { s' with heap := h3 } := by
  have J3 : Inv X pins σ H { s' with heap := h3 } := J.landed nb fl3.1 (up.trans up3) os ag
  obtain ⟨oe3, vs3, he3, hz3, hd3⟩ := fl3.there
  have nfr := field_not_frame fl3.2.2.1 he3 hd3
  have nL : a ≠ X.env.locals := fun z => nfr (List.mem_filterMap.mpr ⟨X.env, List.mem_cons_self, by rw [hf, z]⟩)
  have nF : a ∉ X.fs := fun hm => by
    obtain ⟨e, he, q⟩ := List.mem_filterMap.mp hm
    exact nfr (List.mem_filterMap.mpr ⟨e, List.mem_cons_of_mem _ he, q⟩)
  have S3 := J3.suite he3 hd3 na nL nF
  intro hds l hk
  induction hk with
  | nil =>
    intro w
    refine wpAny_handleBy_nil ?_
    obtain ⟨_, _, _, oe, vs, T, oT, _, he, hz, hd, h1, _⟩ := id fl3
    unfold PySem.passOn
    refine wpAny_bind (wpAny_field he hd h1 ?_)
    rw [if_neg (show ¬ ((Value.ref T == Value.none) = true) from by simp)]
    have fin : wpAny (model X.prog X.w) X.A (setFlight (.ref a) X.env.frame) (fun _ s4 => wpAny (model X.prog X.w) X.A (throw (.ref a) : Sem Flow) (SP X pins D) X.xe s4) X.xe { s' with heap := h3 } := by
      rw [hf]
      refine HandSPX.setFlight_upZ fl3 ?_
      intro h4 hh4 up4
      refine wpAny_throw (tk _ _ ?_)
      exact ⟨a, B, sI, pins, σ, H, cls, d, rfl, J, nb, (up.trans up3).trans up4, .inr (.inr (by rw [hs]; exact hh4)), na, os, ag, w⟩
    first
      | exact wpAny_bind (wpAny_pure (wpAny_bind fin))
      | exact wpAny_bind fin
  | @cons x n c i ts b₀ suite np pos' hds2 l2 hi hln hc hsu r ih =>
    intro w
    obtain ⟨b, hb1, hyes, hno⟩ := w
    refine wpAny_handleBy_cons (codeAny_handlers_test ?_) (by intro q; cases q)
    have LT : PySem.W.Looks (model X.prog X.w) h3 (typeOf (.ref a)) cls := fun A Q E s k q => wpAny_typeOf_ref (k _ _ he3) (by rw [hz3.1]; exact q)
    have LM := PySem.W.exm_one (M := model X.prog X.w) (J3.kIn) LT hb1
    have test : ∀ {Q : Value → Shared → Prop} {E : Value → Shared → Prop}, Q c { s' with heap := h3 } →
        wpAny (model X.prog X.w) (X.A.mark (some (.ref a))) (eval (.Name x np) X.env) Q E { s' with heap := h3 } := by
      intro Q E q
      obtain ⟨hg, hdbg, hm | ⟨hm, hv, hnn⟩⟩ := hc
      · exact ld_glob (X := X.suite a ((a, oe3) :: (X.pn ++ pins))) S3 hg hm q hdbg
      · exact ld_blt (X := X.suite a ((a, oe3) :: (X.pn ++ pins))) S3 hg hm hv q hnn hdbg
    refine test (LM.here ?_)
    cases b with
    | false =>
      show wpAny _ X.A (handleBy (.ref a) X.env hds2) _ _ _
      exact ih (hno rfl)
    | true =>
      refine codeAny_handlers_suite_as ?_
      refine HandSPX.lands_againZ fl3 ?_
      intro h4 fl4 up4
      have J4 : Inv X pins σ H { s' with heap := h4 } := J.landed nb fl4.1 ((up.trans up3).trans up4) os ag
      obtain ⟨oe4, vs4, he4, hz4, hd4⟩ := fl4.there
      have S4 := J4.suite he4 hd4 na nL nF
      refine store_ok (X := X.suite a ((a, oe4) :: (X.pn ++ pins))) (v := .ref a) S4 hN hi (.inl hln) rfl ?_ (.inr hln)
      intro s5 S5
      refine wpAny_mono ((hsu a oe4 cls d (X.pn ++ pins) hz4 ⟨_, hd4⟩).run [] s5 _ H _ S5 (hyes rfl a na)) ?_ (fun _ _ z => z.elim)
      intro f s6 hsp
      have end_ : ∀ {σ6 : L2.St} {H6 : Hp} {Q : Shared → Prop}, Inv (X.suite a ((a, oe4) :: (X.pn ++ pins))) [] σ6 H6 s6 → (∀ s7, Inv X pins (σ6.set i none) H6 s7 → Q s7) →
          wpAny (model X.prog X.w) X.A (do bindName X.env n .none; unbindBehindTheSuite X.env n pos') (fun _ s7 => Q s7) X.xe s6 :=
        fun {σ6 H6 Q} S6 hq => gone_ok (S6.unsuite ok) hN hi hln hq
      cases f with
      | ret u =>
        obtain ⟨v6, σ6, H6, S6, r6, q6⟩ := hsp
        exact end_ S6 fun s7 J7 => ⟨_, _, _, J7, r6, q6⟩
      | next =>
        obtain ⟨σ6, H6, S6, q6⟩ := hsp
        exact end_ S6 fun s7 J7 => ⟨_, _, J7, q6⟩
      | brk =>
        obtain ⟨σ6, H6, S6, q6⟩ := hsp
        exact end_ S6 fun s7 J7 => ⟨_, _, J7, q6⟩
      | cont =>
        obtain ⟨σ6, H6, S6, q6⟩ := hsp
        exact end_ S6 fun s7 J7 => ⟨_, _, J7, q6⟩

/-- try: body / except x1 as n1: .. / except x2 as n2: .. -/
theorem ps_try_asN {body : List Stmt} {h₀ : ExceptHandler} {hds : List ExceptHandler} {l : List Cls3} {pos : Pos} {tb : WX → TS} {Wout : WX}
    (hs : X.stack = X.env :: X.outer) (hf : X.env.frame = some X.env.locals) (hN : X.N.Nodup) (tk : Takes X Wout)
    (hb : ∀ (W : WX) (pn : List (Addr × Obj)) (xe : Value → Shared → Prop), Takes (X.tr pn xe) W → PassesOwn (model X.prog X.w) X.A X.env xe → PSs (X.tr pn xe) body (tb W))
    (hh : HdsAs X (h₀ :: hds) l) : PS X (.Try body (h₀ :: hds) [] [] pos) (fun D σ H => tb (wAsN X.K Wout D l) D σ H) := by
  constructor
  intro pins s σ H D I h
  have ok := I.ok
  have hfr : X.A.frames = some (X.env :: X.outer) := by rw [ok.frames, hs]
  refine wpAny_Try_except ?_
  have run := (hb (wAsN X.K Wout D l) (X.pn ++ pins) (fun e s₁ => wpAny (model X.prog X.w) X.A (noteFrame e X.env)
    (fun _ s₂ => wpAny (model X.prog X.w) X.A (setFlight e none) (fun _ s₃ => wpAny (model X.prog X.w) X.A (handleBy e X.env (h₀ :: hds)) (SP X pins D) X.xe s₃) X.xe s₂) X.xe s₁) ?_ PassesOwn.looking).run [] s σ H D (I.toTry _) h
  · refine wpAny_mono run ?_ (fun e s1 he => he)
    intro f s1 hsp
    cases f with
    | next =>
      obtain ⟨σ', H', J', q⟩ := hsp
      exact wpAny_execs_nil ⟨σ', H', J'.ofTry ok, q⟩
    | brk =>
      obtain ⟨σ', H', J', q⟩ := hsp
      exact ⟨σ', H', J'.ofTry ok, q⟩
    | cont =>
      obtain ⟨σ', H', J', q⟩ := hsp
      exact ⟨σ', H', J'.ofTry ok, q⟩
    | ret u =>
      obtain ⟨v, σ', H', J', r, q⟩ := hsp
      exact ⟨v, σ', H', J'.ofTry ok, r, q⟩
  · intro u s' xx
    obtain ⟨a, B, sI, pins', σ', H', cls, d, rfl, J', nb, up, sky, na, os, ag, w⟩ := xx
    have J : Inv X pins σ' H' sI := J'.ofTry ok
    have sky' : Sky B (X.env :: X.outer) a (Zc cls d) X.env.locals s'.heap := by
      rw [← hs]
      exact sky
    show wpAny (model X.prog X.w) X.A (noteFrame (.ref a) X.env) _ _ _
    refine Sky.land Zc.steady hfr hf sky' ?_
    intro h3 fl3 up3
    exact clauses hs hf hN tk ok J nb na os ag up up3 fl3 hh w
end
end Nv

namespace Nv
open PySem PySem.Spec PyProof.Rows L2

/-! own errors with one attribute -/
def spXI (K : PySem.W.Frag) (f : Str) : Sp := fun vs H Q _ => ∃ (a C : Addr) (v : V), vs = [.ref a, v] ∧ OexC K C ∧ PySem.W.findIn K (.ref C) f = some none ∧
  H a = some (exo a C none) ∧ ∀ dx, H dx = none → dx ≠ a → Q .non (upd (upd H dx (exd dx [(f, v)])) a (exo a C (some dx)))
section
variable {P : Program} {w : World} {K : PySem.W.Frag} {mg : Str → Option Value} {base : Heap}
theorem ok_xi {qual f : Str} {st : Stmt} {fI : Addr} {fd : FuncData} {p1 p2 p3 p4 : Pos} (F : Fun K "__init__" qual st fI fd) (S : FnScope ["self", f] ["self", f] (defScope st))
    (hb : defBody st = [.Assign [.Attribute (.Name "self" p1) f p2] (.Name f p3) p4]) (hd : (f == ("__debug__" : Str)) = false) (hcd : (f == ("__classdict__" : Str)) = false) :
    FnOk P w K mg base CX0 1 fI fd ["self", f] (spXI K f) := by
  refine F.ok S (fun vs H Q E h => ?_) (fun cdv A outer s H vs Q E hr h => ?_)
  · obtain ⟨a, C, v, rfl, _⟩ := h
    rfl
  · obtain ⟨a, C, v, rfl, T, hn, he, q⟩ := h
    have v0 : Vis (defScope st) "self" := by
      rcases S.par "self" (by simp) with z | z
      · exact .inl z
      · exact .inr (.inl z)
    have v1 : Vis (defScope st) f := by
      rcases S.par f (by simp) with z | z
      · exact .inl z
      · exact .inr (.inl z)
    rw [hb]
    refine ⟨_, pss_one (ps_ost (pe_var (i := 0) rfl v0) (pe_var (i := 1) rfl v1 hd hcd) rfl), ?_⟩
    exact ⟨_, rfl, _, rfl, a, C, rfl, T, hn, .inl ⟨he, fun dx h1 h2 => q dx h1 h2⟩⟩
end
/-- what stands of an own error class with one attribute f: at C, its __init__ at fI -/
structure ErrT (K : PySem.W.Frag) (mg : Str → Option Value) (x f : Str) (C fI : Addr) : Prop where
  gC : mg x = some (.ref C)
  T : OexC K C
  iC : PySem.W.findIn K (.ref C) "__init__" = some (some (.ref fI))
  tI : PySem.W.typeIn K (.ref fI) = some (.type "function")
  noF : PySem.W.findIn K (.ref C) f = some none
  nv : PySem.W.NvCls K C
theorem ErrT.xf {K : PySem.W.Frag} {mg : Str → Option Value} {x f : Str} {C fI : Addr} (T : ErrT K mg x f C fI) : XfC K C := ⟨T.nv.ga, T.nv.gt, T.nv.sub, T.nv.dct⟩
section
variable {X : Cx} {W : WX} {e : Expr} {te : TE} {p pos pos2 : Pos} {x f : Str} {C fI : Addr} {fd : FuncData}
theorem pmk_imp {t t' : L2.St → Hp → XK → Prop} (h : PMk X e t) (i : ∀ σ H Q, t' σ H Q → t σ H Q) : PMk X e t' := fun pins s σ H Q I q => h pins s σ H Q I (i _ _ _ q)
/-- C(e): a new error -/
def tErr (C : Addr) (f : Str) (te : TE) : L2.St → Hp → XK → Prop := fun σ H Q => te σ H fun v H1 => ∀ d, H1 d = none → Q (.ref C) (some d) (upd H1 d (.xd [(f, v)]))
theorem exo_end {H1 : Hp} {a dx C : Addr} {f : Str} {v : V} (na : H1 a = none) (nd : dx ≠ a) : upd (del (upd (upd (upd H1 a (exo a C none)) dx (exd dx [(f, v)])) a (exo a C (some dx))) a) dx (.xd [(f, v)]) = upd H1 dx (.xd [(f, v)]) := by
  funext b
  by_cases h : b = dx
  · subst h
    rw [upd_same, upd_same]
  · rw [upd_ne h, upd_ne h]
    by_cases g : b = a
    · subst g
      rw [del_same, na]
    · rw [del_ne g, upd_ne g, upd_ne h, upd_ne g]
/-- one argument, its reading made monotone -/
theorem pa_any (he : PE X e te) (hs : starEach (e :: []) X.env = (false, eval e X.env) :: starEach [] X.env := by rfl) :
    PA X [e] (fun σ H Q => ∃ R : V → Hp → Prop, te σ H R ∧ ∀ v H1, R v H1 → Q [v] H1) := by
  constructor
  intro pos pins s σ H Q I ⟨R, h, k⟩
  have z := (pa_cons he pa_nil hs).run pos pins s σ H (fun vs H1 => ∃ v, vs = [v] ∧ R v H1) I
  have z2 : te σ H (fun v H1 => R v H1) := h
  have he2 : PE X e (fun σ' H' Q' => te σ' H' R ∧ ∀ v H1, R v H1 → Q' v H1) := by
    constructor
    intro pins s σ H Q I ⟨h1, h2⟩
    exact thn (he.run pins s σ H R I h1) fun u s1 ⟨v, H1, I1, r, q⟩ => ⟨v, H1, I1, r, h2 v H1 q⟩
  exact (pa_cons he2 pa_nil hs).run pos pins s σ H Q I ⟨h, fun v H1 q => k v H1 q⟩
theorem pmk_err (T : ErrT X.K X.mg x f C fI) (F : FnOk X.prog X.w X.K X.mg X.base CX0 1 fI fd ["self", f] (spXI X.K f)) (hb : Binds X.K fd ["self", f] []) (hr : Room 2 X.A) (he : PE X e te) (hg : Gl X x := by rfl)
    (hdb : (x == ("__debug__" : Str)) = false := by decide) (hs : starEach (e :: []) X.env = (false, eval e X.env) :: starEach [] X.env := by rfl) (hpl : (backTo pos (starEach [] X.env)).any (·.1) = false := by rfl) :
    PMk X (.Call (.Name x p) [e] [] pos) (tErr C f te) := by
  refine pmk_imp (pmk_oex (CX := CX0) (dvs := []) (ds := []) T.T T.iC T.tI F hr hb .nil pass0 hg T.gC (pa_any he hs) hdb hs hpl) ?_
  intro σ H Q h
  refine ⟨_, h, fun v H1 k => ⟨by show 1 ≤ 1000; decide, fun a na => ?_⟩⟩
  refine ⟨a, C, v, rfl, T.T, T.noF, upd_same, fun dx h1 h2 => ⟨rfl, dx, [(f, v)], upd_same, ?_, ?_, ?_⟩⟩
  · rw [upd_ne h2, upd_same]
  · rw [upd_ne h2] at h1
    exact h1
  · rw [exo_end na h2]
    rw [upd_ne h2] at h1
    exact k dx h1
/-- raise C(e) -/
def tRaise1 (C : Addr) (f : Str) (W : WX) (te : TE) : TS := fun _ σ H => tErr C f te σ H fun cls d H' => W cls d σ H'
theorem ps_err (hc : X.calm = true) (tk : Takes X W) (T : ErrT X.K X.mg x f C fI) (F : FnOk X.prog X.w X.K X.mg X.base CX0 1 fI fd ["self", f] (spXI X.K f)) (hb : Binds X.K fd ["self", f] []) (hr : Room 2 X.A) (he : PE X e te) (hg : Gl X x := by rfl)
    (hdb : (x == ("__debug__" : Str)) = false := by decide) (hs : starEach (e :: []) X.env = (false, eval e X.env) :: starEach [] X.env := by rfl) (hpl : (backTo pos (starEach [] X.env)).any (·.1) = false := by rfl) :
    PS X (.Raise (some (.Call (.Name x p) [e] [] pos)) none pos2) (tRaise1 C f W te) := ps_raise hc tk (pmk_err T F hb hr he hg hdb hs hpl)
end

/-! displays whose place is not that of sys.modules -/
section
variable {X : Cx} {es : List Expr} {t : TA} {pos : Pos}
def tLst1 (t : TA) : TE := fun σ H Q => t σ H fun xs H1 => xs.length ≤ sizeLine ∧ ∀ p, H1 p = none → p ≠ sysModules → Q (.ref p) (upd H1 p (.lst xs))
theorem pe_lst1 (h : PA X es t) : PE X (.List es pos) (tLst1 t) := by
  constructor
  intro pins s σ H Q I hq
  refine wpAny_List_spliced (thn (h.run pos pins s σ H _ I hq) ?_)
  intro us s1 ⟨xs, H1, I1, r, z, q⟩
  have hf : H1 s1.heap.objs.size = none := I1.hok.fresh (Nat.le_refl _)
  refine ⟨by rw [← r.length]; exact z, ?_⟩
  refine ⟨.ref s1.heap.objs.size, upd H1 s1.heap.objs.size (.lst xs), I1.laid (t' := s1.toks) (fun b u e => Heap.get?_push_of_some _ e) (Nat.le_refl _) ?_, rfl, q _ hf (Nat.ne_of_gt I1.big)⟩
  exact ⟨z, us, 0, r, Heap.get?_push_size _ rfl⟩
end
end Nv

namespace Nv
open PySem PySem.Spec PyProof.Rows L2

/-! a def, a method, an __init__ of the text as they stand behind the top -/
structure DefT (K : PySem.W.Frag) (mg : Str → Option Value) (x : Str) (st : Stmt) (ps : List Str) : Type where
  f : Addr
  fd : FuncData
  F : Fun K x x st f fd
  m : mg x = some (.ref f)
  b : Pos1 fd ps
  kb : Kw1 fd ps ps 0
structure MethT (K : PySem.W.Frag) (C : Addr) (x qual : Str) (st : Stmt) (ps : List Str) : Type where
  f : Addr
  fd : FuncData
  F : Fun K x qual st f fd
  me : Meth K C x f
  b : Pos1 fd ps
  kb : Kw1 fd ps ps.tail 1
structure InitT (K : PySem.W.Frag) (C : Addr) (qual : Str) (st : Stmt) (ps : List Str) : Type where
  f : Addr
  fd : FuncData
  F : Fun K "__init__" qual st f fd
  bi : Binds K fd ps []
  kb : Kw1 fd ps ps.tail 1
structure PropT (K : PySem.W.Frag) (C : Addr) (x qual : Str) (st : Stmt) : Type where
  p : Addr
  g : Addr
  fd : FuncData
  F : Fun K x qual st g fd
  po : PropOf K C x p g
  bi : Binds K fd ["self"] []

/-- a body that lets nothing out -/
theorem okG0 {P : Program} {w : World} {K : PySem.W.Frag} {mg : Str → Option Value} {base : Heap} {k : Nat} {f : Addr} {fd : FuncData} {ps : List Str} {sp : Sp} {x qual : Str} {st : Stmt} {N : List Str}
    (F : Fun K x qual st f fd) (S : FnScope N ps (defScope st)) (len : ∀ vs H Q E, sp vs H Q E → vs.length = ps.length)
    (body : ∀ (cdv : Value) (A : Around) (outer : List Env) (s : Shared) (H : Hp) (vs : List V) (Q : VK) (E : XK),
      A.guards = some [] → Room k (A.deeper (envOfC qual (defScope st) s.heap.objs.size f cdv)) → sp vs H Q E →
      ∃ t, PSs (cxOf (L2.CX P w) P w K mg base N qual (defScope st) f cdv A outer s H E).nox (defBody st) t ∧
        t { nx := fun _ H' => Q .non H', rt := Q } (start N vs) H) : FnG P w K mg base (k + 1) f fd ps sp :=
  okG F S len fun cdv A outer s H vs Q E hg hr hsp => by
    obtain ⟨t, h, q⟩ := body cdv A outer s H vs Q E hg hr hsp
    exact ⟨t, h.nox, q⟩

/-! the kinds of data -/
def tyName : PyData → String
  | .none => "NoneType"
  | .bool _ => "bool"
  | .int _ => "int"
  | .str _ => "str"
  | .list _ => "list"
  | .tuple _ => "tuple"
  | .dict _ => "dict"
theorem DV.ty {K : PySem.W.Frag} {H : Hp} {v : V} {d : PyData} (h : DV H v d) : TyX K H v (.type (tyName d)) := by
  cases h with
  | non => exact .base .non
  | bl b => exact .base (.bl b)
  | int i => exact .base (.int i)
  | str x => exact .base (.str x)
  | lst e _ _ => exact .base (.lst e)
  | tup e _ => exact .base (.tup e)
  | dct e _ => exact .base (.dK e)
theorem r_isi {K : PySem.W.Frag} {H : Hp} {Q : VK} {v : V} {d : PyData} {T : String} {b : Bool} (h : DV H v d) (e : kitB (tyName d) T = some b) (q : Q (.bl b) H) : rIsi K [v, .ty T] H Q :=
  ⟨v, .ty T, _, _, b, rfl, .ty T, h.ty, kit_ty e, q⟩
def isI : PyData → Bool
  | .int _ => true
  | _ => false
def isB : PyData → Bool
  | .bool _ => true
  | _ => false
def isS : PyData → Bool
  | .str _ => true
  | _ => false
def isL : PyData → Bool
  | .list _ => true
  | _ => false
theorem kit_int (d : PyData) : kitB (tyName d) "int" = some (isI d || isB d) := by
  cases d with
  | none => exact (by decide +kernel : kitB "NoneType" "int" = some false)
  | bool b => exact (by decide +kernel : kitB "bool" "int" = some true)
  | int i => exact (by decide +kernel : kitB "int" "int" = some true)
  | str x => exact (by decide +kernel : kitB "str" "int" = some false)
  | list l => exact (by decide +kernel : kitB "list" "int" = some false)
  | tuple l => exact (by decide +kernel : kitB "tuple" "int" = some false)
  | dict l => exact (by decide +kernel : kitB "dict" "int" = some false)
theorem kit_bool (d : PyData) : kitB (tyName d) "bool" = some (isB d) := by
  cases d with
  | none => exact (by decide +kernel : kitB "NoneType" "bool" = some false)
  | bool b => exact (by decide +kernel : kitB "bool" "bool" = some true)
  | int i => exact (by decide +kernel : kitB "int" "bool" = some false)
  | str x => exact (by decide +kernel : kitB "str" "bool" = some false)
  | list l => exact (by decide +kernel : kitB "list" "bool" = some false)
  | tuple l => exact (by decide +kernel : kitB "tuple" "bool" = some false)
  | dict l => exact (by decide +kernel : kitB "dict" "bool" = some false)
theorem kit_str (d : PyData) : kitB (tyName d) "str" = some (isS d) := by
  cases d with
  | none => exact (by decide +kernel : kitB "NoneType" "str" = some false)
  | bool b => exact (by decide +kernel : kitB "bool" "str" = some false)
  | int i => exact (by decide +kernel : kitB "int" "str" = some false)
  | str x => exact (by decide +kernel : kitB "str" "str" = some true)
  | list l => exact (by decide +kernel : kitB "list" "str" = some false)
  | tuple l => exact (by decide +kernel : kitB "tuple" "str" = some false)
  | dict l => exact (by decide +kernel : kitB "dict" "str" = some false)
theorem kit_list (d : PyData) : kitB (tyName d) "list" = some (isL d) := by
  cases d with
  | none => exact (by decide +kernel : kitB "NoneType" "list" = some false)
  | bool b => exact (by decide +kernel : kitB "bool" "list" = some false)
  | int i => exact (by decide +kernel : kitB "int" "list" = some false)
  | str x => exact (by decide +kernel : kitB "str" "list" = some false)
  | list l => exact (by decide +kernel : kitB "list" "list" = some true)
  | tuple l => exact (by decide +kernel : kitB "tuple" "list" = some false)
  | dict l => exact (by decide +kernel : kitB "dict" "list" = some false)

/-! str * int -/
def rMulS : R2 := fun x y H Q => ∃ (z : Str) (k : Int), x = .str z ∧ y = .int k ∧ PySem.MulOk z k ∧ Q (.str (Txt.mul z k)) H
theorem op_mul_str {X : Cx} : OpR X (binaryOp .Mult) rMulS := by
  intro pins s σ H x y v u Q I rx ry h
  obtain ⟨z, k, rfl, rfl, hok, q⟩ := h
  obtain ⟨t, rfl⟩ := (show ∃ t, v = Value.str z t from rx)
  obtain ⟨t2, rfl⟩ := (show ∃ t, u = Value.int k t from ry)
  exact PySem.SB.mul hok fun t' tk => ⟨.str (Txt.mul z k), H, I.tok tk, ⟨t', rfl⟩, q⟩

/-! heaps -/
/-- all that was tracked stands as it was, but what stands at p -/
def Ext1 (p : Addr) (H H' : Hp) : Prop := ∀ a o, a ≠ p → H a = some o → H' a = some o
theorem Ext1.refl (p : Addr) (H : Hp) : Ext1 p H H := fun _ _ _ h => h
theorem Ext1.trans {p : Addr} {H H1 H2 : Hp} (a : Ext1 p H H1) (b : Ext1 p H1 H2) : Ext1 p H H2 := fun c o n h => b c o n (a c o n h)
theorem Same.ext1 {p : Addr} {H H' : Hp} (e : Same H H') : Ext1 p H H' := fun a o _ h => e a o h
theorem Same.new {H : Hp} {p : Addr} {o : HO} (n : H p = none) : Same H (upd H p o) := fun b u e => by
  rw [upd_ne (ne_of_none e n)]
  exact e
theorem Ext1.upd {p : Addr} {H : Hp} {o : HO} : Ext1 p H (upd H p o) := fun a u n h => by
  rw [upd_ne n]
  exact h
end Nv

namespace Nv
open PySem PySem.Spec PyProof.Rows L2

/-! what a step asks of the heap, kept whole -/
def rFld (K : PySem.W.Frag) (f : Str) : V → Hp → VK → Prop := fun x H Q => ∃ a C dx fs v, x = .ref a ∧ H a = some (.ins C dx fs) ∧ Cls K C ∧ NoAttr K C f ∧ fs.lookup f = some v ∧ Q v H
def rStF (K : PySem.W.Frag) (f : Str) : V → V → Hp → (Hp → Prop) → Prop := fun x y H R => ∃ a C dx fs, x = .ref a ∧ H a = some (.ins C dx fs) ∧ Cls K C ∧ NoAttr K C f ∧ fs.length < 1000 ∧ R (upd H a (.ins C dx (putF f y fs)))
def rMeth (C : Addr) (m : Str) : V → Hp → (Hp → Prop) → Prop := fun x H R => ∃ a dx fs, x = .ref a ∧ H a = some (.ins C dx fs) ∧ fs.lookup m = none ∧ R H
def rPrp (C : Addr) (sp : Sp) (dvs : List V) (E : XK) : V → Hp → VK → Prop := fun x H Q => ∃ a dx fs, x = .ref a ∧ H a = some (.ins C dx fs) ∧ sp (.ref a :: dvs) H Q E
/-- a new object's heap by a name of its own -/
theorem gen_new {H : Hp} {p : Addr} (o : HO) (h : H p = none) : ∃ H', upd H p o = H' ∧ Same H H' ∧ H' p = some o :=
  ⟨_, rfl, fun b u e => by rw [upd_ne (ne_of_none e h)]; exact e, upd_same⟩
def rXf (a : Addr) (cls : Value) (d : Option Addr) (C : Addr) (f : Str) : V → Hp → VK → Prop := fun x H Q => x = .ref a ∧ cls = .ref C ∧ ∃ (dd : Addr) (fs : List (Str × V)) (v : V), d = some dd ∧ H dd = some (.xd fs) ∧ fs.lookup f = some v ∧ Q v H
theorem e_xf {a : Addr} {cls : Value} {d : Option Addr} {C : Addr} {f : Str} {te : TE} {σ : L2.St} {H : Hp} {Q : VK} : tXf a cls d C f te σ H Q = te σ H (fun x H1 => rXf a cls d C f x H1 Q) := rfl
theorem r_xf {a dd C : Addr} {f : Str} {v : V} {H : Hp} {Q : VK} (h : H dd = some (.xd [(f, v)])) (q : Q v H) : rXf a (.ref C) (some dd) C f (.ref a) H Q :=
  ⟨rfl, rfl, dd, _, v, rfl, h, by simp [List.lookup], q⟩
theorem r_isX {K : PySem.W.Frag} {D U dd a : Addr} {f : Str} {v : V} {H : Hp} {Q : VK} {b : Bool} (n : PySem.W.NvCls K D) (k : PySem.W.kitOne K (.ref D) (.ref U) = some b) (h : H dd = some (.xd [(f, v)])) (q : Q (.bl b) H) :
    rIsXd K (.ref D) (some dd) a [.ref a, .ref U] H Q := ⟨D, .ref U, .ref U, b, rfl, rfl, n, fun u r => r, k, fun x e => by cases e; exact ⟨_, h⟩, q⟩
theorem e_wipe0 {σ : L2.St} : wipe σ [] = σ := rfl
theorem e_wipe1 {σ : L2.St} {v : Nat} {vs : List Nat} : wipe σ (v :: vs) = (wipe σ vs).set v none := rfl
theorem e_disp {trs : List (TE × TE)} {σ : L2.St} {H : Hp} {Q : VK} : tDisp trs σ H Q = ∀ p, H p = none → tPairs trs σ (upd H p (.dK [])) fun ps H2 => H2 p = some (.dK []) ∧ ∃ kvs : List (Key × V), ps = kvs.map (fun kv => (kV kv.1, kv.2)) ∧ kvs.length ≤ 15 ∧ Q (.ref p) (upd H2 p (.dK (mergeK [] kvs))) := rfl
theorem e_tyes {σ : L2.St} {H : Hp} {R : Bool → Hp → Prop} : tYes σ H R = R true H := rfl
def rP2 (k : V → V → Prop) (vs : List V) : Prop := ∃ v w, vs = [v, w] ∧ k v w
def rP3 (k : V → V → V → Prop) (vs : List V) : Prop := ∃ u v w, vs = [u, v, w] ∧ k u v w
theorem e_rP2 {k : V → V → Prop} {a b : V} : rP2 k [a, b] = k a b := propext ⟨fun ⟨_, _, e, h⟩ => by cases e; exact h, fun h => ⟨_, _, rfl, h⟩⟩
theorem e_rP3 {k : V → V → V → Prop} {a b c : V} : rP3 k [a, b, c] = k a b c := propext ⟨fun ⟨_, _, _, e, h⟩ => by cases e; exact h, fun h => ⟨_, _, _, rfl, h⟩⟩
def rUnp (K : PySem.W.Frag) (n : Nat) : V → Hp → (List V → Prop) → Prop := fun v H R => ∃ a xs, v = .ref a ∧ SqT K H a xs ∧ xs.length = n ∧ R xs
theorem r_fld {K : PySem.W.Frag} {f : Str} {a C dx : Addr} {fs : List (Str × V)} {v : V} {H : Hp} {Q : VK} (h : H a = some (.ins C dx fs)) (c : Cls K C) (n : NoAttr K C f) (l : fs.lookup f = some v) (q : Q v H) : rFld K f (.ref a) H Q :=
  ⟨a, C, dx, fs, v, rfl, h, c, n, l, q⟩
theorem r_stF {K : PySem.W.Frag} {f : Str} {a C dx : Addr} {fs : List (Str × V)} {y : V} {H : Hp} {R : Hp → Prop} (h : H a = some (.ins C dx fs)) (c : Cls K C) (n : NoAttr K C f) (l : fs.length < 1000) (q : R (upd H a (.ins C dx (putF f y fs)))) : rStF K f (.ref a) y H R :=
  ⟨a, C, dx, fs, rfl, h, c, n, l, q⟩
theorem r_meth {C a dx : Addr} {m : Str} {fs : List (Str × V)} {H : Hp} {R : Hp → Prop} (h : H a = some (.ins C dx fs)) (l : fs.lookup m = none) (q : R H) : rMeth C m (.ref a) H R := ⟨a, dx, fs, rfl, h, l, q⟩
theorem r_prp {C a dx : Addr} {sp : Sp} {dvs : List V} {E : XK} {fs : List (Str × V)} {H : Hp} {Q : VK} (h : H a = some (.ins C dx fs)) (q : sp (.ref a :: dvs) H Q E) : rPrp C sp dvs E (.ref a) H Q := ⟨a, dx, fs, rfl, h, q⟩
theorem r_unp {K : PySem.W.Frag} {n : Nat} {a : Addr} {xs : List V} {H : Hp} {R : List V → Prop} (h : SqT K H a xs) (l : xs.length = n) (q : R xs) : rUnp K n (.ref a) H R := ⟨a, xs, rfl, h, l, q⟩
theorem r_setL {p : Addr} {i : Int} {xs : List V} {j : Nat} {v : V} {H : Hp} {R : Hp → Prop} (h : H p = some (.lst xs)) (e : ixN xs.length i = some j) (q : R (upd H p (.lst (xs.set j v)))) : rSetL (.ref p) (.int i) v H R := ⟨p, xs, i, j, rfl, rfl, h, e, q⟩
/-! the readings, one step each, as equations -/
section
variable {σ : L2.St} {H : Hp} {Q : VK} {D : Ends} {t u : TS} {ta tb te tc : TE} {tt tu : TT} {tr : TA} {to th tl : TO} {i j l : Nat} {v x y : V} {r : R2} {K : PySem.W.Frag} {f : Str} {g : TG} {gs : TGs}
theorem e_seq : tSeq t u D σ H = t { D with nx := u D } σ H := rfl
theorem e_next : tNext D σ H = D.nx σ H := rfl
theorem e_asg : tAsg te g D σ H = te σ H (fun x H1 => g x σ H1 D.nx) := rfl
theorem e_gname {R : L2.St → Hp → Prop} : gName i v σ H R = R (σ.set i (some v)) H := rfl
theorem e_gtup {n : Nat} {R : L2.St → Hp → Prop} : gTup K n gs v σ H R = rUnp K n v H (fun xs => gs xs σ H R) := rfl
theorem e_gcons {a : V} {vs : List V} {R : L2.St → Hp → Prop} : gCons g gs (a :: vs) σ H R = g a σ H (fun σ' H' => gs vs σ' H' R) :=
  propext ⟨fun ⟨_, _, e, h⟩ => by cases e; exact h, fun h => ⟨_, _, rfl, h⟩⟩
theorem e_gnil {R : L2.St → Hp → Prop} : gNil [] σ H R = R σ H := propext ⟨fun h => h.2, fun h => ⟨rfl, h⟩⟩
theorem e_gsub {s : TSet} {R : L2.St → Hp → Prop} : gSub ta tb s v σ H R = ta σ H (fun o H1 => tb σ H1 fun i H2 => s o i v H2 fun H3 => R σ H3) := rfl
theorem e_ret : tRet te D σ H = te σ H D.rt := rfl
theorem e_retN : tRetN D σ H = D.rt .non H := rfl
theorem e_if : tIfS tt t u D σ H = tt σ H (fun b H1 => if b = true then t D σ H1 else u D σ H1) := rfl
theorem e_drop : tDrop te D σ H = te σ H (fun _ H1 => D.nx σ H1) := rfl
theorem e_par : tPar i j tr D σ H = tr σ H (fun vs H1 => rP2 (fun v w => D.nx ((σ.set i (some v)).set j (some w)) H1) vs) := rfl
theorem e_par3 : tPar3 i j l tr D σ H = tr σ H (fun vs H1 => rP3 (fun u v w => D.nx (((σ.set i (some u)).set j (some v)).set l (some w)) H1) vs) := rfl
theorem e_sfld : sFld K ta te f D σ H = te σ H (fun y H1 => ta σ H1 fun x H2 => rStF K f x y H2 fun H3 => D.nx σ H3) := rfl
theorem e_var : tVar i σ H Q = ∃ v, σ[i]? = some (some v) ∧ Q v H := rfl
theorem e_c : tC v σ H Q = Q v H := rfl
theorem e_op : tOp r ta tb σ H Q = ta σ H (fun x H1 => tb σ H1 fun y H2 => r x y H2 Q) := rfl
theorem e_un {ru : V → Hp → VK → Prop} : tUn ru ta σ H Q = ta σ H (fun x H1 => ru x H1 Q) := rfl
theorem e_ri {C : Int → Int → Prop} {g : Int → Int → V} {a b : Int} : rI C g (.int a) (.int b) H Q = (C a b ∧ Q (g a b) H) :=
  propext ⟨fun ⟨_, _, e1, e2, c, q⟩ => by cases e1; cases e2; exact ⟨c, q⟩, fun ⟨c, q⟩ => ⟨_, _, rfl, rfl, c, q⟩⟩
theorem e_ri0 {g : Int → Int → V} {a b : Int} : rI0 g (.int a) (.int b) H Q = Q (g a b) H :=
  propext ⟨fun ⟨_, _, e1, e2, q⟩ => by cases e1; cases e2; exact q, fun q => ⟨_, _, rfl, rfl, q⟩⟩
theorem e_ru {g : Int → V} {a : Int} : rU g (.int a) H Q = Q (g a) H :=
  propext ⟨fun ⟨_, e1, q⟩ => by cases e1; exact q, fun q => ⟨_, rfl, q⟩⟩
theorem e_eq : rEq x y H Q = (scal x y = true ∧ Q (.bl (decide (x = y))) H) := rfl
theorem e_ne : rNe x y H Q = (scal x y = true ∧ Q (.bl (!decide (x = y))) H) := rfl
theorem e_test {R : Bool → Hp → Prop} : tTest te σ H R = te σ H (fun x H' => ∃ k, x = .bl k ∧ R k H') := rfl
theorem e_B {R : Bool → Hp → Prop} : tB te σ H R = te σ H (fun x H1 => ∃ c, x = .bl c ∧ R c H1) := rfl
theorem e_and {R : Bool → Hp → Prop} : tAnd tt tu σ H R = tt σ H (fun c H1 => if c = true then tu σ H1 R else R false H1) := rfl
theorem e_or {R : Bool → Hp → Prop} : tOr tt tu σ H R = tt σ H (fun c H1 => if c = true then R true H1 else tu σ H1 R) := rfl
theorem e_not {R : Bool → Hp → Prop} : tNot tt σ H R = tt σ H (fun c H1 => R (!c) H1) := rfl
theorem e_andV : tAndV ta tb σ H Q = ta σ H (fun x H1 => ∃ c, x = .bl c ∧ if c = true then tb σ H1 Q else Q (.bl false) H1) := rfl
theorem e_orV : tOrV ta tb σ H Q = ta σ H (fun x H1 => ∃ c, x = .bl c ∧ if c = true then Q (.bl true) H1 else tb σ H1 Q) := rfl
theorem e_notV : tNotV ta σ H Q = ta σ H (fun x H1 => ∃ c, x = .bl c ∧ Q (.bl (!c)) H1) := rfl
theorem e_ifE : tIf tt ta tb σ H Q = tt σ H (fun c H1 => if c = true then ta σ H1 Q else tb σ H1 Q) := rfl
theorem e_cb {rc : List V → Hp → VK → Prop} : tCB rc tr σ H Q = tr σ H (fun vs H1 => rc vs H1 Q) := rfl
theorem e_nil {R : List V → Hp → Prop} : tNil σ H R = R [] H := rfl
theorem e_cons {R : List V → Hp → Prop} : tCons ta tr σ H R = ta σ H (fun x H1 => tr σ H1 fun xs H2 => R (x :: xs) H2) := rfl
theorem e_tup : tTup tr σ H Q = tr σ H (fun xs H1 => xs.length ≤ sizeLine ∧ ∀ p, H1 p = none → Q (.ref p) (upd H1 p (.tup xs))) := rfl
theorem e_lst1 : tLst1 tr σ H Q = tr σ H (fun xs H1 => xs.length ≤ sizeLine ∧ ∀ p, H1 p = none → p ≠ sysModules → Q (.ref p) (upd H1 p (.lst xs))) := rfl
theorem e_fld : tFld K ta f σ H Q = ta σ H (fun x H1 => rFld K f x H1 Q) := rfl
theorem e_slice {rs : V → Option Int → Option Int → Hp → VK → Prop} : L2.tSl rs te tl th σ H Q = te σ H (fun x H1 => tl σ H1 fun a H2 => th σ H2 fun b H3 => rs x a b H3 Q) := rfl
theorem e_nopart {R : Option Int → Hp → Prop} : tNoPart σ H R = R none H := rfl
theorem e_part {R : Option Int → Hp → Prop} : tPart te σ H R = te σ H (fun x H1 => ∃ i, x = .int i ∧ R (some i) H1) := rfl
theorem e_bm0 {T : String} {rm : V → List V → Hp → VK → Prop} : tBM0 K T rm te σ H Q = te σ H (fun x H1 => tyV K T x H1 ∧ rm x [] H1 Q) := rfl
theorem e_bm {T : String} {rm : V → List V → Hp → VK → Prop} : tBM K T rm te tr σ H Q = te σ H (fun x H1 => tyV K T x H1 ∧ tr σ H1 fun xs H2 => rm x xs H2 Q) := rfl
theorem e_m1 {rm : V → List V → Hp → VK → Prop} : tM1 rm ta te σ H Q = ta σ H (fun x H1 => (∃ a, x = .str a) ∧ te σ H1 fun y H2 => rm x [y] H2 Q) := rfl
theorem e_cg {sp : Sp} {W : WX} : tCG sp W tr σ H Q = tr σ H (fun vs H1 => sp vs H1 Q (WE W σ)) := rfl
theorem e_mg {C : Addr} {m : Str} {sp : Sp} {W : WX} : tMG C m sp W ta tr σ H Q = ta σ H (fun x H1 => rMeth C m x H1 fun H1' => tr σ H1' fun vs H2 => sp (x :: vs) H2 Q (WE W σ)) :=
  by
    unfold tMG rMeth
    rfl
theorem e_make {C : Addr} {sp : Sp} {dvs : List V} {E : XK} : tMake C sp dvs E tr σ H Q = tr σ H (fun vs H1 => ∀ x dx, H1 x = none → H1 dx = none → dx ≠ x →
  sp (.ref x :: (vs ++ dvs)) (upd (upd H1 dx (.own x)) x (.ins C dx [])) (fun v H2 => v = .non ∧ Q (.ref x) H2) E) := rfl
theorem e_prop {C : Addr} {sp : Sp} {dvs : List V} {E : XK} : tProp C sp dvs E ta σ H Q = ta σ H (fun x H1 => rPrp C sp dvs E x H1 Q) := rfl
theorem e_raise1 {C : Addr} {W : WX} : tRaise1 C f W te D σ H = te σ H (fun v H1 => ∀ d, H1 d = none → W (.ref C) (some d) σ (upd H1 d (.xd [(f, v)]))) := rfl
theorem e_chain {r' : R2} : tChain r r' ta tb tc σ H Q = ta σ H (fun x H1 => tb σ H1 fun y H2 => r x y H2 fun z H3 => ∃ k, z = .bl k ∧ (if k = true then tc σ H3 fun w' H4 => r' y w' H4 Q else Q (.bl false) H3)) := rfl
theorem e_mulS {z : Str} {k : Int} : rMulS (.str z) (.int k) H Q = (PySem.MulOk z k ∧ Q (.str (Txt.mul z k)) H) :=
  propext ⟨fun ⟨_, _, e1, e2, c, q⟩ => by cases e1; cases e2; exact ⟨c, q⟩, fun ⟨c, q⟩ => ⟨_, _, rfl, rfl, c, q⟩⟩
theorem e_slS {z : Str} {lo hi : Option Int} : rSlS (.str z) lo hi H Q = (z.length ≤ sizeLine ∧ Q (.str (cutS z lo hi)) H) :=
  propext ⟨fun ⟨_, e1, c, q⟩ => by cases e1; exact ⟨c, q⟩, fun ⟨c, q⟩ => ⟨_, rfl, c, q⟩⟩
theorem e_ixL {p : Addr} {i : Int} : rIxL K (.ref p) (.int i) H Q = ∃ xs v, SqL K H p xs ∧ atI xs i = some v ∧ Q v H :=
  propext ⟨fun ⟨_, xs, _, v, e1, e2, c, d, q⟩ => by cases e1; cases e2; exact ⟨xs, v, c, d, q⟩, fun ⟨xs, v, c, d, q⟩ => ⟨_, xs, _, v, rfl, rfl, c, d, q⟩⟩
theorem e_ixT {p : Addr} {i : Int} : rIxT K (.ref p) (.int i) H Q = ∃ xs v, SqT K H p xs ∧ atI xs i = some v ∧ Q v H :=
  propext ⟨fun ⟨_, xs, _, v, e1, e2, c, d, q⟩ => by cases e1; cases e2; exact ⟨xs, v, c, d, q⟩, fun ⟨xs, v, c, d, q⟩ => ⟨_, xs, _, v, rfl, rfl, c, d, q⟩⟩
theorem e_ixS {z : Str} {i : Int} : rIxS (.str z) (.int i) H Q = ∃ c, z.length ≤ sizeLine ∧ atI z.cps.toList i = some c ∧ Q (.str ⟨#[c]⟩) H :=
  propext ⟨fun ⟨_, _, c, e1, e2, d, a, q⟩ => by cases e1; cases e2; exact ⟨c, d, a, q⟩, fun ⟨c, d, a, q⟩ => ⟨_, _, c, rfl, rfl, d, a, q⟩⟩
theorem e_setL {p : Addr} {k : Int} {R : Hp → Prop} : rSetL (.ref p) (.int k) v H R = ∃ xs j, H p = some (.lst xs) ∧ ixN xs.length k = some j ∧ R (upd H p (.lst (xs.set j v))) :=
  propext ⟨fun ⟨_, xs, _, j, e1, e2, c, d, q⟩ => by cases e1; cases e2; exact ⟨xs, j, c, d, q⟩, fun ⟨xs, j, c, d, q⟩ => ⟨_, xs, _, j, rfl, rfl, c, d, q⟩⟩
theorem r_ixL {p : Addr} {i : Int} {xs : List V} {v : V} (h : SqL K H p xs) (e : atI xs i = some v) (q : Q v H) : rIxL K (.ref p) (.int i) H Q := ⟨_, xs, _, v, rfl, rfl, h, e, q⟩
theorem r_ixT {p : Addr} {i : Int} {xs : List V} {v : V} (h : SqT K H p xs) (e : atI xs i = some v) (q : Q v H) : rIxT K (.ref p) (.int i) H Q := ⟨_, xs, _, v, rfl, rfl, h, e, q⟩
end
theorem e_cxK {CX : CXT} {P : Program} {w : World} {mg : Str → Option Value} {base : Heap} {N : List Str} {qual : Str} {scope : Scope} {f : Addr} {cd : Value} {A : Around} {outer : List Env} {s : Shared} {H : Hp} {E : XK} {K : PySem.W.Frag} :
    (cxOf CX P w K mg base N qual scope f cd A outer s H E).K = K := rfl
theorem e_pt {R : Bool → Hp → Prop} {σ : L2.St} {H : Hp} {t : TT} {b : Bool} (h : t σ H R) : t σ H R := h
/-- int(n), n an int -/
theorem call_intI {X : Cx} : CallR X (.type "int") (fun xs H Q => ∃ i, xs = [.int i] ∧ Q (.int i) H) := by
  intro pins s σ H xs us Q I r h
  obtain ⟨i, e, q⟩ := h
  exact call_int1 pins s σ H xs us Q I r (.inl ⟨i, e, q⟩)
/-- σ at the entry -/
theorem start_def {N : List Str} {vs : List V} : L2.start N vs = vs.map some ++ List.replicate (N.length - vs.length) none := rfl
end Nv

namespace Nv
open PySem PySem.Spec PyProof.Rows L2

/-! {n:04d} -/
/-- the text of {i:04d} -/
def four (i : Int) : Str := ⟨(List.replicate (4 - (Nat.toDigits 10 i.natAbs).length) 48 ++ (Nat.toDigits 10 i.natAbs).map Char.toNat).toArray⟩
theorem four_len {i : Int} (h1 : i.natAbs < 10000) : (four i).length ≤ 4 := by
  have h := digits10_le (k := 4) (n := i.natAbs) (by decide) (by omega)
  show ((List.replicate (4 - (Nat.toDigits 10 i.natAbs).length) 48 ++ (Nat.toDigits 10 i.natAbs).map Char.toNat).toArray).size ≤ 4
  simp
  omega
theorem small_log {n : Nat} (h : n < 10000) : n.log2 < 1920 := by
  by_cases h0 : n = 0
  · subst h0
    decide
  · rw [Nat.log2_lt h0]
    exact Nat.lt_of_lt_of_le h (by
      have : (2 : Nat) ^ 14 ≤ 2 ^ 1920 := Nat.pow_le_pow_right (by decide) (by decide)
      omega)
def f4 : Builtin.Float.FormatSpec := { fill := 48, align := 61, width := some 4, type := some 100 }
theorem gives_four (i : Int) (t u : Tok) (h0 : 0 ≤ i) (h1 : i.natAbs < 10000) : Gives (Builtin.«int.__format__» ⟨[.int i t, .str "04d" u], []⟩) (.str (four i)) := by
  intro prog w A R s hq
  unfold Builtin.«int.__format__»
  simp only [selfAndOne, noKeywords, Builtin.Int.intOfSelf, asInt?, asStr?, List.isEmpty_nil, if_true, pure_bind, bind_pure, bind_assoc, show (Value.str "04d" u == Value.none) = false from rfl, Bool.false_eq_true, if_false,
    show ((Str.ofString "04d").length == 0) = false from by decide +kernel]
  refine wpAny_bind (wpAny_typeNameOf (T := "str") (typeIs_str _ _ _) (by decide) fun _ => ?_)
  rw [if_neg (by decide +kernel)]
  first | refine wpAny_bind (wpAny_typeNameOfCut_int ?_) | refine wpAny_bind (wpAny_typeNameOf_int ?_)
  obtain ⟨f, hp, hty, hpr, hz, hal, hw, hgr, hsg, hfi, hag⟩ : ∃ f, Builtin.Float.parseFormatSpec (Str.ofString "04d").cps.toList "int" 62 = .ok f ∧ f.type = some 100 ∧ f.precision = none ∧ f.noNeg0 = false ∧ f.alt = false ∧ f.width = some 4 ∧ f.grouping = none ∧ f.sign = none ∧ f.fill = 48 ∧ f.align = 61 :=
    ⟨f4, rfl, rfl, rfl, rfl, rfl, rfl, rfl, rfl, rfl, rfl⟩
  simp only [hp, hty, Option.getD_some]
  rw [if_pos (by decide)]
  show wpAny _ _ (if _ then _ else _) _ _ _
  rw [if_neg (by simp [hpr])]
  show wpAny _ _ (if _ then _ else _) _ _ _
  rw [if_neg (by simp [hz])]
  show wpAny _ _ (if _ then _ else _) _ _ _
  rw [if_neg (by decide)]
  show wpAny _ _ (do let r ← Builtin.overDigitLimit? i; _) _ _ _
  rw [PySem.overDigitLimit_small (small_log h1)]
  refine wpAny_bind (wpAny_pure ?_)
  show wpAny _ _ (if _ then _ else _) _ _ _
  rw [if_neg (by simp [hw])]
  show wpAny _ _ (retStr _) _ _ _
  have hd : ((Nat.toDigits 10 i.natAbs).map fun c => (if (100 : Nat) == 88 then c.toUpper else c).toNat).isEmpty = false := by
    have := tDigits_len_ge 10 i.natAbs
    cases h : Nat.toDigits 10 i.natAbs with
    | nil => rw [h] at this; simp at this
    | cons _ _ => rfl
  have hneg : decide (i < 0) = false := decide_eq_false (by omega)
  have key : ∀ X : Str, X = four i → wpAny (model prog w) A.in1 (retStr X) (fun fin s' => match fin with | .done f => R (.ok f) s' | .again c' => c'.quiet = true ∧ codeAny (model prog w) A c' R s') (fun e s' => R (.error e) s') s := by
    intro X e
    subst e
    exact (Gives.of_eq (t := retStr (four i)) (m := .str (four i)) rfl) prog w A R s hq
  refine key _ ?_
  simp only [hal, hneg, Bool.false_eq_true, if_false, show ((10 : Nat) == 10) = true by decide, if_true]
  clear hd hneg key hq
  generalize hD : ((Nat.toDigits 10 i.natAbs).map fun c => (if (100 : Nat) == 88 then c.toUpper else c).toNat) = D
  have hD2 : four i = ⟨(List.replicate (4 - D.length) 48 ++ D).toArray⟩ := by
    rw [← hD]
    unfold four
    simp
  rw [hD2]
  have hne : D.isEmpty = false := by
    rw [← hD]
    have := tDigits_len_ge 10 i.natAbs
    cases h : Nat.toDigits 10 i.natAbs with
    | nil => rw [h] at this; simp at this
    | cons _ _ => rfl
  clear hD hD2 hp
  obtain ⟨fill, align, sign, noNeg0, alt, width, grouping, precision, type⟩ := f
  simp only at hty hpr hz hal hw hgr hsg hfi hag
  subst hty hpr hz hal hw hgr hsg hfi hag
  cases D with
  | nil => cases hne
  | cons x r =>
  conv => lhs; whnf
  have c1 : ((48 : Nat) == 48 && (61 : Nat) == 61) = true := rfl
  simp only [List.replicate_zero, List.nil_append, List.append_nil, List.length_nil, c1, hne, Bool.false_eq_true, if_false, if_true, List.length_append, List.length_replicate]
  have e1 : (((4 : Nat) : Int) - (((0 : Nat) : Int) + ((0 : Nat) : Int) + ((0 : Nat) : Int))).toNat = 4 := by decide
  rw [e1]
  have e2 : (((4 : Nat) : Int) - (((0 : Nat) : Int) + ((0 : Nat) : Int) + ((0 : Nat) : Int)) - ((4 - (x :: r).length + (x :: r).length : Nat) : Int)).toNat = 0 := by omega
  rw [e2]
  rfl
theorem field_four {prog : Program} {w : World} {A : Around} {E : Value → Shared → Prop} {s : Shared} {i : Int} {t : Tok} {Q : Value → Shared → Prop} (h0 : 0 ≤ i) (h1 : i.natAbs < 10000)
    (h : Q (.str (four i) (s.toks + 1)) { s with toks := s.toks + 1 + 1 }) : wpAny (model prog w) A (formatField (.int i t) "04d") Q E s :=
  wpAny_formatField_spec (by decide +kernel) (fun s' => typeIs_int s' i t) F.slot_int_format F.entry_int_format F.args_int_format_2 (fun u => gives_four i t u h0 h1) h (by decide +kernel) (by have := four_len h1; have e : sizeLine = 16777216 := sizeLine_eq; omega)
def tF4 (te : TE) : TE := fun σ H Q => te σ H fun x H1 => ∃ i : Int, x = .int i ∧ 0 ≤ i ∧ i.natAbs < 10000 ∧ Q (.str (four i)) H1
theorem pe_fmt04 {X : Cx} {e : Expr} {te : TE} {k : Nat} {p1 p2 pos : Pos} (he : PE X e te) : PE X (.FormattedValue e (-1) (some (.JoinedStr [.Constant (.str "04d") k p1] p2)) pos) (tF4 te) := by
  refine ⟨fun pins s σ H Q I h => ?_⟩
  refine wpAny_FormattedValue_spec (thn (he.run pins s σ H _ I h) fun v s1 hv => ?_)
  obtain ⟨x, H1, I1, r1, i, rfl, h0, h1, q⟩ := hv
  obtain ⟨t, rfl⟩ := r1
  refine wpAny_JoinedStr_one ?_
  have z := (pe_str (X := X) (x := "04d") (j := k) (pos := p1)).run pins s1 σ H1 (fun v H2 => v = .str "04d" ∧ H2 = H1) I1 ⟨rfl, rfl⟩
  refine thn z fun v s2 ⟨v', H2, I2, r2, e1, e2⟩ => ?_
  subst e1 e2
  obtain ⟨t2, rfl⟩ := r2
  exact ⟨_, _, rfl, field_four h0 h1 ⟨.str (four i), H2, I2.tok _, ⟨_, rfl⟩, q⟩⟩

/-! repr of data without dicts -/
def rReprD (K : PySem.W.Frag) : List V → Hp → VK → Prop := fun xs H Q => ∃ (v : V) (d : PyData), xs = [v] ∧ Dp K H v d ∧ ((∃ z, v = .str z) ∨ ∃ a, v = .ref a) ∧ d.hasDict = false ∧ d.showable = true ∧ d.depth ≤ 60 ∧ d.shown.length ≤ sizeLine ∧ Q (.str d.shown) H
theorem call_reprD {X : Cx} (hG : X.A.guards = some []) (hu : X.A.units + 64 < cLine) : CallR X (.builtin "repr") (rReprD X.K) := by
  intro pins s σ H xs us Q I r h
  obtain ⟨v, d, rfl, hd, hv, hn, hs, hp, hz, q⟩ := h
  cases r with
  | cons r1 r2 =>
    cases r2
    rcases hv with ⟨z, rfl⟩ | ⟨a, rfl⟩
    · cases hd
      obtain ⟨t, rfl⟩ := r1
      exact PySem.P.repr_of_str ⟨.str (reprText z), H, I.tok _, ⟨_, rfl⟩, q⟩ hz
    · obtain ⟨as, rd⟩ := Dp.reads I d (.ref a) _ hd r1
      cases r1
      exact repr_of_reads' rd hs (fun e => by rw [hn] at e; cases e) hG (by omega) (fun _ _ e => e) (fun h' u tk k => ⟨.str d.shown, H, I.kept k, ⟨u, rfl⟩, q⟩) hz

/-! the readings, one step each -/
section
variable {σ : L2.St} {H : Hp} {Q : VK} {te ta tb : TE}
theorem e_f4 : tF4 te σ H Q = te σ H (fun x H1 => ∃ i : Int, x = .int i ∧ 0 ≤ i ∧ i.natAbs < 10000 ∧ Q (.str (four i)) H1) := rfl
theorem e_js0 {acc : Str} {R : Str → Hp → Prop} : tJs [] acc σ H R = R acc H := rfl
theorem e_js1 {ts : List TE} {acc : Str} {R : Str → Hp → Prop} : tJs (te :: ts) acc σ H R = te σ H (fun x H1 => ∃ y : Str, x = .str y ∧ (acc ++ y).length ≤ sizeLine ∧ tJs ts (acc ++ y) σ H1 R) := rfl
theorem e_fmt : tFmt te σ H Q = te σ H (fun x H1 => (∃ y : Str, x = .str y ∧ y.length ≤ sizeLine ∧ Q (.str y) H1) ∨ ∃ i : Int, x = .int i ∧ i.natAbs.log2 < 1920 ∧ Q (.str (toString i)) H1) := rfl
theorem e_lrg {t : L2.St → Hp → (Int → Int → Hp → Prop) → Prop} : tLstRg t σ H Q = t σ H (fun a b H1 => RgOk a b ∧ ∀ q, H1 q = none → Q (.ref q) (upd H1 q (.lst (rgV a b)))) := rfl
theorem e_rg1 {R : Int → Int → Hp → Prop} : tRg1 ta σ H R = ta σ H (fun x H1 => ∃ n, x = .int n ∧ R 0 n H1) := rfl
end
end Nv
namespace Nv
open PySem PySem.Spec PyProof.Rows L2
/-! the same rules where the written part's name is given (within a comprehension) -/
section
variable {X : Cx} {K : PySem.W.Frag}
theorem ix_listK (h : X.K = K) : IxR X (rIxL K) := by
  subst h
  exact ix_list
theorem ix_tupK (h : X.K = K) : IxR X (rIxT K) := by
  subst h
  exact ix_tup
theorem sl_listK (h : X.K = K) : SlR X (rSlL K) := by
  subst h
  exact sl_list
theorem sl_tupK (h : X.K = K) : SlR X (rSlT K) := by
  subst h
  exact sl_tup
theorem op_eqDK (h : X.K = K) (hu : X.A.units + 64 < cLine) : OpR X (compareOp .Eq) (rEqD K) := by
  subst h
  exact op_eqD hu
theorem op_neDK (h : X.K = K) (hu : X.A.units + 64 < cLine) : OpR X (compareOp .NotEq) (rNeD K) := by
  subst h
  exact op_neD hu
theorem call_len_seqK (h : X.K = K) : CallR X (.builtin "len") (fun xs H Q => ∃ p ys, xs = [.ref p] ∧ (SqL K H p ys ∨ SqT K H p ys) ∧ Q (.int ys.length) H) := by
  subst h
  exact call_len_seq
end
end Nv

namespace Nv
open PySem L2

/-! texts of plain signs -/
def Asc (z : Str) : Prop := ∀ c ∈ z.cps.toList, c < 128
theorem Asc.app {x y : Str} (a : Asc x) (b : Asc y) : Asc (x ++ y) := fun c h => by
  have e : (x ++ y).cps.toList = x.cps.toList ++ y.cps.toList := by
    show (x.cps ++ y.cps).toList = _
    simp
  rw [e] at h
  rcases List.mem_append.mp h with h | h
  · exact a c h
  · exact b c h
theorem cutS_sub {z : Str} {lo hi : Option Int} {c : Nat} (h : c ∈ (cutS z lo hi).cps.toList) : c ∈ z.cps.toList := by
  unfold cutS at h
  exact List.mem_of_mem_drop (List.mem_of_mem_take (by simpa using h))
theorem Asc.cut {z : Str} (a : Asc z) (lo hi : Option Int) : Asc (cutS z lo hi) := fun c h => a c (cutS_sub h)
theorem Asc.one {c : Nat} (h : c < 128) : Asc ⟨#[c]⟩ := fun d hd => by
  have : d = c := by simpa using hd
  omega
theorem Asc.empty : Asc Str.empty := fun c h => by
  simp [Str.empty] at h
theorem foldl_mem {x : Array Nat} {c : Nat} : ∀ (n : Nat) (acc : Array Nat), c ∈ ((List.replicate n x).foldl (· ++ ·) acc).toList → c ∈ acc.toList ∨ c ∈ x.toList
  | 0, acc, h => .inl h
  | n + 1, acc, h => by
    rw [List.replicate_succ, List.foldl_cons] at h
    rcases foldl_mem n _ h with h | h
    · have e : (acc ++ x).toList = acc.toList ++ x.toList := by simp
      rw [e] at h
      exact List.mem_append.mp h
    · exact .inr h
theorem Asc.mul {z : Str} (a : Asc z) (n : Int) : Asc (Txt.mul z n) := fun c h => by
  unfold Txt.mul at h
  split at h
  · exact Asc.empty c h
  · split at h
    · exact a c h
    · rcases foldl_mem _ _ h with h | h
      · simp at h
      · exact a c h
theorem foldl_size (x : Array Nat) : ∀ (n : Nat) (acc : Array Nat), ((List.replicate n x).foldl (· ++ ·) acc).size = acc.size + n * x.size
  | 0, acc => by simp
  | n + 1, acc => by
    rw [List.replicate_succ, List.foldl_cons, foldl_size x n, Array.size_append, Nat.succ_mul]
    omega
theorem mul_len (z : Str) (n : Int) : (Txt.mul z n).length ≤ z.length * n.toNat := by
  unfold Txt.mul
  split
  · exact Nat.zero_le _
  · split
    · rename_i h1 h2
      simp only [Bool.or_eq_true, beq_iff_eq] at h2
      rcases h2 with h2 | h2
      · subst h2
        simp
      · rw [h2]
        exact Nat.zero_le _
    · show ((List.replicate n.toNat z.cps).foldl (· ++ ·) #[]).size ≤ _
      rw [foldl_size]
      simp [Str.length, Nat.mul_comm]
theorem mulOk_of {z : Str} {n : Int} (h1 : n ≤ 1000) (h0 : -1000 ≤ n) (h2 : z.length ≤ 10000) : MulOk z n := by
  refine ⟨?_, ?_, ?_⟩
  · simp
    constructor <;> omega
  · intro hn _ h
    have hp : 0 < n := by omega
    have : (9223372036854774 : Int) ≤ (2 ^ 63 - 1) / n := by
      refine Int.le_ediv_of_mul_le hp ?_
      have : (2 : Int) ^ 63 - 1 = 9223372036854775807 := by decide
      rw [this]
      omega
    omega
  · intro hn _
    have hm : z.length * n.toNat ≤ 10000 * 1000 := Nat.mul_le_mul h2 (by omega)
    unfold Builtin.Str.tooLong
    have : sizeLine = 16777216 := sizeLine_eq
    simp [this]
    omega
theorem append_len (x y : Str) : (x ++ y).length = x.length + y.length := Str.length_append x y
theorem join_signs (l : List Nat) : Txt.join Str.empty (l.map fun c => (⟨#[c]⟩ : Str)) = ⟨l.toArray⟩ := by
  show Builtin.Str.glued Str.empty _ = _
  rw [StrLaws.glued_eq_join]
  exact PyProof.Rows.join_ones l
theorem Asc.signs {l : List Nat} (h : ∀ c ∈ l, c < 128) : Asc ⟨l.toArray⟩ := fun c hc => h c (by simpa using hc)
theorem repr_len {z : Str} (a : Asc z) : (reprText z).length ≤ 10 * z.length + 2 := StrLaws.reprText_len z fun c h => Nat.lt_of_lt_of_le (a c h) (by decide)
end Nv

namespace Nv
open PySem L2

/-! values whose text is short -/
structure Shw (W D : Nat) (d : PyData) : Prop where
  s : d.leavesShort 40 = true
  w : d.weight ≤ W
  p : d.depth ≤ D
  h : d.showable = true
structure Shws (W D : Nat) (ds : List PyData) : Prop where
  s : PyData.leavesShortAll 40 ds = true
  w : PyData.weightAll ds ≤ W
  p : PyData.depthAll ds ≤ D
  h : PyData.showableAll ds = true
theorem Shw.len {W D : Nat} {d : PyData} (h : Shw W D d) (hw : W ≤ 390000) : d.shown.length ≤ sizeLine := by
  have h1 := PyData.shown_le 40 (by decide) d h.s
  have h2 : (40 + 2) * d.weight ≤ (40 + 2) * 390000 := Nat.mul_le_mul_left _ (Nat.le_trans h.w hw)
  have e : sizeLine = 16777216 := sizeLine_eq
  omega
theorem Shw.le {W D W' D' : Nat} {d : PyData} (h : Shw W D d) (a : W ≤ W') (b : D ≤ D') : Shw W' D' d := ⟨h.s, Nat.le_trans h.w a, Nat.le_trans h.p b, h.h⟩
theorem Shw.non {W D : Nat} : Shw W D .none := ⟨rfl, Nat.zero_le _, Nat.zero_le _, rfl⟩
theorem Shw.bl {W D : Nat} (b : Bool) : Shw W D (.bool b) := ⟨rfl, Nat.zero_le _, Nat.zero_le _, rfl⟩
theorem log21 {i : Int} (h : -(10 ^ 21) ≤ i ∧ i ≤ 10 ^ 21) : i.natAbs.log2 < 70 := by
  by_cases h0 : i.natAbs = 0
  · rw [h0]
    decide
  · rw [Nat.log2_lt h0]
    omega
theorem Shw.int {D : Nat} {i : Int} (h : -(10 ^ 21) ≤ i ∧ i ≤ 10 ^ 21) : Shw 71 D (.int i) := by
  have hl := log21 h
  refine ⟨?_, ?_, Nat.zero_le _, ?_⟩
  · have h1 := int_text_length_le10 (a := i) (k := 22) (by decide) (by omega)
    have e : (Str.ofString (toString i)).length = (toString i).length := ofString_length _
    have h2 : (PyData.shown (.int i)).length ≤ 40 := by
      simp only [PyData.shown]
      exact Nat.le_trans (Nat.le_of_eq e) (by omega)
    simpa only [PyData.leavesShort, decide_eq_true_eq] using h2
  · simp only [PyData.weight]
    split <;> omega
  · simp only [PyData.showable, decide_eq_true_eq]
    omega
theorem Shw.str {D : Nat} {z : Str} (a : Asc z) : Shw z.length D (.str z) := by
  refine ⟨?_, Nat.le_refl _, Nat.zero_le _, rfl⟩
  simp only [PyData.leavesShort, List.all_eq_true, decide_eq_true_eq]
  exact fun c hc => Nat.lt_of_lt_of_le (a c hc) (by decide)
theorem Shw.list {W D : Nat} {ds : List PyData} (h : Shws W D ds) : Shw W (D + 1) (.list ds) := by
  refine ⟨?_, ?_, ?_, ?_⟩
  · simpa only [PyData.leavesShort] using h.s
  · simpa only [PyData.weight] using h.w
  · have := h.p
    simp only [PyData.depth]
    omega
  · simpa only [PyData.showable] using h.h
theorem Shw.tuple {W D : Nat} {ds : List PyData} (h : Shws W D ds) : Shw W (D + 1) (.tuple ds) := by
  refine ⟨?_, ?_, ?_, ?_⟩
  · simpa only [PyData.leavesShort] using h.s
  · simpa only [PyData.weight] using h.w
  · have := h.p
    simp only [PyData.depth]
    omega
  · simpa only [PyData.showable] using h.h
theorem Shw.dict1 {W1 W2 D : Nat} {k v : PyData} (a : Shw W1 D k) (b : Shw W2 D v) : Shw (W1 + W2 + 2) (D + 1) (.dict [(k, v)]) := by
  refine ⟨?_, ?_, ?_, ?_⟩
  · simp only [PyData.leavesShort, PyData.leavesShortKv, a.s, b.s, Bool.and_self]
  · have := a.w
    have := b.w
    simp only [PyData.weight, PyData.weightKv]
    omega
  · have := a.p
    have := b.p
    simp only [PyData.depth, PyData.depthKv]
    omega
  · simp only [PyData.showable, PyData.showableKv, a.h, b.h, Bool.and_self]
theorem Shws.nil {W D : Nat} : Shws W D [] := ⟨rfl, Nat.zero_le _, Nat.zero_le _, rfl⟩
theorem Shws.cons {W1 W2 D : Nat} {d : PyData} {ds : List PyData} (a : Shw W1 D d) (b : Shws W2 D ds) : Shws (W1 + 1 + W2) D (d :: ds) := by
  refine ⟨?_, ?_, ?_, ?_⟩
  · simp only [PyData.leavesShortAll, a.s, b.s, Bool.and_self]
  · have := a.w
    have := b.w
    simp only [PyData.weightAll]
    omega
  · have := a.p
    have := b.p
    simp only [PyData.depthAll]
    omega
  · simp only [PyData.showableAll, a.h, b.h, Bool.and_self]
theorem Shws.le {W D W' D' : Nat} {d : List PyData} (h : Shws W D d) (a : W ≤ W') (b : D ≤ D') : Shws W' D' d := ⟨h.s, Nat.le_trans h.w a, Nat.le_trans h.p b, h.h⟩
theorem Shws.app {W1 W2 D : Nat} : ∀ {ds es : List PyData}, Shws W1 D ds → Shws W2 D es → Shws (W1 + W2) D (ds ++ es)
  | [], es, a, b => b.le (by omega) (Nat.le_refl _)
  | d :: ds, es, a, b => by
    have h1 := a.s
    have h2 := a.w
    have h3 := a.p
    have h4 := a.h
    simp only [PyData.leavesShortAll, Bool.and_eq_true] at h1
    simp only [PyData.weightAll] at h2
    simp only [PyData.depthAll] at h3
    simp only [PyData.showableAll, Bool.and_eq_true] at h4
    have q : Shws (PyData.weightAll ds) D ds := ⟨h1.2, Nat.le_refl _, by omega, h4.2⟩
    have p : Shw (PyData.weight d) D d := ⟨h1.1, Nat.le_refl _, by omega, h4.1⟩
    have r := Shws.cons p (Shws.app q b)
    exact r.le (by omega) (Nat.le_refl _)
/-- repr of a list, a tuple, a dict whose text is short -/
theorem r_repr {H : Hp} {Q : VK} {a : Addr} {d : PyData} {W D : Nat} (h : DV H (.ref a) d) (s : Shw W D d) (hw : W ≤ 390000) (hd : D ≤ 60) (q : Q (.str d.shown) H) : rRepr [.ref a] H Q :=
  ⟨a, d, rfl, h, s.h, Nat.le_trans s.p hd, s.len hw, q⟩
end Nv

namespace PySem.W
/-- isinstance by an own class -/
theorem kit_ref {K : Frag} {C : Addr} {cls : Value} (hd : hasDictIn K C = true) (ht : typeIn K (.ref C) = some (.type "type")) (h : subIn K cls (.ref C) = some true) : kitOne K cls (.ref C) = some true := by
  have hc : (clsIn K C).isSome = true := by
    obtain ⟨cd, h, _⟩ := any_some hd
    rw [h]
    rfl
  unfold kitOne
  split
  · rfl
  · unfold kitCls
    simp [hc, ht, h]
end PySem.W

namespace Fr

def dig (c : Nat) : Bool := decide (48 ≤ c) && decide (c ≤ 57)
def num (l : List Nat) : Nat := l.foldl (fun a c => a * 10 + (c - 48)) 0
/-- where the frame ends that begins at s -/
def fend (z : List Nat) (s : Nat) : Option Nat :=
  if ((z.drop s).take 4).length = 4 ∧ ((z.drop s).take 4).all dig = true then
    if (z.drop (s + 4 + num ((z.drop s).take 4))).take 1 = [46] then some (s + 4 + num ((z.drop s).take 4) + 1) else none
  else none
def piece (z : List Nat) (a b : Nat) : List Nat := (z.drop a).take (b - a)
def rd (z : List Nat) : Nat → Nat → List (List Nat) → List (List Nat) × Nat
  | 0, s, acc => (acc, s)
  | n + 1, s, acc => match fend z s with
    | none => (acc, s)
    | some e => rd z n e (acc ++ [piece z (s + 4) (e - 1)])
def parse (z : List Nat) : List (List Nat) × Nat := rd z (z.length + 1) 0 []

theorem fend_bounds {z : List Nat} {s e : Nat} (h : fend z s = some e) : s + 5 ≤ e ∧ e ≤ z.length := by
  unfold fend at h
  split at h
  · split at h
    · rename_i h1 h2
      cases h
      have hl : ((z.drop (s + 4 + num ((z.drop s).take 4))).take 1).length = 1 := by rw [h2]; rfl
      rw [List.length_take, List.length_drop] at hl
      omega
    · cases h
  · cases h
theorem rd_more {z : List Nat} : ∀ (n s : Nat) (acc : List (List Nat)), z.length + 1 ≤ n + s → rd z n s acc = rd z (n + 1) s acc
  | 0, s, acc, h => by
    have : fend z s = none := by
      cases e : fend z s with
      | none => rfl
      | some x =>
        have := fend_bounds e
        omega
    simp [rd, this]
  | n + 1, s, acc, h => by
    rw [rd, rd]
    cases e : fend z s with
    | none => rfl
    | some x =>
      have := fend_bounds e
      exact rd_more n x _ (by omega)
/-- where a reading stands -/
def At (z : List Nat) (s : Nat) (acc : List (List Nat)) : Prop := s ≤ z.length ∧ rd z (z.length + 1) s acc = parse z
theorem At.zero (z : List Nat) : At z 0 [] := ⟨Nat.zero_le _, rfl⟩
theorem At.stop {z : List Nat} {s : Nat} {acc : List (List Nat)} (h : At z s acc) (e : fend z s = none) : parse z = (acc, s) := by
  rw [← h.2, rd, e]
theorem At.step {z : List Nat} {s e : Nat} {acc : List (List Nat)} (h : At z s acc) (he : fend z s = some e) : At z e (acc ++ [piece z (s + 4) (e - 1)]) := by
  have hb := fend_bounds he
  refine ⟨hb.2, ?_⟩
  rw [← h.2]
  have e1 : rd z (z.length + 1) s acc = rd z z.length e (acc ++ [piece z (s + 4) (e - 1)]) := by
    simp only [rd, he]
  rw [e1]
  exact (rd_more z.length e _ (by omega)).symm

/-! rows of frames -/
def pad (n : Nat) : List Nat := [48 + n / 1000 % 10, 48 + n / 100 % 10, 48 + n / 10 % 10, 48 + n % 10]
def frm (t : List Nat) : List Nat := pad t.length ++ t ++ [46]
theorem frm_len (t : List Nat) : (frm t).length = t.length + 5 := by
  simp [frm, pad]
theorem pad_num {n : Nat} (h : n < 10000) : num (pad n) = n := by
  simp only [num, pad, List.foldl_cons, List.foldl_nil]
  omega
theorem pad_dig (n : Nat) : (pad n).all dig = true := by
  simp only [pad, List.all_cons, List.all_nil, dig, Bool.and_true, Bool.and_eq_true, decide_eq_true_eq]
  omega
def row (ts : List (List Nat)) : List Nat := (ts.map frm).flatten
def total (ts : List (List Nat)) : Nat := (ts.map fun t => t.length + 5).sum
theorem row_len (ts : List (List Nat)) : (row ts).length = total ts := by
  induction ts with
  | nil => rfl
  | cons t r ih =>
    simp only [row, total, List.map_cons, List.flatten_cons, List.length_append, List.sum_cons, frm_len] at *
    omega
/-- how many frames end within the first c signs -/
def cnt : List (List Nat) → Nat → Nat
  | [], _ => 0
  | t :: r, c => if t.length + 5 ≤ c then 1 + cnt r (c - (t.length + 5)) else 0
theorem cnt_le : ∀ (ts : List (List Nat)) (c : Nat), cnt ts c ≤ ts.length
  | [], c => Nat.le_refl _
  | t :: r, c => by
    have := cnt_le r (c - (t.length + 5))
    simp only [cnt, List.length_cons]
    split <;> omega
theorem drop_app {α : Type} (l m : List α) : (l ++ m).drop l.length = m := by simp
theorem fend_whole {pre t rest : List Nat} (ht : t.length < 10000) : fend (pre ++ (frm t ++ rest)) pre.length = some (pre.length + (t.length + 5)) := by
  have e1 : ((pre ++ (frm t ++ rest)).drop pre.length).take 4 = pad t.length := by
    rw [drop_app]
    simp [frm, pad]
  have hp : (pad t.length).length = 4 := rfl
  unfold fend
  rw [e1, pad_num ht, if_pos ⟨hp, pad_dig _⟩]
  have e2 : (pre ++ (frm t ++ rest)).drop (pre.length + 4 + t.length) = 46 :: rest := by
    have : pre ++ (frm t ++ rest) = (pre ++ pad t.length ++ t) ++ (46 :: rest) := by simp [frm]
    rw [this]
    have hl : pre.length + 4 + t.length = (pre ++ pad t.length ++ t).length := by simp [hp]; omega
    rw [hl, drop_app]
  rw [e2]
  simp
  omega
theorem piece_whole {pre t rest : List Nat} : piece (pre ++ (frm t ++ rest)) (pre.length + 4) (pre.length + (t.length + 5) - 1) = t := by
  have : pre ++ (frm t ++ rest) = (pre ++ pad t.length) ++ (t ++ (46 :: rest)) := by simp [frm]
  unfold piece
  rw [this]
  have hl : pre.length + 4 = (pre ++ pad t.length).length := by simp [pad]
  have h2 : pre.length + (t.length + 5) - 1 - (pre.length + 4) = t.length := by omega
  rw [h2, hl, drop_app]
  simp
theorem fend_cut {pre t rest : List Nat} {c : Nat} (hc : c < t.length + 5) (ht : t.length < 10000) : fend (pre ++ (frm t ++ rest).take c) pre.length = none := by
  cases e : fend (pre ++ (frm t ++ rest).take c) pre.length with
  | none => rfl
  | some x =>
    exfalso
    have hb := fend_bounds e
    have hl : ((frm t ++ rest).take c).length ≤ c := by rw [List.length_take]; omega
    rw [List.length_append] at hb
    have h5 : 5 ≤ c := by omega
    have e1 : ((pre ++ (frm t ++ rest).take c).drop pre.length).take 4 = pad t.length := by
      rw [drop_app, List.take_take]
      have : min 4 c = 4 := by omega
      rw [this]
      simp [frm, pad]
    unfold fend at e
    rw [e1, pad_num ht, if_pos ⟨rfl, pad_dig _⟩] at e
    split at e
    · cases e
      omega
    · cases e
theorem fend_end {pre : List Nat} : fend pre pre.length = none := by
  cases e : fend pre pre.length with
  | none => rfl
  | some x =>
    have := fend_bounds e
    omega
theorem rd_row : ∀ (ts : List (List Nat)) (pre : List Nat) (acc : List (List Nat)) (c n : Nat), (∀ t ∈ ts, t.length < 10000) → ts.length < n →
    rd (pre ++ (row ts).take c) n pre.length acc = (acc ++ ts.take (cnt ts c), pre.length + total (ts.take (cnt ts c)))
  | [], pre, acc, c, n, _, hn => by
    obtain ⟨m, rfl⟩ : ∃ m, n = m + 1 := ⟨n - 1, by simp at hn; omega⟩
    simp only [row, List.map_nil, List.flatten_nil, List.take_nil, List.append_nil, cnt, total, List.sum_nil, Nat.add_zero]
    rw [rd, fend_end]
  | t :: r, pre, acc, c, n, hb, hn => by
    obtain ⟨m, rfl⟩ : ∃ m, n = m + 1 := ⟨n - 1, by simp at hn; omega⟩
    have ht := hb t (by simp)
    have e0 : row (t :: r) = frm t ++ row r := by simp [row]
    rw [e0, cnt]
    by_cases hc : t.length + 5 ≤ c
    · rw [if_pos hc]
      have e1 : (frm t ++ row r).take c = frm t ++ (row r).take (c - (t.length + 5)) := by
        rw [List.take_append, frm_len, List.take_of_length_le (by rw [frm_len]; omega)]
      rw [e1, rd, fend_whole ht]
      simp only
      rw [piece_whole]
      have ih := rd_row r (pre ++ frm t) (acc ++ [t]) (c - (t.length + 5)) m (fun t h => hb t (by simp [h])) (by simp at hn; omega)
      rw [List.length_append, frm_len, List.append_assoc] at ih
      rw [ih]
      have : 1 + cnt r (c - (t.length + 5)) = cnt r (c - (t.length + 5)) + 1 := by omega
      rw [this, List.take_succ_cons]
      simp [total]
      omega
    · rw [if_neg hc, rd, fend_cut (by omega) ht]
      simp [total]
theorem total_ge (ts : List (List Nat)) : 5 * ts.length ≤ total ts := by
  induction ts with
  | nil => exact Nat.le_refl _
  | cons t r ih =>
    simp only [total, List.map_cons, List.sum_cons, List.length_cons] at *
    omega
theorem rd_any {z : List Nat} (acc : List (List Nat)) : ∀ (k n s : Nat), z.length + 1 ≤ n + s → rd z (n + k) s acc = rd z n s acc
  | 0, n, s, h => rfl
  | k + 1, n, s, h => by
    rw [← Nat.add_assoc, ← rd_more (n + k) s acc (by omega), rd_any acc k n s h]
/-- what a row of frames that was cut is read as -/
theorem parse_row {ts : List (List Nat)} {c : Nat} (hb : ∀ t ∈ ts, t.length < 10000) : parse ((row ts).take c) = (ts.take (cnt ts c), total (ts.take (cnt ts c))) := by
  have h := rd_row ts [] [] c (((row ts).take c).length + 1 + ts.length) hb (by omega)
  simp only [List.nil_append, List.length_nil, Nat.zero_add] at h
  unfold parse
  rw [← h]
  exact (rd_any _ _ _ _ (by omega)).symm
theorem cnt_all : ∀ (ts : List (List Nat)) (c : Nat), total ts ≤ c → cnt ts c = ts.length
  | [], c, _ => rfl
  | t :: r, c, h => by
    have h' : t.length + 5 + total r ≤ c := by simpa [total] using h
    rw [cnt, if_pos (by omega), cnt_all r _ (by omega), List.length_cons]
    omega
theorem parse_all {ts : List (List Nat)} (hb : ∀ t ∈ ts, t.length < 10000) : parse (row ts) = (ts, total ts) := by
  have h := parse_row (c := (row ts).length) hb
  rw [List.take_length, cnt_all ts _ (by rw [row_len]; exact Nat.le_refl _), List.take_length] at h
  exact h
/-! the ends of frames -/
def ends : List (List Nat) → Nat → List Nat
  | [], s => [s]
  | t :: r, s => s :: ends r (s + (t.length + 5))
theorem ends_len : ∀ (ts : List (List Nat)) (s : Nat), (ends ts s).length = ts.length + 1
  | [], s => rfl
  | t :: r, s => by simp [ends, ends_len r]
theorem ends_ge : ∀ (ts : List (List Nat)) (s e : Nat), e ∈ ends ts s → s ≤ e ∧ e ≤ s + total ts
  | [], s, e, h => by
    have : e = s := by simpa [ends] using h
    simp [total, this]
  | t :: r, s, e, h => by
    have e0 : total (t :: r) = t.length + 5 + total r := by simp [total]
    rcases List.mem_cons.mp h with h | h
    · omega
    · have := ends_ge r _ e h
      omega
theorem ends_cnt : ∀ (ts : List (List Nat)) (s c : Nat), ((ends ts s).filter fun e => decide (e ≤ s + c)).length = cnt ts c + 1
  | [], s, c => by simp [ends, cnt]
  | t :: r, s, c => by
    have h0 : decide (s ≤ s + c) = true := by simp
    rw [ends, List.filter_cons, h0, if_pos rfl, List.length_cons, cnt]
    by_cases hc : t.length + 5 ≤ c
    · rw [if_pos hc]
      have ih := ends_cnt r (s + (t.length + 5)) (c - (t.length + 5))
      have : s + (t.length + 5) + (c - (t.length + 5)) = s + c := by omega
      rw [this] at ih
      omega
    · rw [if_neg hc]
      have : ((ends r (s + (t.length + 5))).filter fun e => decide (e ≤ s + c)) = [] := by
        rw [List.filter_eq_nil_iff]
        intro e he
        have := ends_ge r _ e he
        simp
        omega
      rw [this]
      rfl
theorem ends_at : ∀ (ts : List (List Nat)) (s k : Nat), k ≤ ts.length → (ends ts s)[k]? = some (s + total (ts.take k))
  | [], s, k, h => by
    have : k = 0 := by simpa using h
    subst this
    simp [ends, total]
  | t :: r, s, 0, h => by simp [ends, total]
  | t :: r, s, k + 1, h => by
    have ih := ends_at r (s + (t.length + 5)) k (by simpa using h)
    simp only [ends, List.getElem?_cons_succ, ih, List.take_succ_cons, total, List.map_cons, List.sum_cons]
    simp only [total] at ih
    congr 1
    omega
theorem ends_snoc : ∀ (ts : List (List Nat)) (t : List Nat) (s : Nat), ends (ts ++ [t]) s = ends ts s ++ [s + total ts + (t.length + 5)]
  | [], t, s => by simp [ends, total]
  | u :: r, t, s => by
    simp only [List.cons_append, ends, ends_snoc r, total, List.map_cons, List.sum_cons]
    congr 3
    omega
theorem row_rep (t : List Nat) (n : Nat) : row (List.replicate n t) = (List.replicate n (frm t)).flatten := by
  simp [row]
theorem total_rep (t : List Nat) (n : Nat) : total (List.replicate n t) = n * (t.length + 5) := by
  simp [total]
theorem cnt_rep (t : List Nat) : ∀ (n c : Nat), c ≤ n * (t.length + 5) → cnt (List.replicate n t) c = c / (t.length + 5)
  | 0, c, h => by
    have : c = 0 := by omega
    subst this
    simp [cnt]
  | n + 1, c, h => by
    rw [List.replicate_succ, cnt]
    by_cases hc : t.length + 5 ≤ c
    · rw [if_pos hc, cnt_rep t n _ (by rw [Nat.succ_mul] at h; omega)]
      rw [Nat.div_eq c (t.length + 5), if_pos ⟨by omega, hc⟩]
      omega
    · rw [if_neg hc, Nat.div_eq_of_lt (by omega)]
theorem rd_inv {z : List Nat} : ∀ (n s : Nat) (acc : List (List Nat)), (∀ t ∈ acc, ∀ c ∈ t, c ∈ z) → total acc ≤ s → s ≤ z.length →
    (∀ t ∈ (rd z n s acc).1, ∀ c ∈ t, c ∈ z) ∧ total (rd z n s acc).1 ≤ (rd z n s acc).2 ∧ (rd z n s acc).2 ≤ z.length
  | 0, s, acc, h1, h2, h3 => ⟨h1, h2, h3⟩
  | n + 1, s, acc, h1, h2, h3 => by
    rw [rd]
    cases e : fend z s with
    | none => exact ⟨h1, h2, h3⟩
    | some x =>
      have hb := fend_bounds e
      refine rd_inv n x _ ?_ ?_ hb.2
      · intro t ht c hc
        rcases List.mem_append.mp ht with ht | ht
        · exact h1 t ht c hc
        · have : t = piece z (s + 4) (x - 1) := by simpa using ht
          rw [this] at hc
          exact List.mem_of_mem_drop (List.mem_of_mem_take hc)
      · have hl : (piece z (s + 4) (x - 1)).length ≤ x - 1 - (s + 4) := by
          unfold piece
          rw [List.length_take]
          omega
        have : total (acc ++ [piece z (s + 4) (x - 1)]) = total acc + ((piece z (s + 4) (x - 1)).length + 5) := by simp [total]
        rw [this]
        omega
theorem parse_inv (z : List Nat) : (∀ t ∈ (parse z).1, ∀ c ∈ t, c ∈ z) ∧ total (parse z).1 ≤ (parse z).2 ∧ (parse z).2 ≤ z.length :=
  rd_inv _ 0 [] (by simp) (Nat.le_refl _) (Nat.zero_le _)
theorem ends_split (ts : List (List Nat)) (s : Nat) : ∃ i, ends ts s = i ++ [s + total ts] := by
  induction ts generalizing s with
  | nil => exact ⟨[], by simp [ends, total]⟩
  | cons t r ih =>
    obtain ⟨i, hi⟩ := ih (s + (t.length + 5))
    refine ⟨s :: i, ?_⟩
    rw [ends, hi, List.cons_append]
    simp only [total, List.map_cons, List.sum_cons]
    congr 3
    omega
end Fr

namespace Nv
open PySem PySem.Spec PyProof.Rows L2

/-! texts and their signs -/
def sg (z : Str) : List Nat := z.cps.toList
def tx (l : List Nat) : Str := ⟨l.toArray⟩
theorem sg_tx (l : List Nat) : sg (tx l) = l := by simp [sg, tx]
theorem tx_sg (z : Str) : tx (sg z) = z := by
  apply Str.ext'
  simp [sg, tx]
theorem sg_len (z : Str) : (sg z).length = z.length := by simp [sg, Str.length]
theorem tx_len (l : List Nat) : (tx l).length = l.length := by simp [tx, Str.length]
theorem sg_inj {x y : Str} (h : sg x = sg y) : x = y := by rw [← tx_sg x, ← tx_sg y, h]
theorem sg_app (x y : Str) : sg (x ++ y) = sg x ++ sg y := by
  show (x.cps ++ y.cps).toList = _
  simp [sg]
theorem tx_app (x y : List Nat) : tx (x ++ y) = tx x ++ tx y := sg_inj (by rw [sg_app, sg_tx, sg_tx, sg_tx])
theorem map_tx_sg (l : List Str) : (l.map sg).map tx = l := by
  rw [List.map_map]
  conv => rhs; rw [← List.map_id l]
  apply List.map_congr_left
  intro z _
  exact tx_sg z
theorem cut_nat (z : Str) (a b : Nat) : sg (cutS z (some (a : Int)) (some (b : Int))) = ((sg z).drop a).take (b - a) := by
  show ((((z.cps.toList.drop (HT.sIx z.length 0 (some (a : Int)))).take (HT.sIx z.length z.length (some (b : Int)) - HT.sIx z.length 0 (some (a : Int)))).toArray).toList) = _
  rw [HT.sIx_nat, HT.sIx_nat]
  simp only [sg]
  have hl : z.cps.toList.length = z.length := by simp [Str.length]
  by_cases h : a ≤ z.length
  · rw [Nat.min_eq_left h]
    by_cases h2 : b ≤ z.length
    · rw [Nat.min_eq_left h2]
    · rw [Nat.min_eq_right (by omega), List.take_of_length_le (by rw [List.length_drop, hl]; exact Nat.le_refl _), List.take_of_length_le (by rw [List.length_drop, hl]; omega)]
  · rw [Nat.min_eq_right (show z.length ≤ a by omega), List.drop_of_length_le (by rw [hl]; exact Nat.le_refl _), List.drop_of_length_le (by rw [hl]; omega)]
    simp
theorem cut_to (z : Str) (b : Nat) : sg (cutS z none (some (b : Int))) = (sg z).take b := by
  show ((((z.cps.toList.drop (HT.sIx z.length 0 none)).take (HT.sIx z.length z.length (some (b : Int)) - HT.sIx z.length 0 none)).toArray).toList) = _
  rw [HT.sIx_nat, HT.sIx_none]
  simp only [sg, List.drop_zero, Nat.sub_zero]
  have hl : z.cps.toList.length = z.length := by simp [Str.length]
  by_cases h2 : b ≤ z.length
  · rw [Nat.min_eq_left h2]
  · rw [Nat.min_eq_right (by omega), List.take_of_length_le (by rw [hl]; exact Nat.le_refl _), List.take_of_length_le (by rw [hl]; omega)]
theorem cutV_to (xs : List V) (b : Nat) : cutV xs none (some (b : Int)) = xs.take b := by
  unfold cutV
  rw [HT.sIx_nat, HT.sIx_none]
  simp only [List.drop_zero, Nat.sub_zero]
  by_cases h2 : b ≤ xs.length
  · rw [Nat.min_eq_left h2]
  · rw [Nat.min_eq_right (by omega), List.take_of_length_le (Nat.le_refl _), List.take_of_length_le (by omega)]
/-- a text of the space to the tilde -/
def pc (c : Nat) : Bool := decide (32 ≤ c) && decide (c ≤ 126)
def Pl (z : Str) : Prop := ∀ c ∈ sg z, pc c = true
theorem pc_lt {c : Nat} (h : pc c = true) : 32 ≤ c ∧ c ≤ 126 := by simpa [pc] using h
theorem Pl.asc {z : Str} (h : Pl z) : Asc z := fun c hc => by have := pc_lt (h c hc); omega
theorem Pl.app {x y : Str} (a : Pl x) (b : Pl y) : Pl (x ++ y) := fun c h => by
  rw [sg_app] at h
  exact (List.mem_append.mp h).elim (a c) (b c)
theorem Pl.cut {z : Str} (a : Pl z) (lo hi : Option Int) : Pl (cutS z lo hi) := fun c h => a c (cutS_sub h)
theorem Pl.one {c : Nat} (h : pc c = true) : Pl ⟨#[c]⟩ := fun d hd => by
  have : d = c := by simpa [sg] using hd
  rw [this]
  exact h
theorem Pl.empty : Pl Str.empty := fun c h => by simp [sg, Str.empty] at h
theorem Pl.mul {z : Str} (a : Pl z) (n : Int) : Pl (Txt.mul z n) := fun c h => by
  unfold Txt.mul at h
  split at h
  · exact Pl.empty c h
  · split at h
    · exact a c h
    · rcases foldl_mem _ _ h with h | h
      · simp at h
      · exact a c h
theorem Pl.tx {l : List Nat} (h : ∀ c ∈ l, pc c = true) : Pl (tx l) := fun c hc => h c (by simpa [sg_tx] using hc)
theorem pl_of {z : Str} (h : (sg z).all pc = true) : Pl z := fun c hc => List.all_eq_true.mp h c hc
theorem prnt : ∀ c, c < 128 → Unicode.isPrintable c = pc c := by decide +kernel
def okS (z : Str) : Bool := Txt.isascii z && Txt.isprintable z
theorem okS_all (z : Str) : okS z = (sg z).all pc := by
  unfold okS Txt.isascii Txt.isprintable sg
  rw [← Array.all_toList, ← Array.all_toList]
  generalize z.cps.toList = l
  induction l with
  | nil => rfl
  | cons c r ih =>
    simp only [List.all_cons]
    rw [← ih]
    by_cases h : c < 128
    · simp only [h, decide_true, Bool.true_and]
      rw [prnt c h]
      cases pc c <;> cases (r.all fun x => decide (x < 128)) <;> simp
    · have hp : pc c = false := by
        unfold pc
        simp
        omega
      simp [h, hp]
theorem Pl.ok {z : Str} (h : Pl z) : okS z = true := by
  rw [okS_all]
  exact List.all_eq_true.mpr h
theorem okS_pl {z : Str} (h : okS z = true) : Pl z := by
  rw [okS_all] at h
  exact pl_of h
theorem digC : ∀ c, c < 128 → Unicode.isDigit c = Fr.dig c := by decide +kernel
theorem isdigit_pl {z : Str} (h : Asc z) : Txt.isdigit z = (decide (0 < z.length) && (sg z).all Fr.dig) := by
  unfold Txt.isdigit
  rw [← Array.all_toList]
  congr 1
  have : ∀ l : List Nat, (∀ c ∈ l, c < 128) → l.all Unicode.isDigit = l.all Fr.dig := by
    intro l hl
    induction l with
    | nil => rfl
    | cons c r ih => simp only [List.all_cons, digC c (hl c (by simp)), ih fun c hc => hl c (by simp [hc])]
  exact this _ h
theorem int_dig {z : Str} (h : (sg z).all Fr.dig = true) (h1 : z.length ≠ 0) (h2 : z.length ≤ 640) : intText? z = some ((Fr.num (sg z) : Nat) : Int) := by
  have e := intText_digits (x := z) (fun c hc => (by
    have := List.all_eq_true.mp h c hc
    simpa [Fr.dig] using this)) (fun e => h1 (by rw [← sg_len]; show z.cps.toList.length = 0; rw [e]; rfl)) (by omega)
  exact e
/-! frames -/
theorem str_nat (n : Nat) : sg (Str.ofString (toString (n : Int))) = (Nat.toDigits 10 n).map Char.toNat := by
  have e := text_ofNat n
  rw [show (toString ((n : Nat) : Int)) = toString (Int.ofNat n) from rfl, e]
  exact sg_tx _
theorem pad_of {n : Nat} {l : List Nat} (h4 : l.length = 4) (hd : PySem.NumText.AllDigits l) (hv : PySem.NumText.digitsVal l = n) : l = Fr.pad n := by
  match l, h4 with
  | [a, b, c, d], _ =>
    have ha := hd a (by simp)
    have hb := hd b (by simp)
    have hc := hd c (by simp)
    have he := hd d (by simp)
    simp only [PySem.NumText.digitsVal, List.foldl_cons, List.foldl_nil] at hv
    simp only [Fr.pad, List.cons.injEq, and_true]
    omega
theorem val_zeros (k : Nat) (l : List Nat) : PySem.NumText.digitsVal (List.replicate k 48 ++ l) = PySem.NumText.digitsVal l := by
  induction k with
  | zero => rfl
  | succ k ih =>
    rw [List.replicate_succ, List.cons_append]
    show (List.replicate k 48 ++ l).foldl (fun acc c => acc * 10 + (c - 48)) (0 * 10 + (48 - 48)) = _
    exact ih
theorem four_pad (n : Nat) (h : n < 10000) : List.replicate (4 - (Nat.toDigits 10 n).length) 48 ++ (Nat.toDigits 10 n).map Char.toNat = Fr.pad n := by
  have hl := digits10_le (k := 4) (n := n) (by decide) (by simpa using h)
  have e : (Nat.toDigits 10 n).map Char.toNat = TL.numL n := by
    rw [← TL.tl_num n]
    exact (str_nat n).symm
  refine pad_of ?_ ?_ ?_
  · simp
    omega
  · intro c hc
    rcases List.mem_append.mp hc with hc | hc
    · have := (List.mem_replicate.mp hc).2
      omega
    · rw [e] at hc
      exact TL.numL_digits n c hc
  · rw [val_zeros, e]
    exact TL.numL_val n
theorem four_sg {i : Int} (h0 : 0 ≤ i) (h : i.natAbs < 10000) : sg (four i) = Fr.pad i.natAbs := by
  have e : sg (four i) = List.replicate (4 - (Nat.toDigits 10 i.natAbs).length) 48 ++ (Nat.toDigits 10 i.natAbs).map Char.toNat := sg_tx _
  rw [e]
  exact four_pad _ h
theorem foldl_rep (x : Array Nat) : ∀ (n : Nat) (acc : Array Nat), ((List.replicate n x).foldl (· ++ ·) acc).toList = acc.toList ++ (List.replicate n x.toList).flatten
  | 0, acc => by simp
  | n + 1, acc => by
    rw [List.replicate_succ, List.foldl_cons, foldl_rep x n, List.replicate_succ, List.flatten_cons]
    simp
theorem sg_mul (z : Str) (n : Nat) : sg (Txt.mul z (n : Int)) = (List.replicate n (sg z)).flatten := by
  unfold Txt.mul
  split
  · rename_i h
    have : n = 0 := by omega
    subst this
    rfl
  · split
    · rename_i h1 h2
      simp only [Bool.or_eq_true, beq_iff_eq] at h2
      rcases h2 with h2 | h2
      · have : n = 1 := by omega
        subst this
        simp
      · have : sg z = [] := by
          have := sg_len z
          rw [h2] at this
          exact List.length_eq_zero_iff.mp this
        rw [this]
        simp
    · show ((List.replicate (n : Int).toNat z.cps).foldl (· ++ ·) #[]).toList = _
      rw [foldl_rep]
      simp [sg]
end Nv

namespace Nv
open PySem L2

/-! data that are compared and shown -/
structure Ft (W D : Nat) (d : PyData) : Prop where
  c : d.canLay0 = true
  s : Shw W D d
structure Fts (W D : Nat) (ds : List PyData) : Prop where
  c : PyData.canLayAll0 ds = true
  s : Shws W D ds
theorem Ft.int {D : Nat} {i : Int} (h : -(10 ^ 21) ≤ i ∧ i ≤ 10 ^ 21) : Ft 71 D (.int i) := ⟨rfl, Shw.int h⟩
theorem Ft.str {D : Nat} {z : Str} (a : Asc z) : Ft z.length D (.str z) := by
  refine ⟨?_, Shw.str a⟩
  have h : z.cps.all (fun c => decide (c < 0x110000)) = true := by
    rw [← Array.all_toList]
    simp only [List.all_eq_true, decide_eq_true_eq]
    exact fun c hc => Nat.lt_of_lt_of_le (a c hc) (by decide)
  simp only [PyData.canLay0, PyData.strOk, h]
theorem Ft.non {W D : Nat} : Ft W D .none := ⟨rfl, Shw.non⟩
theorem Ft.bl {W D : Nat} (b : Bool) : Ft W D (.bool b) := ⟨rfl, Shw.bl b⟩
theorem Ft.le {W D W' D' : Nat} {d : PyData} (h : Ft W D d) (a : W ≤ W') (b : D ≤ D') : Ft W' D' d := ⟨h.c, h.s.le a b⟩
theorem Ft.list {W D : Nat} {ds : List PyData} (h : Fts W D ds) : Ft W (D + 1) (.list ds) := ⟨by simpa only [PyData.canLay0] using h.c, Shw.list h.s⟩
theorem Ft.tuple {W D : Nat} {ds : List PyData} (h : Fts W D ds) : Ft W (D + 1) (.tuple ds) := ⟨by simpa only [PyData.canLay0] using h.c, Shw.tuple h.s⟩
theorem Fts.nil {W D : Nat} : Fts W D [] := ⟨rfl, Shws.nil⟩
theorem Fts.cons {W1 W2 D : Nat} {d : PyData} {ds : List PyData} (a : Ft W1 D d) (b : Fts W2 D ds) : Fts (W1 + 1 + W2) D (d :: ds) := ⟨by simp only [PyData.canLayAll0, a.c, b.c, Bool.and_self], Shws.cons a.s b.s⟩
theorem Fts.le {W D W' D' : Nat} {d : List PyData} (h : Fts W D d) (a : W ≤ W') (b : D ≤ D') : Fts W' D' d := ⟨h.c, h.s.le a b⟩
def strsD (ts : List (List Nat)) : List PyData := ts.map fun t => .str (tx t)
def wt (ts : List (List Nat)) : Nat := (ts.map fun t => t.length + 1).sum
theorem Fts.strs {D : Nat} : ∀ {ts : List (List Nat)}, (∀ t ∈ ts, ∀ c ∈ t, c < 128) → Fts (wt ts) D (strsD ts)
  | [], _ => Fts.nil
  | t :: r, h => by
    have a : Asc (tx t) := fun c hc => h t (by simp) c (by rw [show (tx t).cps.toList = t from sg_tx t] at hc; exact hc)
    have q := Fts.cons (Ft.str (D := D) a) (Fts.strs (D := D) (ts := r) fun t ht => h t (by simp [ht]))
    rw [tx_len] at q
    exact q.le (by simp [wt]) (Nat.le_refl _)
theorem dp_strsD {K : PySem.W.Frag} {H : Hp} : ∀ ts : List (List Nat), DpAll K H (ts.map fun t => V.str (tx t)) (strsD ts)
  | [] => .nil
  | t :: r => .cons (.str _) (dp_strsD r)
/-- v == w and repr(v) == repr(w), both the data d -/
def spEqual (K : PySem.W.Frag) : Sp := fun vs H Q _ => ∃ v u d W D, vs = [v, u] ∧ Dp K H v d ∧ Dp K H u d ∧ ((∃ z, v = .str z) ∨ ∃ a, v = .ref a) ∧ ((∃ z, u = .str z) ∨ ∃ a, u = .ref a) ∧ Ft W D d ∧ W ≤ 390000 ∧ D ≤ 50 ∧ Q (.bl true) H
theorem r_eqD {K : PySem.W.Frag} {H : Hp} {Q : VK} {v u : V} {d : PyData} {W D : Nat} (a : Dp K H v d) (b : Dp K H u d) (f : Ft W D d) (h : D ≤ 60) (q : Q (.bl true) H) : rEqD K v u H Q := by
  have sh : SeqAt.shaped d = true := by
    unfold SeqAt.shaped
    have := f.s.p
    rw [f.c, Bool.true_and, decide_eq_true_eq]
    omega
  have e := SeqAt.eqv_refl d f.c
  exact ⟨d, d, a, b, sh, sh, by rw [e]; exact q⟩
theorem r_reprD {K : PySem.W.Frag} {H : Hp} {Q : VK} {v : V} {d : PyData} {W D : Nat} (a : Dp K H v d) (hv : (∃ z, v = .str z) ∨ ∃ a, v = .ref a) (f : Ft W D d) (hw : W ≤ 390000) (h : D ≤ 60) (q : Q (.str d.shown) H) : rReprD K [v] H Q :=
  ⟨v, d, rfl, a, hv, PyData.hasDict_of_canLay d f.c, f.s.h, Nat.le_trans f.s.p h, f.s.len hw, q⟩
/-- data that are compared and shown, however large their numbers -/
structure Fx (d : PyData) : Prop where
  c : d.canLay0 = true
  p : d.depth ≤ 50
  h : d.showable = true
  l : d.shown.length ≤ sizeLine
theorem Ft.fx {W D : Nat} {d : PyData} (f : Ft W D d) (hw : W ≤ 390000) (hd : D ≤ 50) : Fx d := ⟨f.c, Nat.le_trans f.s.p hd, f.s.h, f.s.len hw⟩
def spEq (K : PySem.W.Frag) : Sp := fun vs H Q _ => ∃ v u d, vs = [v, u] ∧ Dp K H v d ∧ Dp K H u d ∧ ((∃ z, v = .str z) ∨ ∃ a, v = .ref a) ∧ ((∃ z, u = .str z) ∨ ∃ a, u = .ref a) ∧ Fx d ∧ Q (.bl true) H
theorem spEq.of {K : PySem.W.Frag} {vs : List V} {H : Hp} {Q : VK} {E : XK} (h : spEqual K vs H Q E) : spEq K vs H Q E := by
  obtain ⟨v, u, d, W, D, rfl, a, b, hv, hu, f, hw, hd, k⟩ := h
  exact ⟨v, u, d, rfl, a, b, hv, hu, f.fx hw hd, k⟩
theorem r_eqF {K : PySem.W.Frag} {H : Hp} {Q : VK} {v u : V} {d : PyData} (a : Dp K H v d) (b : Dp K H u d) (f : Fx d) (q : Q (.bl true) H) : rEqD K v u H Q := by
  have sh : SeqAt.shaped d = true := by
    unfold SeqAt.shaped
    have := f.p
    rw [f.c, Bool.true_and, decide_eq_true_eq]
    omega
  have e := SeqAt.eqv_refl d f.c
  exact ⟨d, d, a, b, sh, sh, by rw [e]; exact q⟩
theorem r_reprF {K : PySem.W.Frag} {H : Hp} {Q : VK} {v : V} {d : PyData} (a : Dp K H v d) (hv : (∃ z, v = .str z) ∨ ∃ a, v = .ref a) (f : Fx d) (q : Q (.str d.shown) H) : rReprD K [v] H Q :=
  ⟨v, d, rfl, a, hv, PyData.hasDict_of_canLay d f.c, f.h, Nat.le_trans f.p (by decide), f.l, q⟩
end Nv

namespace Nv
open PySem PySem.Spec PyProof.Rows L2

/-! own errors that are held as values -/
def ExV (H : Hp) (a C : Addr) : Prop := ∃ (d : Addr) (fs : List (Str × V)), H a = some (exo a C (some d)) ∧ H d = some (exd d fs)
theorem ExV.same {H H' : Hp} {a C : Addr} (h : ExV H a C) (s : Same H H') : ExV H' a C := by
  obtain ⟨d, fs, h1, h2⟩ := h
  exact ⟨d, fs, s _ _ h1, s _ _ h2⟩
def rIsiE (K : PySem.W.Frag) : List V → Hp → VK → Prop := fun xs H Q => ∃ (a C : Addr) (T : String) (b : Bool), xs = [.ref a, .ty T] ∧ ExV H a C ∧ PySem.W.NvCls K C ∧ PySem.W.kitOne K (.ref C) (.type T) = some b ∧ Q (.bl b) H
def rIsiA (K : PySem.W.Frag) : List V → Hp → VK → Prop := fun xs H Q => rIsi K xs H Q ∨ rIsiE K xs H Q
theorem call_isiA {X : Cx} : CallR X (.builtin "isinstance") (rIsiA X.K) := by
  intro pins s σ H xs us Q I r h
  rcases h with h | h
  · exact call_isi pins s σ H xs us Q I r h
  · obtain ⟨a, C, T, b, rfl, ⟨d, fs, h1, h2⟩, c, e, q⟩ := h
    obtain ⟨u1, u2, rfl, r1, r2⟩ := vals2 r
    cases (show u1 = Value.ref a from r1)
    cases (show u2 = Value.type T from r2)
    obtain ⟨t1, ho⟩ := exo_at I.hok h1
    obtain ⟨mA, ⟨od, es, ep, hod, _⟩, _⟩ := exd_at I.hok h2
    have J : ∃ od, PySem.W.InstAt s.heap a ({ cls := .ref C, dict := some d, data := .fields #[.ref t1, .none, .none, .none, .bool false, .none] } : Obj) C od :=
      ⟨some od, ho, rfl, rfl, hod⟩
    exact PySem.W.kia_one (PySem.W.nv_kit c) I.kIn J e (fun z => nomatch z) fun tk => ⟨.bl b, H, I.tok tk, rfl, q⟩

section
variable {X : Cx} {e : Expr} {te : TE} {p pos : Pos} {x f : Str} {C fI : Addr} {fd : FuncData}
/-- C(e) as a value -/
def tErrV (C : Addr) (f : Str) (te : TE) : TE := fun σ H Q => te σ H fun v H1 => ∀ a d, H1 a = none → H1 d = none → d ≠ a → Q (.ref a) (upd (upd H1 d (exd d [(f, v)])) a (exo a C (some d)))
theorem pe_errV (T : ErrT X.K X.mg x f C fI) (F1 : FnOk X.prog X.w X.K X.mg X.base CX0 1 fI fd ["self", f] (spXI X.K f)) (hb : Binds X.K fd ["self", f] []) (hr : Room 2 X.A) (ha : PE X e te) (hg : Gl X x := by rfl)
    (hdb : (x == ("__debug__" : Str)) = false := by decide) (he : starEach (e :: []) X.env = (false, eval e X.env) :: starEach [] X.env := by rfl) (hpl : (backTo pos (starEach [] X.env)).any (·.1) = false := by rfl) :
    PE X (.Call (.Name x p) (e :: []) [] pos) (tErrV C f te) := by
  constructor
  intro pins s σ H Q I h
  obtain ⟨nm, q, N, bs, bm, sn, sub, ab, col, dd, k0, k1, k2, k3, k5, hC, hbm⟩ := T.T.cls
  refine wpAny_Call_Name_kw (ld_glob I hg T.gC ?_ hdb)
  have hq : ∀ (vs : List V) (H1 : Hp), (∃ v, vs = [v] ∧ ∀ a d, H1 a = none → H1 d = none → d ≠ a → Q (.ref a) (upd (upd H1 d (exd d [(f, v)])) a (exo a C (some d)))) → (∃ v, vs = [v] ∧ ∀ a d, H1 a = none → H1 d = none → d ≠ a → Q (.ref a) (upd (upd H1 d (exd d [(f, v)])) a (exo a C (some d)))) := fun _ _ z => z
  refine PySem.W.callWith_K (h₀ := X.base) I.ok.mod.kin T.T.kC (thn ((pa_any ha he).run pos pins s σ H (fun vs H1 => ∃ v, vs = [v] ∧ ∀ a d, H1 a = none → H1 d = none → d ≠ a → Q (.ref a) (upd (upd H1 d (exd d [(f, v)])) a (exo a C (some d)))) I ⟨_, h, fun v H1 z => ⟨v, rfl, z⟩⟩) fun us s1 hh => ?_) he hpl
  obtain ⟨vs, H1, I1, r1, v, rfl, q1⟩ := hh
  refine ⟨I1.kIn, ?_⟩
  show wpAny _ _ (call (.ref C) us) _ _ _
  obtain ⟨hp, g, dr, tk, os⟩ := s1
  have hsz : hp.objs.size ≤ hp.objs.size + 1 := Nat.le_succ _
  have hn : H1 (hp.objs.size + 1) = none := I1.hok.fresh hsz
  have kk : ∀ b o, hp.get? b = some o → ((hp.push (PySem.W.kdv_tup us)).push (PySem.HandSPX.excO C hp.objs.size)).get? b = some o := fun b o e => Heap.get?_push_of_some _ (Heap.get?_push_of_some _ e)
  have hget : ((hp.push (PySem.W.kdv_tup us)).push (PySem.HandSPX.excO C hp.objs.size)).get? (hp.objs.size + 1) = some (PySem.HandSPX.excO C hp.objs.size) := by heap_get
  have I2 : Inv X pins σ (upd H1 (hp.objs.size + 1) (exo (hp.objs.size + 1) C none)) ⟨(hp.push (PySem.W.kdv_tup us)).push (PySem.HandSPX.excO C hp.objs.size), g, dr, tk, os⟩ :=
    I1.laid (t' := tk) (a := hp.objs.size + 1) (o := exo (hp.objs.size + 1) C none) (h' := (hp.push (PySem.W.kdv_tup us)).push (PySem.HandSPX.excO C hp.objs.size)) kk hsz (exo_ok hget)
  have hus : us.length ≤ sizeLine := by
    rw [← Paired.length r1, sizeLine_eq]
    show 1 ≤ 16777216
    decide
  obtain ⟨u0, rfl, r0⟩ : ∃ u0, us = [u0] ∧ RelV v u0 := by
    cases r1 with
    | cons a t =>
      cases t
      exact ⟨_, rfl, a⟩
  have hl : (Value.ref (hp.objs.size + 1) :: [u0] ++ []).length = ([("self" : Str), f] : List Str).length := rfl
  have r2 : Vals [V.ref (hp.objs.size + 1), v] [Value.ref (hp.objs.size + 1), u0] := .cons rfl (.cons r0 .nil)
  have hbb := hb _ (Value.ref (hp.objs.size + 1) :: [u0]) I2.kIn hl
  rw [List.append_nil] at hbb
  have hsp : spXI X.K f [V.ref (hp.objs.size + 1), v] (upd H1 (hp.objs.size + 1) (exo (hp.objs.size + 1) C none)) (fun w H2 => w = .non ∧ Q (.ref (hp.objs.size + 1)) H2) (fun _ _ _ => False) := by
    refine ⟨_, C, v, rfl, T.T, T.noF, upd_same, fun dx h1 h2 => ⟨rfl, ?_⟩⟩
    rw [upd_ne h2] at h1
    have e : upd (upd (upd H1 (hp.objs.size + 1) (exo (hp.objs.size + 1) C none)) dx (exd dx [(f, v)])) (hp.objs.size + 1) (exo (hp.objs.size + 1) C (some dx)) = upd (upd H1 dx (exd dx [(f, v)])) (hp.objs.size + 1) (exo (hp.objs.size + 1) C (some dx)) := by
      funext b
      by_cases g1 : b = hp.objs.size + 1
      · subst g1
        rw [upd_same, upd_same]
      · rw [upd_ne g1, upd_ne g1]
        by_cases g2 : b = dx
        · subst g2
          rw [upd_same, upd_same]
        · rw [upd_ne g2, upd_ne g2, upd_ne g1]
    rw [e]
    exact q1 _ dx hn h1 h2
  refine wpAny_call (PySem.HandSPX.call_own F.excBase_ValueError (fun Y => PySem.HandSPX.refsVE_contains Y bm hbm) (I1.kIn _ _ hC) (PySem.W.looks_findIn I1.kIn T.iC) (fun self => PySem.W.bind_fn I1.kIn self T.tI) hus
    (codeAny_mono (F1.run _ X.stack _ _ ⟨Value.ref (hp.objs.size + 1) :: [u0], []⟩ [Value.ref (hp.objs.size + 1), u0] _ _ (fun _ _ _ => False) (hr.make C [u0] []) (I2.env0.make C [u0] []) hbb r2 hsp) fun r s' hq' => ?_))
  cases r with
  | error er => exact pass0 pins σ _ _ er s' I2 hq'
  | ok fl =>
    cases fl with
    | ret u =>
      obtain ⟨w, H2, J, rv, ew, q2⟩ := I2.after hq'
      subst ew
      exact ⟨rv, .ref (hp.objs.size + 1), H2, J, rfl, q2⟩
    | next => exact False.elim hq'
    | brk => exact False.elim hq'
    | cont => exact False.elim hq'
end
section
variable {prog : Program} {w : World} {A : Around} {E : Value → Shared → Prop} {s : Shared} {K : PySem.W.Frag} {x C : Addr} {ox : Obj} {od : Option Obj}
theorem call_objEqS {Q : Value → Shared → Prop} (X : K.In s.heap) (I : PySem.W.InstAt s.heap x ox C od) (hm : PySem.W.mroIn K C (.type "object") = some true) (hq : Q (.bool true) s) :
    wpAny (model prog w) A (call (.builtin "object.__eq__") [.ref x, .ref x]) Q E s :=
  wpAny_call (codeAny_call_builtin F.cmp_object.eq.plain F.cmpEntry_eq (PySem.W.check_slot F.cmpKind_eq F.cmpSplit_eq (I.type.andThen (PySem.W.looks_mroIn X hm)) (F.cmpArgs_eq _ _) (objEq_entry_same hq)))
theorem rc_same {Q : Value → Shared → Prop} (hu : A.units < cLine) (X : K.In s.heap) (I : PySem.W.InstAt s.heap x ox C od) (hm : PySem.W.mroIn K C (.type "object") = some true) (hs : PySem.W.findIn K (.ref C) "__eq__" = some (some (.builtin "object.__eq__"))) (h : Q (.bool true) s) :
    wpAny (model prog w) A (compareOp .Eq (.ref x) (.ref x)) Q E s := by
  have one : ∀ {R : Option Value → Shared → Prop}, R (some (.bool true)) s → wpAny (model prog w) A (tryCompare (.ref x) "__eq__" (.ref x)) R E s := fun h => by
    unfold tryCompare
    exact wpAny_bind (HN.ifBound_objEq X I hs (call_objEqS X I hm (wpAny_pure h)))
  show wpAny _ _ (richCompare .Eq (.ref x) (.ref x)) _ _ _
  simp only [richCompare, cmpInfo_Eq, oneThing_ref]
  refine wpAny_holding (wpAny_bind (wpAny_cRoomFor hu ?_))
  refine wpAny_bind (I.type.here ?_)
  refine wpAny_bind (I.type.here ?_)
  repeat (first | with_reducible refine one ?_ | wp_step)
  exact h
end
def rEqX (K : PySem.W.Frag) : R2 := fun x y H Q => ∃ a C, x = .ref a ∧ y = .ref a ∧ ExV H a C ∧ PySem.W.mroIn K C (.type "object") = some true ∧ PySem.W.findIn K (.ref C) "__eq__" = some (some (.builtin "object.__eq__")) ∧ Q (.bl true) H
theorem op_eqX {X : Cx} (hu : X.A.units < cLine) : OpR X (compareOp .Eq) (rEqX X.K) := by
  intro pins s σ H x y v u Q I rx ry h
  obtain ⟨a, C, rfl, rfl, ⟨d, fs, h1, h2⟩, hm, hs, q⟩ := h
  cases (show v = Value.ref a from rx)
  cases (show u = Value.ref a from ry)
  obtain ⟨t1, ho⟩ := exo_at I.hok h1
  obtain ⟨mA, ⟨od, es, ep, hod, _⟩, _⟩ := exd_at I.hok h2
  have J : PySem.W.InstAt s.heap a ({ cls := .ref C, dict := some d, data := .fields #[.ref t1, .none, .none, .none, .bool false, .none] } : Obj) C (some od) :=
    ⟨ho, rfl, rfl, hod⟩
  exact rc_same hu I.kIn J hm hs ⟨.bl true, H, I, rfl, q⟩

/-! a def that is called within an except suite and lets nothing out -/
open L2H in
structure FnGH (P : Program) (w : World) (K : PySem.W.Frag) (mg : Str → Option Value) (base : Heap) (k : Nat)
    (f : Addr) (fd : FuncData) (ps : List Str) (sp : Sp) : Prop where
  len : ∀ vs H Q E, sp vs H Q E → vs.length = ps.length
  run : ∀ (A : Around) (outer : List Env) (s : Shared) (H : Hp) (args : Args) (us : List Value) (vs : List V) (Q : VK) (E : XK) (p : Addr × Obj),
    A.guards = some [] → RoomH k A → PinOk outer H s p → Env0 P w K mg base A outer s H → BindsTo s fd args (ps.zip us) → Vals vs us →
    sp vs H Q E → codeAny (model P w) A (.call (.ref f) args) (CR CX0 outer P w H s Q E) s
open L2H in
theorem okGH {P : Program} {w : World} {K : PySem.W.Frag} {mg : Str → Option Value} {base : Heap} {k : Nat} {f : Addr} {fd : FuncData} {ps : List Str} {sp : Sp} {x qual : Str} {st : Stmt} {N : List Str}
    (F : Fun K x qual st f fd) (S : FnScope N ps (defScope st)) (len : ∀ vs H Q E, sp vs H Q E → vs.length = ps.length)
    (body : ∀ (cdv : Value) (A : Around) (outer : List Env) (s : Shared) (H : Hp) (vs : List V) (Q : VK) (E : XK) (p : Addr × Obj),
      A.guards = some [] → RoomH k (A.deeper (envOfC qual (defScope st) s.heap.objs.size f cdv)) → sp vs H Q E →
      ∃ t, PSs (cxH CX0 P w K mg base N qual (defScope st) f cdv A outer s H E p) (defBody st) t ∧
        t { nx := fun _ H' => Q .non H', rt := Q } (start N vs) H) :
    FnGH P w K mg base (k + 1) f fd ps sp := by
  obtain ⟨oc, od, kV, doc, pm, an, cdv, ct, osl, rfl, lk, hcd⟩ := F.ex
  refine ⟨len, ?_⟩
  intro A outer s H args us vs Q E p hg hr pin e0 hb r hsp
  have hl := len _ _ _ _ hsp
  have stays : ∀ b o, base.get? b = some o → s.heap.get? b = some o := fun b o e => (e0.bs b o e).1
  have KX : K.In s.heap := e0.mod.kin.keeps stays
  have kinds : ∀ y ∈ ps.zip us, (defScope st).names.lookup y.1 = some .local ∨
      ((defScope st).names.lookup y.1 = some .cell ∧
        ((cellsFrom (s.heap.objs.size + 1) (defScope st).names []).lookup y.1).isSome = true) := by
    intro y hy
    rcases S.par y.1 (List.of_mem_zip (a := y.1) (b := y.2) hy).1 with q | q
    · exact Or.inl q
    · exact Or.inr ⟨q, PySem.W.cellsFrom_some _ _ _ (Or.inl q)⟩
  refine codeAny_call_function hr.depth (KX _ _ lk) rfl S.co S.gen rfl (PySem.W.codeRec_of KX hcd) (hb _ _ _ _ ?_)
  refine wpAny_newFunctionEnv_cells S.kind kinds ?_
  intro env he s1 x
  subst he
  refine ⟨(e0.mod.nolimit.keeps stays).keeps x.toInCall.keep, codeAny_func ?_⟩
  obtain ⟨t, ht, hq⟩ := body cdv A outer s H vs Q E p hg (hr.deeper _) hsp
  have I := inv_startH (CX := CX0) (E := E) S pin e0 hl r x
  refine wpAny_mono (ht.run [] s1 (start N vs) H _ I hq) ?_ (fun _ _ z => z)
  intro fl s' hs
  have fin : ∀ {σ' : L2.St} {H' : Hp} {v : V} {u : Value},
      Inv (cxH CX0 P w K mg base N qual (defScope st) f cdv A outer s H E p) [] σ' H' s' → RelV v u → Q v H' →
      CE outer P w H s Q u s' := fun {σ' H' v u} J rv q => ⟨v, H', J.os, J.bare, J.base, J.hok, rv, q⟩
  cases fl with
  | next => obtain ⟨_, _, J, q⟩ := hs; exact fin (v := V.non) (u := Value.none) J rfl q
  | ret u => obtain ⟨_, _, _, J, rv, q⟩ := hs; exact fin J rv q
  | brk => obtain ⟨_, _, _, q⟩ := hs; exact q.elim
  | cont => obtain ⟨_, _, _, q⟩ := hs; exact q.elim
open L2H in
theorem pe_cGH {X : Cx} {W : WX} {k : Nat} {f : Addr} {fd : FuncData} {ps : List Str} {sp : Sp} {x : Str} {q pos : Pos} {e : Expr} {es : List Expr} {t : TA} {p : Addr × Obj}
    (F : FnGH X.prog X.w X.K X.mg X.base k f fd ps sp) (b : Pos1 fd ps) (hG : X.A.guards = some []) (hr : RoomH k X.A) (hp : p ∈ X.pn)
    (hm : X.mg x = some (.ref f)) (hk : PySem.W.keepIn X.K (.ref f) = true) (ha : PA X (e :: es) t) (hg : Gl X x := by rfl)
    (hdb : (x == ("__debug__" : Str)) = false := by decide) (he : starEach (e :: es) X.env = (false, eval e X.env) :: starEach es X.env := by rfl)
    (hpl : (backTo pos (starEach es X.env)).any (·.1) = false := by rfl) : PE X (.Call (.Name x q) (e :: es) [] pos) (tCG sp W t) := by
  constructor
  intro pins s σ H Q I h
  refine wpAny_Call_Name_kw (ld_glob I hg hm ?_ hdb)
  refine PySem.W.callWith_K (h₀ := X.base) I.ok.mod.kin hk (thn (ha.run pos pins s σ H _ I h) ?_) he hpl
  intro us s1 ⟨vs, H1, I1, r, h2⟩
  refine ⟨I1.kIn, ?_⟩
  have P1 := I1.pin p (List.mem_append_left _ hp)
  have hpin : PinOk X.stack H1 s1 p := ⟨P1.1, P1.2.1, fun hm => (List.mem_cons.mp (I1.stkSub p.1 hm)).elim P1.2.2.1 P1.2.2.2.1, P1.2.2.2.2⟩
  have hl : us.length = ps.length := by
    rw [← r.length]
    exact F.len _ _ _ _ h2
  refine wpAny_call (codeAny_mono (F.run X.A X.stack s1 H1 ⟨us, []⟩ us vs Q (WE W σ) p hG hr hpin I1.env0 (.of_eq (b _ hl)) r h2) ?_)
  intro r s' hq
  cases r with
  | error er => exact (pass0 pins σ _ _ er s' I1 hq)
  | ok fl =>
    cases fl with
    | ret u => exact I1.after hq
    | next => exact hq.elim
    | brk => exact hq.elim
    | cont => exact hq.elim

theorem roomHU {k : Nat} {A : Around} (r : L2H.RoomH k A) : A.units + 64 < cLine := by
  have := r.un
  omega
theorem roomS {k : Nat} {A : Around} {h : Option Value} (r : Room k A) : L2H.RoomH k (A.mark h) := ⟨r.dp, r.un⟩
/-- repr of any data -/
def rReprA : List V → Hp → VK → Prop := fun xs H Q => ∃ (v : V) (d : PyData), xs = [v] ∧ DV H v d ∧ d.showable = true ∧ d.depth ≤ 60 ∧ d.shown.length ≤ sizeLine ∧ (∀ i, d = .int i → i.natAbs.log2 < 1920) ∧ Q (.str d.shown) H
theorem call_reprA {X : Cx} (hG : X.A.guards = some []) (hu : X.A.units + 64 < cLine) : CallR X (.builtin "repr") rReprA := by
  intro pins s σ H xs us Q I r h
  obtain ⟨v, d, rfl, hd, hs, hp, hz, hi, q⟩ := h
  obtain ⟨u, rfl, r1⟩ := vals1 r
  cases hd with
  | non =>
    cases (show u = Value.none from r1)
    exact PySem.P.repr_of_none ⟨.str _, H, I.tok _, ⟨_, rfl⟩, q⟩
  | bl b =>
    cases (show u = Value.bool b from r1)
    exact PySem.P.repr_of_bool ⟨.str (Str.ofString (if b then "True" else "False")), H, I.tok _, ⟨_, by cases b <;> rfl⟩, by cases b <;> exact q⟩
  | int i =>
    obtain ⟨t, rfl⟩ := (show ∃ t, u = Value.int i t from r1)
    exact PySem.P.repr_of_int (hi i rfl) ⟨.str _, H, I.tok _, ⟨_, rfl⟩, q⟩
  | str z =>
    obtain ⟨t, rfl⟩ := (show ∃ t, u = Value.str z t from r1)
    exact PySem.P.repr_of_str ⟨.str (reprText z), H, I.tok _, ⟨_, rfl⟩, q⟩ hz
  | @lst a xs ds h n q2 =>
    cases (show u = Value.ref a from r1)
    exact call_repr hG hu pins s σ H _ _ Q I r ⟨a, _, rfl, .lst h n q2, hs, hp, hz, q⟩
  | @tup a xs ds h q2 =>
    cases (show u = Value.ref a from r1)
    exact call_repr hG hu pins s σ H _ _ Q I r ⟨a, _, rfl, .tup h q2, hs, hp, hz, q⟩
  | @dct a xs ds h q2 =>
    cases (show u = Value.ref a from r1)
    exact call_repr hG hu pins s σ H _ _ Q I r ⟨a, _, rfl, .dct h q2, hs, hp, hz, q⟩
theorem e_errv {C : Addr} {f : Str} {te : TE} {σ : L2.St} {H : Hp} {Q : VK} : tErrV C f te σ H Q = te σ H (fun v H1 => ∀ a d, H1 a = none → H1 d = none → d ≠ a → Q (.ref a) (upd (upd H1 d (exd d [(f, v)])) a (exo a C (some d)))) := rfl

/-- data, or an own error (which counts as None where it is asked what it is) -/
inductive AV (K : PySem.W.Frag) (H : Hp) : V → PyData → Prop
  | dat {v : V} {d : PyData} (h : DV H v d) : AV K H v d
  | exc {a C : Addr} (h : ExV H a C) (n : PySem.W.NvCls K C) (k1 : PySem.W.kitOne K (.ref C) (.type "str") = some false) (k2 : PySem.W.kitOne K (.ref C) (.type "tuple") = some false) : AV K H (.ref a) .none
theorem AV.mono {K : PySem.W.Frag} {H H' : Hp} {v : V} {d : PyData} (h : AV K H v d) (e : Same H H') : AV K H' v d := by
  cases h with
  | dat h => exact .dat (h.mono e)
  | exc h n k1 k2 => exact .exc (h.same e) n k1 k2
def isT : PyData → Bool
  | .tuple _ => true
  | _ => false
def isD : PyData → Bool
  | .dict _ => true
  | _ => false
theorem kit_tuple (d : PyData) : kitB (tyName d) "tuple" = some (isT d) := by
  cases d with
  | none => exact (by decide +kernel : kitB "NoneType" "tuple" = some false)
  | bool b => exact (by decide +kernel : kitB "bool" "tuple" = some false)
  | int i => exact (by decide +kernel : kitB "int" "tuple" = some false)
  | str x => exact (by decide +kernel : kitB "str" "tuple" = some false)
  | list l => exact (by decide +kernel : kitB "list" "tuple" = some false)
  | tuple l => exact (by decide +kernel : kitB "tuple" "tuple" = some true)
  | dict l => exact (by decide +kernel : kitB "dict" "tuple" = some false)
theorem kit_dict (d : PyData) : kitB (tyName d) "dict" = some (isD d) := by
  cases d with
  | none => exact (by decide +kernel : kitB "NoneType" "dict" = some false)
  | bool b => exact (by decide +kernel : kitB "bool" "dict" = some false)
  | int i => exact (by decide +kernel : kitB "int" "dict" = some false)
  | str x => exact (by decide +kernel : kitB "str" "dict" = some false)
  | list l => exact (by decide +kernel : kitB "list" "dict" = some false)
  | tuple l => exact (by decide +kernel : kitB "tuple" "dict" = some false)
  | dict l => exact (by decide +kernel : kitB "dict" "dict" = some true)
section
variable {K : PySem.W.Frag} {H : Hp} {Q : VK} {v : V} {d : PyData}
theorem r_isiD {T : String} {b : Bool} (h : DV H v d) (e : kitB (tyName d) T = some b) (q : Q (.bl b) H) : rIsiA K [v, .ty T] H Q := .inl (r_isi h e q)
theorem AV.isStr (h : AV K H v d) (q : Q (.bl (isS d)) H) : rIsiA K [v, .ty "str"] H Q := by
  cases h with
  | dat h => exact r_isiD h (kit_str d) q
  | exc h n k1 k2 => exact .inr ⟨_, _, _, _, rfl, h, n, k1, q⟩
theorem AV.isTup (h : AV K H v d) (q : Q (.bl (isT d)) H) : rIsiA K [v, .ty "tuple"] H Q := by
  cases h with
  | dat h => exact r_isiD h (kit_tuple d) q
  | exc h n k1 k2 => exact .inr ⟨_, _, _, _, rfl, h, n, k2, q⟩
theorem AV.str {z : Str} (h : AV K H v (.str z)) : v = .str z := by
  cases h with
  | dat h => cases h; rfl
theorem AV.tup {ds : List PyData} (h : AV K H v (.tuple ds)) : ∃ a xs, v = .ref a ∧ H a = some (.tup xs) ∧ DVs H xs ds := by
  cases h with
  | dat h => cases h with | tup e r => exact ⟨_, _, rfl, e, r⟩
theorem DVs.len {xs : List V} {ds : List PyData} (h : DVs H xs ds) : xs.length = ds.length := by
  induction xs generalizing ds with
  | nil => cases h; rfl
  | cons x xs ih => cases h with | cons a b => simp [ih b]
end

/-- list(x), the new one not the table of modules -/
theorem call_list_new {X : Cx} : CallR X (.type "list") (fun xs H Q => ∃ (src : Addr) (items : List V), xs = [.ref src] ∧ (SqL X.K H src items ∨ SqT X.K H src items) ∧
    ∀ l, H l = none → l ≠ sysModules → Q (.ref l) (upd H l (.lst items))) := by
  intro pins st σ H xs us Q I rel hyp
  obtain ⟨src, items, rfl, which, post⟩ := hyp
  obtain ⟨val, rfl, rv⟩ := vals1 rel
  cases rv
  have big : st.heap.objs.size ≠ sysModules := Nat.ne_of_gt I.big
  have free := I.hok.fresh (Nat.le_refl st.heap.objs.size)
  have done_ : ∀ (vs : List Value) (hv : Vals items vs) (hn : items.length ≤ sizeLine) (hp : Heap) (ct : Nat)
      (keep : ∀ b o, st.heap.get? b = some o → hp.get? b = some o)
      (new : hp.get? st.heap.objs.size = some { cls := .type "list", dict := none, data := .seq vs.toArray ct, slots := #[] }),
      EP X pins σ Q (.ref st.heap.objs.size) { st with heap := hp } := by
    intro vs hv hn hp ct keep new
    refine ⟨.ref st.heap.objs.size, upd H st.heap.objs.size (.lst items), ?_, rfl, post _ free big⟩
    exact I.laid (t' := st.toks) keep (Nat.le_refl _) ⟨hn, vs, ct, hv, new⟩
  cases which with
  | inl q =>
    obtain ⟨vs, hv, pl, hn⟩ := I.list q
    have el := hv.length
    obtain ⟨o, e1, e2, ct, e3⟩ := pl.isList
    refine call_list_seq src (.inl rfl) e1 e2 e3 (done_ vs hv hn) ?_
    rw [List.size_toArray]
    omega
  | inr q =>
    obtain ⟨vs, hv, pl, hn⟩ := I.tuple q
    have el := hv.length
    obtain ⟨o, e1, e2, ct, e3⟩ := pl
    refine call_list_seq src (.inr rfl) e1 e2 e3 (done_ vs hv hn) ?_
    rw [List.size_toArray]
    omega
/-- little of the C stack is used -/
structure HU (A : Around) : Prop where
  units : A.units + 64 < cLine
/-- what is asked of an own error that is an argument -/
structure AvC (K : PySem.W.Frag) (C : Addr) : Prop where
  s : PySem.W.subIn K (.ref C) (.type "str") = some false
  t : PySem.W.subIn K (.ref C) (.type "tuple") = some false
  mo : PySem.W.mroIn K C (.type "object") = some true
  eq : PySem.W.findIn K (.ref C) "__eq__" = some (some (.builtin "object.__eq__"))
theorem kit_type {K : PySem.W.Frag} {C : Addr} {T : String} {b : Bool} (m : PySem.W.kitMeta T = true) (h : PySem.W.subIn K (.ref C) (.type T) = some b) : PySem.W.kitOne K (.ref C) (.type T) = some b := by
  have e : (Value.ref C == Value.type T) = false := by simp
  unfold PySem.W.kitOne
  rw [e]
  show PySem.W.kitCls K (.ref C) (.type T) = some b
  show (if PySem.W.kitMeta T = true then PySem.W.subIn K (.ref C) (.type T) else none) = some b
  rw [if_pos m]
  exact h
theorem AvC.av {K : PySem.W.Frag} {H : Hp} {a C : Addr} (c : AvC K C) (n : PySem.W.NvCls K C) (e : ExV H a C) : AV K H (.ref a) .none :=
  .exc e n (kit_type (by decide +kernel) c.s) (kit_type (by decide +kernel) c.t)
end Nv

namespace Nv
open PySem L2

theorem r_reprA {H : Hp} {Q : VK} {v : V} {d : PyData} {W D : Nat} (h : DV H v d) (s : Shw W D d) (hw : W ≤ 390000) (hd : D ≤ 60) (q : Q (.str d.shown) H) : rReprA [v] H Q :=
  ⟨v, d, rfl, h, s.h, Nat.le_trans s.p hd, s.len hw, fun i e => by
    have := s.h
    subst e
    simpa only [PyData.showable, decide_eq_true_eq] using this, q⟩
mutual
theorem DV.dp {K : PySem.W.Frag} {H : Hp} : ∀ {v : V} {d : PyData}, DV H v d → d.hasDict = false → Dp K H v d
  | _, _, .non, _ => .non
  | _, _, .bl b, _ => .bl b
  | _, _, .int i, _ => .int i
  | _, _, .str x, _ => .str x
  | _, _, .lst h n r, e => .lst (.of h) (DVs.dp r (by simpa only [PyData.hasDict] using e))
  | _, _, .tup h r, e => .tup (.of h) (DVs.dp r (by simpa only [PyData.hasDict] using e))
  | _, _, .dct h r, e => by simp [PyData.hasDict] at e
theorem DVs.dp {K : PySem.W.Frag} {H : Hp} : ∀ {vs : List V} {ds : List PyData}, DVs H vs ds → PyData.hasDictAll ds = false → DpAll K H vs ds
  | _, _, .nil, _ => .nil
  | _, _, .cons h r, e => by
    simp only [PyData.hasDictAll, Bool.or_eq_false_iff] at e
    exact .cons (DV.dp h e.1) (DVs.dp r e.2)
end
theorem Shw.dict0 {W D : Nat} : Shw (W + 1) (D + 1) (.dict []) := by
  refine ⟨?_, ?_, ?_, ?_⟩
  · simp only [PyData.leavesShort, PyData.leavesShortKv]
  · simp only [PyData.weight, PyData.weightKv]
    omega
  · simp only [PyData.depth, PyData.depthKv]
    exact Nat.succ_le_succ (Nat.zero_le _)
  · simp only [PyData.showable, PyData.showableKv]
theorem Shw.dict2 {W1 W2 W3 W4 D : Nat} {k v k2 v2 : PyData} (a : Shw W1 D k) (b : Shw W2 D v) (c : Shw W3 D k2) (d : Shw W4 D v2) : Shw (W1 + W2 + W3 + W4 + 4) (D + 1) (.dict [(k, v), (k2, v2)]) := by
  refine ⟨?_, ?_, ?_, ?_⟩
  · simp only [PyData.leavesShort, PyData.leavesShortKv, a.s, b.s, c.s, d.s, Bool.and_self]
  · have := a.w
    have := b.w
    have := c.w
    have := d.w
    simp only [PyData.weight, PyData.weightKv]
    omega
  · have := a.p
    have := b.p
    have := c.p
    have := d.p
    simp only [PyData.depth, PyData.depthKv]
    omega
  · simp only [PyData.showable, PyData.showableKv, a.h, b.h, c.h, d.h, Bool.and_self]
end Nv

namespace Nv
open PySem L2

/-! cells -/
def low (c : Nat) : Bool := decide (97 ≤ c) && decide (c ≤ 122)
def upp (c : Nat) : Bool := decide (65 ≤ c) && decide (c ≤ 90)
theorem alphC : ∀ c, c < 128 → Unicode.isAlpha c = (low c || upp c) := by decide +kernel
theorem lowC : ∀ c, c < 128 → Unicode.isLower c = low c := by decide +kernel
theorem uppC : ∀ c, c < 128 → (Unicode.isUpper c || Unicode.isTitle c) = upp c := by decide +kernel
theorem all_eq {f g : Nat → Bool} {l : List Nat} (h : ∀ c ∈ l, f c = g c) : l.all f = l.all g := by
  induction l with
  | nil => rfl
  | cons c r ih => simp only [List.all_cons, h c (by simp), ih fun d hd => h d (by simp [hd])]
theorem any_eq {f g : Nat → Bool} {l : List Nat} (h : ∀ c ∈ l, f c = g c) : l.any f = l.any g := by
  induction l with
  | nil => rfl
  | cons c r ih => simp only [List.any_cons, h c (by simp), ih fun d hd => h d (by simp [hd])]
theorem not_both (c : Nat) : low c = true → upp c = false := fun h => by
  simp [low] at h
  simp [upp]
  omega
theorem low_lem (l : List Nat) : (decide (0 < l.length) && l.all (fun c => low c || upp c) && (l.any low && !l.any upp)) = (decide (0 < l.length) && l.all low) := by
  cases l with
  | nil => rfl
  | cons c r =>
    rw [Bool.eq_iff_iff]
    simp only [Bool.and_eq_true, decide_eq_true_eq, List.all_eq_true, Bool.or_eq_true, List.any_eq_true, Bool.not_eq_true', List.any_eq_false]
    constructor
    · rintro ⟨⟨h1, h2⟩, _, h4⟩
      refine ⟨h1, fun d hd => ?_⟩
      rcases h2 d hd with z | z
      · exact z
      · exact absurd z (h4 d hd)
    · rintro ⟨h1, h2⟩
      refine ⟨⟨h1, fun d hd => .inl (h2 d hd)⟩, ⟨c, by simp, h2 c (by simp)⟩, fun d hd z => ?_⟩
      rw [not_both d (h2 d hd)] at z
      cases z
theorem isascii_iff (z : Str) : Txt.isascii z = true ↔ Asc z := by
  unfold Txt.isascii
  rw [← Array.all_toList, List.all_eq_true]
  simp only [decide_eq_true_eq]
  exact Iff.rfl
theorem low_lt {c : Nat} (h : low c = true) : c < 128 := by
  simp [low] at h
  omega
theorem alow (z : Str) : (Txt.isascii z && (Txt.isalpha z && Txt.islower z)) = (decide (0 < z.length) && (sg z).all low) := by
  by_cases h : Asc z
  · rw [(isascii_iff z).mpr h, Bool.true_and]
    unfold Txt.isalpha Txt.islower
    rw [← Array.all_toList, ← Array.any_toList, ← Array.any_toList]
    rw [all_eq (g := fun c => low c || upp c) (fun c hc => alphC c (h c hc)), any_eq (g := low) (fun c hc => lowC c (h c hc)), any_eq (g := upp) (fun c hc => uppC c (h c hc))]
    have := low_lem (sg z)
    rw [sg_len] at this
    exact this
  · have e1 : Txt.isascii z = false := by
      cases e : Txt.isascii z with
      | false => rfl
      | true => exact absurd ((isascii_iff z).mp e) h
    rw [e1, Bool.false_and]
    symm
    rw [Bool.and_eq_false_iff]
    right
    cases e : (sg z).all low with
    | false => rfl
    | true => exact absurd (fun c hc => low_lt (List.all_eq_true.mp e c hc)) h

/-! numerals -/
def numL (l : List Nat) : Bool := decide (0 < l.length) && l.all Fr.dig && (decide (l = [48]) || !decide (l.head? = some 48))
theorem zero_sg : sg (Str.ofString "0") = [48] := by decide +kernel
theorem starts0 (z : Str) : Txt.startswith z (Str.ofString "0") = decide ((sg z).head? = some 48) := by
  unfold Txt.startswith Builtin.Str.subAt
  have e1 : (Str.ofString "0").length = 1 := by decide +kernel
  have e2 : (Str.ofString "0").cps = #[48] := by decide +kernel
  rw [e1, e2]
  have e3 : z.length = (sg z).length := (sg_len z).symm
  rw [e3]
  have e4 : z.cps.extract 0 (0 + 1) = ((sg z).take 1).toArray := by
    apply Array.toList_inj.mp
    simp [sg]
  rw [e4]
  cases e : sg z with
  | nil => simp
  | cons c r =>
    simp only [List.length_cons, List.head?_cons, Option.some.injEq, List.take_succ_cons, List.take_zero]
    by_cases h : c = 48
    · subst h
      simp
    · simp [h]
theorem dig_lt {c : Nat} (h : Fr.dig c = true) : c < 128 := by
  simp [Fr.dig] at h
  omega
theorem numS_eq (z : Str) : (Txt.isascii z && (Txt.isdigit z && (decide (V.str z = V.str (Str.ofString "0")) || !Txt.startswith z (Str.ofString "0")))) = numL (sg z) := by
  have k0 : decide (V.str z = V.str (Str.ofString "0")) = decide (sg z = [48]) := by
    congr 1
    refine propext ⟨fun h => ?_, fun h => ?_⟩
    · cases h
      exact zero_sg
    · rw [sg_inj (h.trans zero_sg.symm)]
  rw [k0, starts0]
  unfold numL
  by_cases h : Asc z
  · rw [(isascii_iff z).mpr h, Bool.true_and, isdigit_pl h, sg_len]
  · have e1 : Txt.isascii z = false := by
      cases e : Txt.isascii z with
      | false => rfl
      | true => exact absurd ((isascii_iff z).mp e) h
    rw [e1, Bool.false_and]
    have : (sg z).all Fr.dig = false := by
      cases e : (sg z).all Fr.dig with
      | false => rfl
      | true => exact absurd (fun c hc => dig_lt (List.all_eq_true.mp e c hc)) h
    simp [this]

/-! splits at blanks -/
def occL : List Nat → Nat → Nat → List Nat
  | [], _, _ => []
  | c :: r, i, k => if 0 < k ∧ c = 32 then i :: occL r (i + 1) (k - 1) else occL r (i + 1) k
theorem occL_cons (c : Nat) (r : List Nat) (i k : Nat) : occL (c :: r) i k = if 0 < k ∧ c = 32 then i :: occL r (i + 1) (k - 1) else occL r (i + 1) k := rfl
theorem occL_zero : ∀ (l : List Nat) (i : Nat), occL l i 0 = []
  | [], _ => rfl
  | c :: r, i => by
    rw [occL_cons, if_neg (fun h => by omega)]
    exact occL_zero r (i + 1)
theorem occL_skip {a r : List Nat} {k : Nat} (h : ∀ c ∈ a, c ≠ 32) : ∀ i, occL (a ++ r) i k = occL r (i + a.length) k := by
  induction a with
  | nil => intro i; rfl
  | cons c a ih =>
    intro i
    show occL (c :: (a ++ r)) i k = _
    rw [occL_cons, if_neg (fun z => h c (by simp) z.2), ih (fun d hd => h d (by simp [hd]))]
    rw [List.length_cons, show i + 1 + a.length = i + (a.length + 1) from by omega]
theorem occL_hit (r : List Nat) (i k : Nat) : occL (32 :: r) i (k + 1) = i :: occL r (i + 1) k := by
  show (if 0 < k + 1 ∧ 32 = 32 then _ else _) = _
  rw [if_pos ⟨by omega, rfl⟩]
  rfl
open Builtin.Str StrLaws in
theorem occ_run (x : Str) (k : Nat) : ∀ (r p : List Nat) (acc : Array Nat) (f : Nat), sg x = p ++ r → f ≤ p.length →
    (forIn (List.range' p.length (r.length + 1)) (acc, f) (occBody x ⟨#[32]⟩ x.length k)).run.fst.toList = acc.toList ++ occL r p.length (k - acc.size)
  | [], p, acc, f, e, hf => by
    have hx : x.length = p.length := by
      rw [← sg_len, e]
      simp
    show (forIn [p.length] (acc, f) (occBody x ⟨#[32]⟩ x.length k)).run.fst.toList = _
    rw [List.forIn_cons]
    unfold occBody
    have one : (⟨#[32]⟩ : Str).length = 1 := rfl
    rw [if_neg (fun h => by have := h.1.2; rw [one] at this; omega)]
    simp [occL]
  | c :: r, p, acc, f, e, hf => by
    have hx : x.length = p.length + r.length + 1 := by
      rw [← sg_len, e]
      simp
      omega
    have one : (⟨#[32]⟩ : Str).length = 1 := rfl
    have at_ : subAt x ⟨#[32]⟩ p.length = decide (c = 32) := by
      unfold subAt
      rw [one]
      have e4 : x.cps.extract p.length (p.length + 1) = #[c] := by
        apply Array.toList_inj.mp
        have : x.cps.toList = p ++ c :: r := e
        simp [this]
      rw [e4]
      by_cases h : c = 32
      · subst h
        rfl
      · simp [h]
    have rg : List.range' p.length ((c :: r).length + 1) = p.length :: List.range' (p ++ [c]).length (r.length + 1) := by
      simp [List.range']
    rw [rg, List.forIn_cons]
    have e2 : sg x = (p ++ [c]) ++ r := by rw [e]; simp
    have step := fun (acc' : Array Nat) (f' : Nat) (h : f' ≤ (p ++ [c]).length) => occ_run x k r (p ++ [c]) acc' f' e2 h
    have len1 : (p ++ [c]).length = p.length + 1 := by simp
    unfold occBody
    by_cases h : 0 < k - acc.size ∧ c = 32
    · rw [if_pos ⟨⟨⟨by show acc.size < k; omega, hf⟩, by rw [one]; omega⟩, by rw [at_, h.2]; rfl⟩]
      show (forIn _ (acc.push p.length, p.length + (⟨#[32]⟩ : Str).length) (occBody x ⟨#[32]⟩ x.length k)).run.fst.toList = _
      rw [step _ _ (by rw [one, len1]; omega), len1]
      rw [occL_cons, if_pos h, Array.size_push, show k - acc.size - 1 = k - (acc.size + 1) from by omega]
      simp
    · rw [if_neg (fun z => h ⟨by have : acc.size < k := z.1.1.1; omega, by have := z.2; rw [at_] at this; simpa using this⟩)]
      show (forIn _ (acc, f) (occBody x ⟨#[32]⟩ x.length k)).run.fst.toList = _
      rw [step _ _ (by rw [len1]; omega), len1]
      rw [occL_cons, if_neg h]
open Builtin.Str StrLaws in
theorem occ_is (x : Str) (k : Nat) : occurrences x ⟨#[32]⟩ 0 x.length k = occL (sg x) 0 k := by
  have := occ_run x k (sg x) [] #[] 0 rfl (Nat.le_refl _)
  rw [occ_eq]
  rw [sg_len] at this
  simpa using this
theorem sp_is : Str.ofString " " = ⟨#[32]⟩ := by decide +kernel
theorem sub_sg (x : Str) (i j : Nat) : sg (Builtin.Str.strSub x i j) = ((sg x).drop i).take (j - i) := by
  unfold Builtin.Str.strSub sg
  simp [List.extract_eq_drop_take]
/-- each part is a piece -/
theorem part_sub {x p : Str} {cuts : List Nat} {w : Nat} (h : p ∈ Builtin.Str.partsBetween x cuts w) : p.length ≤ x.length ∧ ∀ c ∈ sg p, c ∈ sg x := by
  unfold Builtin.Str.partsBetween at h
  simp only [List.mem_map] at h
  obtain ⟨⟨i, j⟩, _, rfl⟩ := h
  refine ⟨?_, fun c hc => ?_⟩
  · rw [← sg_len, sub_sg, List.length_take, List.length_drop, sg_len]
    omega
  · rw [sub_sg] at hc
    exact List.mem_of_mem_drop (List.mem_of_mem_take hc)
open Builtin.Str in
theorem splitMax_sub {x p : Str} {k : Int} (h : p ∈ Txt.splitMax x (Str.ofString " ") k) : p.length ≤ x.length ∧ ∀ c ∈ sg p, c ∈ sg x := by
  unfold Txt.splitMax at h
  split at h
  · have : p = x := by simpa using h
    subst this
    exact ⟨Nat.le_refl _, fun c hc => hc⟩
  · split at h
    · have : p = x := by simpa using h
      subst this
      exact ⟨Nat.le_refl _, fun c hc => hc⟩
    · exact part_sub h
open Builtin.Str in
theorem split_sub {x p : Str} (h : p ∈ Txt.split x (Str.ofString " ")) : p.length ≤ x.length ∧ ∀ c ∈ sg p, c ∈ sg x := by
  unfold Txt.split at h
  split at h
  · have : p = x := by simpa using h
    subst this
    exact ⟨Nat.le_refl _, fun c hc => hc⟩
  · split at h
    · have : p = x := by simpa using h
      subst this
      exact ⟨Nat.le_refl _, fun c hc => hc⟩
    · exact part_sub h
open Builtin.Str StrLaws in
theorem split_len (x : Str) : 1 ≤ (Txt.split x (Str.ofString " ")).length ∧ (Txt.split x (Str.ofString " ")).length ≤ x.length + 2 := by
  unfold Txt.split
  split
  · simp
  · split
    · simp
    · rw [length_partsBetween]
      have := occ_length_le x (Str.ofString " ") 0 x.length (x.length + 1)
      omega
open Builtin.Str StrLaws in
theorem splitMax_len (x : Str) : (Txt.splitMax x (Str.ofString " ") 3).length ≤ 4 := by
  unfold Txt.splitMax
  split
  · simp
  · split
    · simp
    · rw [length_partsBetween]
      have := occ_length_le x (Str.ofString " ") 0 x.length (limitOf x 3)
      have e : limitOf x 3 ≤ 3 := by
        unfold limitOf
        simp
      omega

open Builtin.Str StrLaws in
theorem split_four {x : Str} {a b c t : List Nat} (e : sg x = a ++ 32 :: (b ++ 32 :: (c ++ 32 :: t))) (ha : ∀ d ∈ a, d ≠ 32) (hb : ∀ d ∈ b, d ≠ 32) (hc : ∀ d ∈ c, d ≠ 32) :
    Txt.splitMax x (Str.ofString " ") 3 = [tx a, tx b, tx c, tx t] := by
  rw [sp_is]
  have hx : x.length = a.length + b.length + c.length + t.length + 3 := by
    rw [← sg_len, e]
    simp
    omega
  have one : (⟨#[32]⟩ : Str).length = 1 := rfl
  have k1 : Builtin.Str.strKind (⟨#[32]⟩ : Str) = 1 := by decide +kernel
  have k2 : 1 ≤ Builtin.Str.strKind x := by
    unfold Builtin.Str.strKind
    split
    · decide
    · split <;> decide
  have lm : limitOf x 3 = 3 := rfl
  have oc : occurrences x ⟨#[32]⟩ 0 x.length 3 = [a.length, a.length + 1 + b.length, a.length + 1 + b.length + 1 + c.length] := by
    rw [occ_is, e, occL_skip ha, occL_hit, occL_skip hb, occL_hit, occL_skip hc, occL_hit, occL_zero]
    simp only [Nat.zero_add]
  unfold Txt.splitMax
  rw [lm, oc, one, k1]
  have f1 : (decide (x.length < 1) || decide (Builtin.Str.strKind x < 1)) = false := by
    simp
    omega
  rw [f1]
  simp only [Bool.false_eq_true, ↓reduceIte, List.isEmpty_cons]
  unfold partsBetween
  simp only [List.map_cons, List.map_nil, List.cons_append, List.nil_append, List.zip_cons_cons, List.zip_nil_right, List.cons.injEq, and_true]
  have d1 : ((a ++ 32 :: (b ++ 32 :: (c ++ 32 :: t))).drop (a.length + 1)) = b ++ 32 :: (c ++ 32 :: t) := by
    rw [← List.drop_drop, List.drop_left]
    rfl
  have d2 : ((a ++ 32 :: (b ++ 32 :: (c ++ 32 :: t))).drop (a.length + 1 + b.length + 1)) = c ++ 32 :: t := by
    rw [show a.length + 1 + b.length + 1 = (a.length + 1) + (b.length + 1) from by omega, ← List.drop_drop, d1, ← List.drop_drop, List.drop_left]
    rfl
  have d3 : ((a ++ 32 :: (b ++ 32 :: (c ++ 32 :: t))).drop (a.length + 1 + b.length + 1 + c.length + 1)) = t := by
    rw [show a.length + 1 + b.length + 1 + c.length + 1 = (a.length + 1 + b.length + 1) + (c.length + 1) from by omega, ← List.drop_drop, d2, ← List.drop_drop, List.drop_left]
    rfl
  refine ⟨sg_inj ?_, sg_inj ?_, sg_inj ?_, sg_inj ?_⟩
  · rw [sub_sg, sg_tx, e, List.drop_zero, Nat.sub_zero, List.take_left]
  · rw [sub_sg, sg_tx, e, d1, show a.length + 1 + b.length - (a.length + 1) = b.length from by omega, List.take_left]
  · rw [sub_sg, sg_tx, e, d2, show a.length + 1 + b.length + 1 + c.length - (a.length + 1 + b.length + 1) = c.length from by omega, List.take_left]
  · rw [sub_sg, sg_tx, e, d3]
    exact List.take_of_length_le (by rw [hx]; omega)
/-! numbers -/
theorem tl_digits (n : Nat) : (Nat.toDigits 10 n).map Char.toNat = TL.numL n := rfl
theorem digits_dig {n c : Nat} (h : c ∈ TL.numL n) : Fr.dig c = true := by
  have := TL.numL_digits n c h
  simp [Fr.dig]
  omega
theorem num_digits (n : Nat) : Fr.num (TL.numL n) = n := TL.numL_val n
theorem head_digits : ∀ n : Nat, 0 < n → ∃ c r, TL.numL n = c :: r ∧ c ≠ 48
  | n, h0 => by
    by_cases h : n < 10
    · exact ⟨48 + n, [], TL.numL_lt h, by omega⟩
    · obtain ⟨c, r, e, hc⟩ := head_digits (n / 10) (by omega)
      exact ⟨c, r ++ [48 + n % 10], by rw [TL.numL_step (by omega), e]; rfl, hc⟩
theorem numL_ok (n : Nat) : numL (TL.numL n) = true := by
  have ha : (TL.numL n).all Fr.dig = true := List.all_eq_true.mpr fun c hc => digits_dig hc
  have hl : 0 < (TL.numL n).length := List.length_pos_iff.mpr (TL.numL_ne n)
  unfold numL
  rw [ha]
  simp only [hl, decide_true, Bool.true_and]
  by_cases h : n = 0
  · subst h
    rfl
  · obtain ⟨c, r, e, hc⟩ := head_digits n (by omega)
    rw [e]
    simp [hc]
theorem nat_sg (n : Nat) : sg (Str.ofString (toString (n : Int))) = TL.numL n := str_nat n
end Nv

namespace Nv
open PySem L2

/-- a text's pieces are of its signs -/
theorem strs_lay (l : List Nat) (h : ∀ c ∈ l, c < 128) : PyData.canLayAll0 (l.map fun c => PyData.str ⟨#[c]⟩) = true := by
  have := (Fts.strs (D := 0) (ts := l.map fun c => [c]) (by
    intro t ht c hc
    obtain ⟨d, hd, rfl⟩ := List.mem_map.mp ht
    have : c = d := by simpa using hc
    exact this ▸ h d hd)).c
  simpa [strsD, List.map_map, Function.comp_def, tx] using this
theorem dp_ones {K : PySem.W.Frag} {H : Hp} : ∀ l : List Nat, DpAll K H (l.map fun c => V.str ⟨#[c]⟩) (l.map fun c => PyData.str ⟨#[c]⟩)
  | [] => .nil
  | c :: r => .cons (.str _) (dp_ones r)
theorem ones_depth (l : List Nat) : PyData.depthAll (l.map fun c => PyData.str ⟨#[c]⟩) = 0 := by
  induction l with
  | nil => rfl
  | cons c r ih => simp [PyData.depthAll, PyData.depth, ih]
theorem shaped_ones (l : List Nat) (h : ∀ c ∈ l, c < 128) : SeqAt.shaped (.list (l.map fun c => PyData.str ⟨#[c]⟩)) = true := by
  unfold SeqAt.shaped
  simp only [PyData.canLay0, strs_lay l h, PyData.depth, ones_depth]
  rfl
theorem eqv_nil (l : List Nat) : PyData.eqv (.list (l.map fun c => PyData.str ⟨#[c]⟩)) (.list []) = l.isEmpty := by
  cases l <;> simp [PyData.eqv, PyData.eqvAll]
theorem take_filter {l : List Nat} {i c : Nat} {f : Nat → Bool} (h : l[i]? = some c) : (l.take (i + 1)).filter f = (l.take i).filter f ++ (if f c then [c] else []) := by
  have e : l.take (i + 1) = l.take i ++ [c] := by
    rw [List.take_add_one, h]
    rfl
  rw [e, List.filter_append]
  congr 1
  cases hf : f c <;> simp [hf]
theorem filt_all (f : Nat → Bool) (l : List Nat) : (l.filter fun c => !f c).isEmpty = l.all f := by
  induction l with
  | nil => rfl
  | cons c r ih =>
    simp only [List.filter_cons, List.all_cons]
    cases f c <;> simp [ih]
theorem figs_sg : sg (Str.ofString "0123456789") = [48, 49, 50, 51, 52, 53, 54, 55, 56, 57] := by decide +kernel
theorem figs_in (c : Nat) : decide (c ∈ (Str.ofString "0123456789").cps.toList) = Fr.dig c := by
  have : (Str.ofString "0123456789").cps.toList = [48, 49, 50, 51, 52, 53, 54, 55, 56, 57] := figs_sg
  rw [this]
  unfold Fr.dig
  by_cases h1 : 48 ≤ c <;> by_cases h2 : c ≤ 57 <;> simp [h1, h2] <;> omega

theorem alph_sg : sg (Str.ofString "abcdefghijklmnopqrstuvwxyz") = [97, 98, 99, 100, 101, 102, 103, 104, 105, 106, 107, 108, 109, 110, 111, 112, 113, 114, 115, 116, 117, 118, 119, 120, 121, 122] := by decide +kernel
theorem alph_in (c : Nat) : decide (c ∈ (Str.ofString "abcdefghijklmnopqrstuvwxyz").cps.toList) = low c := by
  have : (Str.ofString "abcdefghijklmnopqrstuvwxyz").cps.toList = _ := alph_sg
  rw [this]
  unfold low
  by_cases h1 : 97 ≤ c <;> by_cases h2 : c ≤ 122 <;> simp [h1, h2] <;> omega
theorem r_eq_ones {K : PySem.W.Frag} {H : Hp} {Q : VK} {D p : Addr} {l : List Nat} (h : ∀ c ∈ l, c < 128) (hD : H D = some (.lst (l.map fun c => V.str ⟨#[c]⟩))) (hp : H p = some (.lst [])) (q : Q (.bl l.isEmpty) H) : rEqD K (.ref D) (.ref p) H Q :=
  ⟨_, _, .lst (.of hD) (dp_ones l), .lst (.of hp) .nil, shaped_ones l h, by decide, by rw [eqv_nil]; exact q⟩
theorem r_ne_ones {K : PySem.W.Frag} {H : Hp} {Q : VK} {D p : Addr} {l : List Nat} (h : ∀ c ∈ l, c < 128) (hD : H D = some (.lst (l.map fun c => V.str ⟨#[c]⟩))) (hp : H p = some (.lst [])) (q : Q (.bl (!l.isEmpty)) H) : rNeD K (.ref D) (.ref p) H Q :=
  ⟨_, _, .lst (.of hD) (dp_ones l), .lst (.of hp) .nil, shaped_ones l h, by decide, by rw [eqv_nil]; exact q⟩
end Nv

namespace Nv
open PySem PySem.Spec PyProof.Rows L2

/-- repr of a list of data, the list itself anywhere -/
def rReprL : List V → Hp → VK → Prop := fun xs H Q => ∃ (a : Addr) (ys : List V) (ds : List PyData), xs = [.ref a] ∧ H a = some (.lst ys) ∧ DVs H ys ds ∧
  (PyData.list ds).showable = true ∧ (PyData.list ds).depth ≤ 60 ∧ (PyData.list ds).shown.length ≤ sizeLine ∧ Q (.str (PyData.list ds).shown) H
theorem call_reprL {X : Cx} (hG : X.A.guards = some []) (hu : X.A.units + 64 < cLine) : CallR X (.builtin "repr") rReprL := by
  intro pins s σ H xs us Q I r h
  obtain ⟨a, ys, ds, rfl, ha, hd, hs, hp, hz, q⟩ := h
  obtain ⟨u, rfl, rx⟩ := vals1 r
  cases (show u = Value.ref a from rx)
  obtain ⟨_, its, m, rv, e⟩ := (show ObjOk X.prog X.w H s.heap a (.lst ys) from I.hok a _ ha)
  obtain ⟨as, ra, na⟩ := DVs.reads I hd rv
  have sz : (listText (PyData.shownAll ds)).length ≤ sizeLine := by simpa only [PyData.shown] using hz
  obtain ⟨bs, deep, parts⟩ := ReprAllK.of_readsAll (prog := X.prog) (w := X.w) ra (by simpa only [PyData.showable] using hs) (fun _ => na)
    (fun t ht => Nat.le_trans (listText_mem_le ht) sz)
  have apart : a ∉ bs := not_mem_of_deeper (.list e rfl rfl ra) (by simp only [PyData.depth]; omega) deep
  have dp : (PyData.list ds).depth = PyData.depthAll ds + 1 := by simp only [PyData.depth]
  have fin : ∀ (h' : Heap) (t : Tok) (k : Nat), (∀ b o, s.heap.get? b = some o → h'.get? b = some o) → EP X pins σ Q (.str (PyData.list ds).shown t) { s with heap := h', toks := k } :=
    fun h' t k keep => ⟨.str (PyData.list ds).shown, H, I.kept keep, ⟨t, rfl⟩, q⟩
  refine call_repr_slot (by omega) (show s.TypeIs (.ref a) "list" from ⟨_, e, rfl⟩) F.slot_list_repr.toG ?_
  cases its with
  | nil =>
    cases ra
    have : EP X pins σ Q (.str "[]" s.toks) { s with toks := s.toks + 1 } := by
      have z := fin s.heap s.toks (s.toks + 1) fun _ _ w => w
      simpa only [PyData.shown, PyData.shownAll, listText_nil] using z
    exact call_list_repr_empty ⟨_, e, rfl⟩ e rfl ⟨_, _, rfl, this⟩
  | cons x l =>
    refine call_list_reprK e rfl rfl apart (by simpa using parts.length_eq) (fun i y z => parts.item i y (by simpa using z)) hG (fun b _ => Clear.nil b) (by show X.A.units + 1 + _ < cLine; omega) (fun _ _ z => z) (fun h' t k keep => ⟨_, _, rfl, ?_⟩) sz
    have z := fin h' t k keep
    simpa only [PyData.shown] using z
def rReprAL : List V → Hp → VK → Prop := fun xs H Q => rReprL xs H Q ∨ rReprA xs H Q
theorem call_reprAL {X : Cx} (hG : X.A.guards = some []) (hu : X.A.units + 64 < cLine) : CallR X (.builtin "repr") rReprAL := CallR.or (call_reprL hG hu) (call_reprA hG hu)
end Nv

namespace Nv
open PySem PySem.Spec PyProof.Rows L2

/-! len of an own class -/
section
variable {X : Cx}
/-- an own def is called where a built-in one asks for a special name -/
theorem special_own {k : Nat} {f C a dx : Addr} {fd : FuncData} {ps : List Str} {sp : Sp} {name : Str} {us : List Value} {vs : List V} {A : Around} {pins : List (Addr × Obj)} {σ : L2.St} {H : Hp} {s : Shared} {fs : List (Str × V)} {Q : VK} {R : Option Value → Shared → Prop}
    (F : FnG X.prog X.w X.K X.mg X.base k f fd ps sp) (b : Pos1 fd ps) (hG : A.guards = some []) (hr : Room k A) (hfr : A.frames = X.A.frames)
    (hl : PySem.W.findIn X.K (.ref C) name = some (some (.ref f))) (hf : PySem.W.typeIn X.K (.ref f) = some (.type "function"))
    (I : Inv X pins σ H s) (h : H a = some (.ins C dx fs)) (rv : Vals vs us) (hsp : sp (.ref a :: vs) H Q (fun _ _ _ => False))
    (q : ∀ v u s', RelV v u → (∃ H', Inv X pins σ H' s' ∧ Q v H') → R (some u) s') :
    wpAny (model X.prog X.w) A (callSpecial? (.ref a) name us) R X.xe s := by
  obtain ⟨mA, J, _⟩ := ins_get I.hok h
  obtain ⟨od, J, _⟩ := J.look
  unfold callSpecial? specialOf
  refine wpAny_bind (wpAny_bind (J.type.here ((PySem.W.looks_findIn I.kIn hl).here ?_)))
  refine wpAny_holding ?_
  refine wpAny_bind ((PySem.W.bind_fn I.kIn _ hf).here ?_)
  have e0 : Env0 X.prog X.w X.K X.mg X.base A X.stack s H := by
    have e := I.env0
    exact ⟨by rw [hfr]; exact e.frames, e.mod, e.bs, e.bsz, e.funs, e.frf, e.hok, e.bare⟩
  have r2 : Vals (V.ref a :: vs) (Value.ref a :: us) := .cons rfl rv
  have hlen : (Value.ref a :: us).length = ps.length := by
    rw [← r2.length]
    exact F.len _ _ _ _ hsp
  refine wpAny_bind (wpAny_call (codeAny_mono (F.run A X.stack s H ⟨.ref a :: us, []⟩ (.ref a :: us) (.ref a :: vs) Q (fun _ _ _ => False) hG hr e0 (.of_eq (b _ hlen)) r2 hsp) fun r s' hq => ?_))
  cases r with
  | error er =>
    obtain ⟨_, _, _, _, _, _, _, _, _, _, _, _, z⟩ := hq
    exact z.elim
  | ok fl =>
    cases fl with
    | ret u =>
      obtain ⟨v, H', J', rv', q'⟩ := I.after hq
      exact wpAny_pure (q v u s' rv' ⟨H', J', q'⟩)
    | next => exact hq.elim
    | brk => exact hq.elim
    | cont => exact hq.elim
def rLenO (C : Addr) (sp : Sp) : List V → Hp → VK → Prop := fun xs H Q => ∃ (a dx : Addr) (fs : List (Str × V)), xs = [.ref a] ∧ H a = some (.ins C dx fs) ∧
  sp [.ref a] H (fun v H1 => ∃ n : Int, v = .int n ∧ 0 ≤ n ∧ n < 2 ^ 63 ∧ Q (.int n) H1) (fun _ _ _ => False)
theorem call_lenO {k : Nat} {f C : Addr} {fd : FuncData} {ps : List Str} {sp : Sp} (F : FnG X.prog X.w X.K X.mg X.base k f fd ps sp) (b : Pos1 fd ps) (hG : X.A.guards = some []) (hr : Room (k + 1) X.A)
    (hl : PySem.W.findIn X.K (.ref C) "__len__" = some (some (.ref f))) (hf : PySem.W.typeIn X.K (.ref f) = some (.type "function")) : CallR X (.builtin "len") (rLenO C sp) := by
  intro pins s σ H xs us Q I r h
  obtain ⟨a, dx, fs, rfl, ha, hsp⟩ := h
  obtain ⟨u, rfl, ru⟩ := vals1 r
  obtain rfl : u = Value.ref a := ru
  refine Calls.call_function_entry kind_len plain_len entry_len (args_len1 _) ?_
  unfold Builtin.«len»
  refine wpAny_bind (m := oneArg "len" _) (wpAny_pure ?_)
  refine wpAny_bind (m := callSpecial? (.ref a) (PySem.Str.ofString "__len__")) (special_own (A := X.A.in1) (vs := []) (us := []) F b hG hr.in1 rfl hl hf I ha .nil hsp ?_)
  rintro v u s' rv ⟨H', I', n, rfl, h0, h1, q⟩
  obtain ⟨t, rfl⟩ := (show ∃ t, u = Value.int n t from rv)
  refine wpAny_bind (wpAny_holding (wpAny_pure ?_))
  refine wpAny_bind (wpAny_letGo ?_)
  show wpAny _ _ (if n < 0 then _ else _) _ _ _
  rw [if_neg (by omega)]
  show wpAny _ _ (if n ≥ 2 ^ 63 then _ else _) _ _ _
  rw [if_neg (by omega)]
  exact wpAny_bind (wpAny_mkInt (wpAny_pure ⟨_, rfl, .int n, H', I'.tok _, ⟨_, rfl⟩, q⟩))
end

/-! new instances of own classes, whose __init__ may raise -/
theorem under_guards {A : Around} {C : Addr} {us : List Value} {kw : List (Str × Value)} : (A.under (.builtin "type.__call__" ⟨.ref C :: us, kw⟩)).guards = A.guards := by
  first | rfl | simp [Around.under, Code.weight, Code.isCreation, Code.isGuard, Code.isCaller, Code.frames, Code.isFrame, guardIds]
/-- C(e, ..) -/
def tMakeG (C : Addr) (sp : Sp) (W : WX) (t : TA) : TE := fun σ H Q => t σ H fun vs H1 => ∀ x dx, H1 x = none → H1 dx = none → dx ≠ x →
  sp (.ref x :: vs) (upd (upd H1 dx (.own x)) x (.ins C dx [])) (fun v H2 => v = .non ∧ Q (.ref x) H2) (WE W σ)
theorem e_makeG {C : Addr} {sp : Sp} {W : WX} {t : TA} {σ : L2.St} {H : Hp} {Q : VK} : tMakeG C sp W t σ H Q = t σ H (fun vs H1 => ∀ x dx, H1 x = none → H1 dx = none → dx ≠ x →
  sp (.ref x :: vs) (upd (upd H1 dx (.own x)) x (.ins C dx [])) (fun v H2 => v = .non ∧ Q (.ref x) H2) (WE W σ)) := rfl
section
variable {X : Cx} {W : WX} {k : Nat} {f C : Addr} {fd : FuncData} {ps ks : List Str} {sp : Sp} {x : Str} {p pos : Pos} {e : Expr} {es : List Expr} {kws : List Keyword} {t : TA}
theorem run_makeG {pins : List (Addr × Obj)} {σ : L2.St} {H : Hp} {s : Shared} {Q : VK} {us us2 : List Value} {vs : List V} {kw : List (Str × Value)} (M : Mk X.K C f) (F : FnG X.prog X.w X.K X.mg X.base k f fd ps sp) (tk : Takes X W) (hG : X.A.guards = some []) (hr : Room (k + 1) X.A)
    (hb : ∀ (s : Shared) (u : Value), X.K.In s.heap → BindsTo s fd ⟨u :: us, kw⟩ (ps.zip (u :: us2))) (I : Inv X pins σ H s) (r : Vals vs us2)
    (h : ∀ x dx, H x = none → H dx = none → dx ≠ x → sp (.ref x :: vs) (upd (upd H dx (.own x)) x (.ins C dx [])) (fun v H2 => v = .non ∧ Q (.ref x) H2) (WE W σ)) :
    wpAny (model X.prog X.w) X.A (call (.ref C) us kw) (EP X pins σ Q) X.xe s := by
  have hq := h (s.heap.objs.size + 1) s.heap.objs.size (I.hok.fresh (Nat.le_succ _)) (I.hok.fresh (Nat.le_refl _)) (Nat.ne_of_lt (Nat.lt_succ_self _))
  have I2 := Inv.made (C := C) I
  have r2 : Vals (V.ref (s.heap.objs.size + 1) :: vs) (Value.ref (s.heap.objs.size + 1) :: us2) := .cons rfl r
  refine wpAny_call (make_map (f := f) I.kIn M.makes M.init (beq_iff_eq.mp M.fn) (codeAny_mono (F.run _ X.stack _ _ ⟨Value.ref (s.heap.objs.size + 1) :: us, kw⟩ (Value.ref (s.heap.objs.size + 1) :: us2) _ _ (WE W σ) (under_guards.trans hG) (hr.make C us kw)
    (I2.env0.make C us kw) (hb _ _ I2.kIn) r2 hq) fun r s' hq' => ?_))
  cases r with
  | error er => exact passAt tk σ pins _ _ er s' I2 hq'
  | ok fl =>
    cases fl with
    | ret u =>
      obtain ⟨v, H', I3, rv, ev, q3⟩ := I2.after hq'
      subst ev
      exact ⟨rv, ⟨V.ref (s.heap.objs.size + 1), H', I3, rfl, q3⟩⟩
    | next => exact False.elim hq'
    | brk => exact False.elim hq'
    | cont => exact False.elim hq'
theorem lenM {us : List Value} {vs : List V} {H : Hp} {Q : VK} {E : XK} {a : Addr} (F : FnG X.prog X.w X.K X.mg X.base k f fd ps sp) (r : Vals vs us) (h : sp (.ref a :: vs) H Q E) : us.length + 1 = ps.length := by
  rw [← r.length]
  exact F.len _ _ _ _ h
theorem pe_makeG (M : Mk X.K C f) (F : FnG X.prog X.w X.K X.mg X.base k f fd ps sp) (b : Binds X.K fd ps []) (tk : Takes X W) (hG : X.A.guards = some []) (hr : Room (k + 1) X.A) (hg : Gl X x) (hm : X.mg x = some (.ref C))
    (ha : PA X (e :: es) t) (hdb : (x == ("__debug__" : Str)) = false := by decide) (he : starEach (e :: es) X.env = (false, eval e X.env) :: starEach es X.env := by rfl) (hpl : (backTo pos (starEach es X.env)).any (·.1) = false := by rfl) :
    PE X (.Call (.Name x p) (e :: es) [] pos) (tMakeG C sp W t) := by
  refine ⟨fun pins s σ H Q I h => ?_⟩
  refine wpAny_Call_Name_kw (ld_glob I hg hm ?_ hdb)
  refine PySem.W.callWith_K (h₀ := X.base) I.ok.mod.kin M.kp (thn (ha.run pos pins s σ H _ I h) fun us s1 ⟨vs, H1, I1, r, q⟩ => ⟨I1.kIn, ?_⟩) he hpl
  have hl := lenM F r (q (s1.heap.objs.size + 1) s1.heap.objs.size (I1.hok.fresh (Nat.le_succ _)) (I1.hok.fresh (Nat.le_refl _)) (Nat.ne_of_lt (Nat.lt_succ_self _)))
  refine run_makeG (us2 := us) M F tk hG hr (fun s u z => ?_) I1 r q
  have := b s (u :: us) z (by simpa using hl)
  simpa using this
theorem pe_makeGk (M : Mk X.K C f) (F : FnG X.prog X.w X.K X.mg X.base k f fd ps sp) (b : Kw1 fd ps ks 1) (hlen : ps.length = ks.length + 1) (tk : Takes X W) (hG : X.A.guards = some []) (hr : Room (k + 1) X.A) (hg : Gl X x) (hm : X.mg x = some (.ref C))
    (ha : PK X kws t) (hall : (backToKw pos (keywordEach kws X.env)).all (·.1.isSome) = true := by rfl) (hks : (backToKw pos (keywordEach kws X.env)).filterMap (·.1) = ks := by rfl)
    (hdb : (x == ("__debug__" : Str)) = false := by decide)
    (hpl : ((backTo pos (starEach [] X.env)).any (·.1) || (backToKw pos (keywordEach kws X.env)).any (·.1.isNone)) = false := by rfl) :
    PE X (.Call (.Name x p) [] kws pos) (tMakeG C sp W t) := by
  refine ⟨fun pins s σ H Q I h => ?_⟩
  refine wpAny_Call_Name_kw (ld_glob I hg hm ?_ hdb)
  refine PySem.W.callWith_KW0 (h₀ := X.base) I.ok.mod.kin M.kp hall ?_ hpl
  refine thn (ha.run pos pins s σ H _ I h) ?_
  intro ws s2 ⟨zs, H2, I2, rz, q2⟩
  refine ⟨I2.kIn, ?_⟩
  rw [hks]
  have hl := lenM F rz (q2 (s2.heap.objs.size + 1) s2.heap.objs.size (I2.hok.fresh (Nat.le_succ _)) (I2.hok.fresh (Nat.le_refl _)) (Nat.ne_of_lt (Nat.lt_succ_self _)))
  refine run_makeG (us := []) (us2 := ws) M F tk hG hr (fun s u z => .of_eq (b [u] ws rfl (by omega))) I2 rz q2
end

/-! a list grows by a tuple's items -/
section
open AutoSeq1 (wpAny_loadPart')
theorem grow_tup (l b : Addr) (xs ys : Array Value) (n m : Nat) (dd : Option Addr) (sl : Array (Option Value)) (short : ¬ (!xs.isEmpty && Builtin.List.listTooLong (xs.size + ys.size)) = true) (z1 : xs.size ≤ sizeLine) (z2 : xs.size + ys.size ≤ sizeLine + 1) :
    Meets (Builtin.«list.extend» ⟨[.ref l, .ref b], []⟩) (fun _ R s =>
      s.heap.get? l = some { cls := .type "list", dict := none, data := .seq xs n, slots := #[] } ∧
      s.heap.get? b = some { cls := .type "tuple", dict := dd, data := .seq ys m, slots := sl } ∧
      R (.ok (.ret Value.none)) { s with heap := s.heap.update l (Obj.mapSeq fun x => x ++ ys), toks := s.toks }) :=
  .of_wp fun prog w A R s h => by
    obtain ⟨hp, g, d, tk, os⟩ := s
    obtain ⟨el, eb, q⟩ := h
    have t1 := AutoSeq1.idx_int
    have t2 := AutoSeq1.sub_tuple_tuple
    have t3 := AutoSeq1.sub_tuple_list
    have z3 : (xs ++ ys).size ≤ sizeLine + 1 := by
      rw [Array.size_append]
      exact z2
    wp_walk using (wpAny_updateSeq el rfl (hz := z1) (_hz' := z3)), wpAny_loadPart' el, wpAny_loadPart' eb
    exact ⟨_, rfl, q⟩
end
/-- xs.extend(ys), ys a list or a tuple -/
def rExtA (K : PySem.W.Frag) : V → List V → Hp → VK → Prop := fun x vs H Q => ∃ l b xs zs, x = .ref l ∧ vs = [.ref b] ∧ H l = some (.lst xs) ∧ (H b = some (.lst zs) ∨ SqT K H b zs) ∧ xs.length + zs.length ≤ sizeLine ∧ Q .non (upd H l (.lst (xs ++ zs)))
theorem mt_extA {X : Cx} : MtM X "list.extend" (rExtA X.K) := by
  intro pins s σ H x vs v us Q I rx rv h
  obtain ⟨l, b, xs, zs, rfl, rfl, hH, hB | hB, hz, q⟩ := h
  · exact mt_extend pins s σ H _ _ v us Q I rx rv ⟨l, b, xs, zs, rfl, rfl, hH, hB, hz, q⟩
  · cases rx
    obtain ⟨u, rfl, ru⟩ := rv.one
    cases ru
    obtain ⟨z, its, n, r, hl, e⟩ := I.lstM hH
    obtain ⟨its2, r2, ⟨o, e2, o1, m, o3⟩, hl2⟩ := I.tuple hB
    have l1 := r.length
    have l2 := r2.length
    have hsz : its.toArray.size + its2.toArray.size ≤ sizeLine := by
      rw [List.size_toArray, List.size_toArray]
      omega
    have hlong : ¬ (!its.toArray.isEmpty && Builtin.List.listTooLong (its.toArray.size + its2.toArray.size)) = true := by
      rw [notLongL hsz, Bool.and_false]
      exact Bool.false_ne_true
    obtain ⟨oc, od, oda, os⟩ := o
    simp only at o1 o3
    subst o1
    subst o3
    refine call_meets F.slot_list_extend ⟨_, e, rfl⟩ F.entry_list_extend (F.args_list_extend_2 _ _)
      (grow_tup l b its.toArray its2.toArray n m od os hlong (by rw [List.size_toArray]; omega) (by omega)) ⟨e, e2, ?_⟩
    refine ⟨.non, _, I.lset (its' := its ++ its2) hH e (by simp) (r.append r2) ?_, rfl, q⟩
    rw [List.length_append]
    omega
end Nv

namespace Nv
open PySem L2

/-! rows of figures in a text -/
def Fig (B : Nat) (l : List Nat) : Prop := ∀ a b c, l = a ++ (b ++ c) → b.all Fr.dig = true → b.length ≤ B
theorem Fig.sub {B : Nat} {l m : List Nat} (h : Fig B m) (i : l <:+: m) : Fig B l := by
  obtain ⟨s, t, e⟩ := i
  intro a b c hl hd
  refine h (s ++ a) b (c ++ t) ?_ hd
  rw [← e, hl]
  simp
theorem Fig.len {B : Nat} {l : List Nat} (h : l.length ≤ B) : Fig B l := fun a b c e _ => by
  rw [e, List.length_append, List.length_append] at h
  omega
theorem Fig.le {B C : Nat} {l : List Nat} (h : Fig B l) (k : B ≤ C) : Fig C l := fun a b c e d => Nat.le_trans (h a b c e d) k
theorem Fig.self {B : Nat} {l : List Nat} (h : Fig B l) (d : l.all Fr.dig = true) : l.length ≤ B := h [] l [] (by simp) d
theorem Fig.nil (B : Nat) : Fig B [] := Fig.len (Nat.zero_le _)
/-- a sign that is no figure parts the rows -/
theorem Fig.part {B c : Nat} {l m : List Nat} (h1 : Fig B l) (h2 : Fig B m) (hc : Fr.dig c = false) : Fig B (l ++ c :: m) := by
  intro a b r e d
  by_cases h : a.length + b.length ≤ l.length
  · refine h1 a b ((l.drop (a.length + b.length))) ?_ d
    have e2 : (l ++ c :: m).take (a.length + b.length) = a ++ b := by
      rw [e, ← List.append_assoc]
      have : (a ++ b).length = a.length + b.length := List.length_append
      rw [← this, List.take_left]
    rw [List.take_append_of_le_length h] at e2
    rw [← List.append_assoc, ← e2, List.take_append_drop]
  · by_cases h3 : l.length < a.length
    · have e3 : (l ++ c :: m).drop a.length = b ++ r := by
        rw [e, List.drop_left]
      rw [List.drop_append_of_le_length' h3] at e3
      refine h2 (m.take (a.length - l.length - 1)) b r ?_ d
      rw [← e3, List.take_append_drop]
    · exfalso
      have hi : (l ++ c :: m)[l.length]? = some c := by simp
      rw [e, List.getElem?_append_right (by omega), List.getElem?_append_left (by omega)] at hi
      have hm := List.mem_of_getElem? hi
      have := List.all_eq_true.mp d c hm
      rw [hc] at this
      cases this
where
  List.drop_append_of_le_length' {l : List Nat} {c : Nat} {m : List Nat} {k : Nat} (h : l.length < k) : (l ++ c :: m).drop k = m.drop (k - l.length - 1) := by
    rw [List.drop_append]
    have : l.drop k = [] := List.drop_of_length_le (by omega)
    rw [this, List.nil_append]
    obtain ⟨j, hj⟩ : ∃ j, k - l.length = j + 1 := ⟨k - l.length - 1, by omega⟩
    rw [hj]
    simp
theorem sub_infix (x : Str) (i j : Nat) : sg (Builtin.Str.strSub x i j) <:+: sg x := by
  rw [sub_sg]
  exact (List.take_prefix _ _).isInfix.trans (List.drop_suffix _ _).isInfix
theorem part_infix {x p : Str} {cuts : List Nat} {w : Nat} (h : p ∈ Builtin.Str.partsBetween x cuts w) : sg p <:+: sg x := by
  unfold Builtin.Str.partsBetween at h
  simp only [List.mem_map] at h
  obtain ⟨⟨i, j⟩, _, rfl⟩ := h
  exact sub_infix x i j
open Builtin.Str in
theorem splitMax_infix {x p : Str} {k : Int} (h : p ∈ Txt.splitMax x (Str.ofString " ") k) : sg p <:+: sg x := by
  unfold Txt.splitMax at h
  split at h
  · have : p = x := by simpa using h
    subst this
    exact List.infix_rfl
  · split at h
    · have : p = x := by simpa using h
      subst this
      exact List.infix_rfl
    · exact part_infix h
open Builtin.Str in
theorem split_infix {x p : Str} (h : p ∈ Txt.split x (Str.ofString " ")) : sg p <:+: sg x := by
  unfold Txt.split at h
  split at h
  · have : p = x := by simpa using h
    subst this
    exact List.infix_rfl
  · split at h
    · have : p = x := by simpa using h
      subst this
      exact List.infix_rfl
    · exact part_infix h
theorem num_lt (l : List Nat) (h : ∀ c ∈ l, Fr.dig c = true) : ∀ a : Nat, l.foldl (fun a c => a * 10 + (c - 48)) a < (a + 1) * 10 ^ l.length := by
  induction l with
  | nil => intro a; simp
  | cons c r ih =>
    intro a
    rw [List.foldl_cons, List.length_cons]
    have hc : c - 48 ≤ 9 := by
      have := h c (by simp)
      simp [Fr.dig] at this
      omega
    have := ih (fun d hd => h d (by simp [hd])) (a * 10 + (c - 48))
    have e : (a + 1) * 10 ^ (r.length + 1) = (a * 10 + 10) * 10 ^ r.length := by
      rw [Nat.pow_succ, Nat.mul_comm (10 ^ r.length) 10, ← Nat.mul_assoc, Nat.add_mul, Nat.one_mul]
    rw [e]
    exact Nat.lt_of_lt_of_le this (Nat.mul_le_mul_right _ (by omega))
theorem num_lt' {l : List Nat} {B : Nat} (h : l.all Fr.dig = true) (hB : l.length ≤ B) : Fr.num l < 10 ^ B := by
  have := num_lt l (List.all_eq_true.mp h) 0
  rw [Nat.zero_add, Nat.one_mul] at this
  exact Nat.lt_of_lt_of_le this (Nat.pow_le_pow_right (by decide) hB)
end Nv

namespace Nv
open PySem PySem.Spec PyProof.Rows L2

/-! a name that holds a list or a tuple, walked -/
def iSeqV (K : PySem.W.Frag) (i : Nat) : TI := fun σ H R => ∃ a : Addr, σ[i]? = some (some (.ref a)) ∧ (((∃ xs, SqL K H a xs) ∧ R (Itl K a) H) ∨ ((∃ xs, SqT K H a xs) ∧ R (Itt K a) H))
theorem pi_seqV {X : Cx} {tg e : Expr} {i : Nat} (h : PE X e (tVar i)) : PI X tg e (iSeqV X.K i) := by
  refine ⟨fun pins s σ H R I q => ?_⟩
  obtain ⟨a, hv, ⟨hx, r⟩ | ⟨hx, r⟩⟩ := q
  · exact (pi_list h).run pins s σ H R I ⟨_, hv, a, rfl, hx, r⟩
  · exact (pi_tup h).run pins s σ H R I ⟨_, hv, a, rfl, hx, r⟩
theorem sqT_same {K : PySem.W.Frag} {H H' : Hp} {a : Addr} {xs : List V} (e : Same H H') (h : SqT K H a xs) : SqT K H' a xs :=
  h.elim (fun h => .inl (h.elim (fun h => .inl (e _ _ h)) fun ⟨o, h⟩ => .inr ⟨o, e _ _ h⟩)) fun h => .inr h
theorem lc_seqV {K : PySem.W.Frag} {a : Addr} {xs : List V} {i : Nat} {g : TG} {tt : TT} {te : TE} {vs : List Nat} {σ : L2.St} {H : Hp} {Q : VK} (hv : σ[i]? = some (some (.ref a))) (hx : SqL K H a xs ∨ SqT K H a xs)
    (Pv : Addr → Nat → Hp → Prop) (h0 : ∀ D, H D = none → Pv D 0 (upd H D (.lst []))) (st : ∀ D j H', H D = none → Pv D j H' → Same H H')
    (hs : ∀ D j x H', H D = none → xs[j]? = some x → Pv D j H' → g x (wipe σ vs) H' fun σ2 H2 => wipe σ2 vs = wipe σ vs ∧ tt σ2 H2 fun b H3 =>
      if b = true then te σ2 H3 fun y H4 => ∃ acc, H4 D = some (.lst acc) ∧ acc.length < sizeLine ∧ Pv D (j + 1) (upd H4 D (.lst (acc ++ [y]))) else Pv D (j + 1) H3)
    (hd : ∀ D H', H D = none → Pv D xs.length H' → Q (.ref D) H') : tLc (iSeqV K i) g tt te vs σ H Q := by
  rcases hx with hx | hx
  · refine ⟨a, hv, .inl ⟨⟨xs, hx⟩, fun D hD => ?_⟩⟩
    exact lc_list (K := K) (a := a) (xs := xs) (Pv D) (h0 D hD) (fun j H' _ p => L2.Same.seq (st D j H' hD p) hx) (fun j x H' hj p => hs D j x H' hD hj p) fun H' p => hd D H' hD p
  · refine ⟨a, hv, .inr ⟨⟨xs, hx⟩, fun D hD => ?_⟩⟩
    exact lc_tup (K := K) (a := a) (xs := xs) (Pv D) (h0 D hD) (fun j H' _ p => sqT_same (st D j H' hD p) hx) (fun j x H' hj p => hs D j x H' hD hj p) fun H' p => hd D H' hD p
end Nv

namespace Nv
open PySem L2

/-! what a row of frames was read from -/
theorem dig_val {c : Nat} (h : Fr.dig c = true) : 48 ≤ c ∧ c ≤ 57 := by simpa [Fr.dig] using h
theorem pad_back {l : List Nat} (h4 : l.length = 4) (hd : l.all Fr.dig = true) : l = Fr.pad (Fr.num l) ∧ Fr.num l < 10000 := by
  match l, h4 with
  | [a, b, c, d], _ =>
    have h := List.all_eq_true.mp hd
    have ha := dig_val (h a (by simp))
    have hb := dig_val (h b (by simp))
    have hc := dig_val (h c (by simp))
    have hd' := dig_val (h d (by simp))
    simp only [Fr.num, Fr.pad, List.foldl_cons, List.foldl_nil, List.cons.injEq, and_true]
    refine ⟨⟨?_, ?_, ?_, ?_⟩, ?_⟩ <;> omega
theorem drop_two (l : List Nat) (i j : Nat) : l.drop i = (l.drop i).take j ++ l.drop (i + j) := by
  have := (List.take_append_drop j (l.drop i)).symm
  rw [List.drop_drop] at this
  exact this
theorem fend_split {z : List Nat} {s e : Nat} (h : Fr.fend z s = some e) :
    z.drop s = Fr.frm (Fr.piece z (s + 4) (e - 1)) ++ z.drop e ∧ (Fr.piece z (s + 4) (e - 1)).length < 10000 ∧ e = s + (Fr.piece z (s + 4) (e - 1)).length + 5 := by
  have hb := Fr.fend_bounds h
  unfold Fr.fend at h
  split at h
  · rename_i h1
    split at h
    · rename_i h2
      cases h
      obtain ⟨n, hn⟩ : ∃ n, n = Fr.num ((z.drop s).take 4) := ⟨_, rfl⟩
      obtain ⟨p1, p2⟩ := pad_back h1.1 h1.2
      rw [← hn] at p1 p2 h2 hb ⊢
      have hl : ((z.drop (s + 4 + n)).take 1).length = 1 := by rw [h2]; rfl
      rw [List.length_take, List.length_drop] at hl
      have ep : Fr.piece z (s + 4) (s + 4 + n + 1 - 1) = (z.drop (s + 4)).take n := by
        unfold Fr.piece
        congr 1
        omega
      have lp : ((z.drop (s + 4)).take n).length = n := by
        rw [List.length_take, List.length_drop]
        omega
      rw [ep, lp]
      refine ⟨?_, p2, by omega⟩
      unfold Fr.frm
      rw [lp]
      have e1 : z.drop s = (z.drop s).take 4 ++ z.drop (s + 4) := drop_two z s 4
      have e2 : z.drop (s + 4) = (z.drop (s + 4)).take n ++ z.drop (s + 4 + n) := drop_two z (s + 4) n
      have e3 : z.drop (s + 4 + n) = [46] ++ z.drop (s + 4 + n + 1) := by
        have := drop_two z (s + 4 + n) 1
        rw [h2] at this
        exact this
      conv => lhs; rw [e1, p1, e2, e3]
      simp
    · cases h
  · cases h
theorem rd_take {z : List Nat} : ∀ (n s : Nat) (acc : List (List Nat)), z.take s = Fr.row acc → s = Fr.total acc → s ≤ z.length → (∀ t ∈ acc, t.length < 10000) →
    z.take (Fr.rd z n s acc).2 = Fr.row (Fr.rd z n s acc).1 ∧ (Fr.rd z n s acc).2 = Fr.total (Fr.rd z n s acc).1 ∧ (Fr.rd z n s acc).2 ≤ z.length ∧ ∀ t ∈ (Fr.rd z n s acc).1, t.length < 10000
  | 0, s, acc, h1, h2, h3, h4 => ⟨h1, h2, h3, h4⟩
  | n + 1, s, acc, h1, h2, h3, h4 => by
    rw [Fr.rd]
    cases e : Fr.fend z s with
    | none => exact ⟨h1, h2, h3, h4⟩
    | some x =>
      obtain ⟨k1, k2, k3⟩ := fend_split e
      have hb := Fr.fend_bounds e
      refine rd_take n x _ ?_ ?_ hb.2 ?_
      · have e1 : z.take x = z.take s ++ (z.drop s).take (x - s) := by
          have := List.take_add (l := z) (i := s) (j := x - s)
          rw [show s + (x - s) = x from by omega] at this
          exact this
        rw [e1, h1, k1]
        have lf : (Fr.frm (Fr.piece z (s + 4) (x - 1))).length = x - s := by
          rw [Fr.frm_len]
          omega
        rw [← lf, List.take_left]
        simp [Fr.row]
      · simp only [Fr.total, List.map_append, List.sum_append, List.map_cons, List.map_nil, List.sum_cons, List.sum_nil] at h2 ⊢
        omega
      · intro t ht
        rcases List.mem_append.mp ht with ht | ht
        · exact h4 t ht
        · have : t = Fr.piece z (s + 4) (x - 1) := by simpa using ht
          rw [this]
          exact k2
theorem parse_take (z : List Nat) : z.take (Fr.parse z).2 = Fr.row (Fr.parse z).1 ∧ (Fr.parse z).2 = Fr.total (Fr.parse z).1 ∧ (Fr.parse z).2 ≤ z.length ∧ ∀ t ∈ (Fr.parse z).1, t.length < 10000 :=
  rd_take (z.length + 1) 0 [] rfl rfl (Nat.zero_le _) (by simp)
/-- the texts stand in what was read -/
theorem row_infix {t : List Nat} : ∀ {ts : List (List Nat)}, t ∈ ts → t <:+: Fr.row ts
  | u :: r, h => by
    have e : Fr.row (u :: r) = Fr.pad u.length ++ u ++ ([46] ++ Fr.row r) := by simp [Fr.row, Fr.frm]
    rcases List.mem_cons.mp h with rfl | h
    · exact ⟨Fr.pad t.length, [46] ++ Fr.row r, by rw [e]⟩
    · refine (row_infix h).trans ⟨Fr.pad u.length ++ u ++ [46], [], ?_⟩
      rw [e]
      simp
theorem parse_infix {z t : List Nat} (h : t ∈ (Fr.parse z).1) : t <:+: z := by
  have := (parse_take z).1
  have i := row_infix h
  rw [← this] at i
  exact i.trans (List.take_prefix _ _).isInfix
/-- a numeral is the text of its number -/
theorem numL_back : ∀ (k : Nat) {l : List Nat}, l.length = k → numL l = true → TL.numL (Fr.num l) = l := by
  intro k
  induction k using Nat.strongRecOn with
  | _ k ih =>
    intro l hl h
    unfold numL at h
    simp only [Bool.and_eq_true, decide_eq_true_eq, Bool.or_eq_true, Bool.not_eq_true', decide_eq_false_iff_not] at h
    obtain ⟨⟨h1, h2⟩, h3⟩ := h
    obtain ⟨r, c, rfl⟩ : ∃ r c, l = r ++ [c] := ⟨l.dropLast, l.getLast (by intro q; rw [q] at h1; simp at h1), (List.dropLast_concat_getLast _).symm⟩
    have hc := dig_val (List.all_eq_true.mp h2 c (by simp))
    have ev : Fr.num (r ++ [c]) = Fr.num r * 10 + (c - 48) := by
      unfold Fr.num
      rw [List.foldl_append]
      rfl
    cases r with
    | nil =>
      rw [ev]
      show TL.numL (0 * 10 + (c - 48)) = [c]
      rw [TL.numL_lt (by omega)]
      congr 1
      omega
    | cons d r =>
      have hd : d ≠ 48 := by
        rcases h3 with h3 | h3
        · simp at h3
        · simpa using h3
      have dd := dig_val (List.all_eq_true.mp h2 d (by simp))
      have ok : numL (d :: r) = true := by
        unfold numL
        have a1 : ((d :: r).all Fr.dig) = true := by
          rw [List.all_append] at h2
          simp only [Bool.and_eq_true] at h2
          exact h2.1
        rw [a1]
        simp [hd]
      have hrec := ih (d :: r).length (by rw [← hl]; simp) rfl ok
      have big : 0 < Fr.num (d :: r) := by
        rcases Nat.eq_zero_or_pos (Fr.num (d :: r)) with z | z
        · rw [z, TL.numL_lt (by decide)] at hrec
          injection hrec with q
          omega
        · exact z
      rw [ev, TL.numL_step (by omega)]
      have q1 : (Fr.num (d :: r) * 10 + (c - 48)) / 10 = Fr.num (d :: r) := by omega
      have q2 : 48 + (Fr.num (d :: r) * 10 + (c - 48)) % 10 = c := by omega
      rw [q1, q2, hrec]
/-! a text that falls into four parts -/
theorem first_blank : ∀ l : List Nat, (∀ d ∈ l, d ≠ 32) ∨ ∃ a r, l = a ++ 32 :: r ∧ ∀ d ∈ a, d ≠ 32
  | [] => .inl (by simp)
  | c :: l => by
    by_cases h : c = 32
    · exact .inr ⟨[], l, by rw [h]; rfl, by simp⟩
    · rcases first_blank l with q | ⟨a, r, e, q⟩
      · refine .inl fun d hd => ?_
        rcases List.mem_cons.mp hd with rfl | hd
        · exact h
        · exact q d hd
      · refine .inr ⟨c :: a, r, by rw [e]; rfl, fun d hd => ?_⟩
        rcases List.mem_cons.mp hd with rfl | hd
        · exact h
        · exact q d hd
theorem occL_free {l : List Nat} {i k : Nat} (h : ∀ d ∈ l, d ≠ 32) : occL l i k = [] := by
  have := occL_skip (a := l) (r := []) (k := k) h i
  rw [List.append_nil] at this
  rw [this]
  rfl
open Builtin.Str StrLaws in
theorem four_parts {x a b c t : Str} (h : Txt.splitMax x (Str.ofString " ") 3 = [a, b, c, t]) : sg x = sg a ++ 32 :: (sg b ++ 32 :: (sg c ++ 32 :: sg t)) ∧ (∀ d ∈ sg a, d ≠ 32) ∧ (∀ d ∈ sg b, d ≠ 32) ∧ (∀ d ∈ sg c, d ≠ 32) := by
  have len : (occL (sg x) 0 3).length = 3 := by
    have h2 := h
    unfold Txt.splitMax at h2
    split at h2
    · cases h2
    · split at h2
      · cases h2
      · have := congrArg List.length h2
        rw [length_partsBetween, sp_is, occ_is] at this
        have e : limitOf x 3 = 3 := rfl
        rw [e] at this
        simpa using this
  rcases first_blank (sg x) with q | ⟨a', r1, e1, qa⟩
  · rw [occL_free q] at len
    cases len
  · rcases first_blank r1 with q | ⟨b', r2, e2, qb⟩
    · rw [e1, occL_skip qa, occL_hit, occL_free q] at len
      cases len
    · rcases first_blank r2 with q | ⟨c', t', e3, qc⟩
      · rw [e1, occL_skip qa, occL_hit, e2, occL_skip qb, occL_hit, occL_free q] at len
        cases len
      · have e : sg x = a' ++ 32 :: (b' ++ 32 :: (c' ++ 32 :: t')) := by rw [e1, e2, e3]
        have s := split_four e qa qb qc
        rw [s] at h
        simp only [List.cons.injEq, and_true] at h
        obtain ⟨rfl, rfl, rfl, rfl⟩ := h
        rw [sg_tx, sg_tx, sg_tx, sg_tx]
        exact ⟨e, qa, qb, qc⟩
end Nv

namespace Nv
open PySem L2

/-! a text parted at its blanks -/
def splitL : List Nat → List (List Nat)
  | [] => [[]]
  | c :: r => if c = 32 then [] :: splitL r else match splitL r with
    | [] => [[c]]
    | p :: ps => (c :: p) :: ps
theorem splitL_ne : ∀ l, splitL l ≠ []
  | [] => by simp [splitL]
  | c :: r => by
    unfold splitL
    split
    · simp
    · split <;> simp
theorem splitL_free {l : List Nat} (h : ∀ d ∈ l, d ≠ 32) : splitL l = [l] := by
  induction l with
  | nil => rfl
  | cons c r ih =>
    unfold splitL
    rw [if_neg (h c (by simp)), ih fun d hd => h d (by simp [hd])]
theorem splitL_cons {a r : List Nat} (h : ∀ d ∈ a, d ≠ 32) : splitL (a ++ 32 :: r) = a :: splitL r := by
  induction a with
  | nil =>
    show splitL (32 :: r) = _
    conv => lhs; unfold splitL
    rw [if_pos rfl]
  | cons c a ih =>
    show splitL (c :: (a ++ 32 :: r)) = _
    conv => lhs; unfold splitL
    rw [if_neg (h c (by simp)), ih fun d hd => h d (by simp [hd])]
theorem occL_more : ∀ (l : List Nat) (i k m : Nat), l.length ≤ k → l.length ≤ m → occL l i k = occL l i m
  | [], i, k, m, _, _ => rfl
  | c :: r, i, k, m, h1, h2 => by
    simp only [List.length_cons] at h1 h2
    rw [occL_cons, occL_cons]
    by_cases hc : c = 32
    · rw [if_pos ⟨by omega, hc⟩, if_pos ⟨by omega, hc⟩, occL_more r (i + 1) (k - 1) (m - 1) (by omega) (by omega)]
    · rw [if_neg (fun q => hc q.2), if_neg (fun q => hc q.2), occL_more r (i + 1) k m (by omega) (by omega)]
theorem occL_shift : ∀ (l : List Nat) (i p k : Nat), occL l (p + i) k = (occL l i k).map (p + ·)
  | [], i, p, k => rfl
  | c :: r, i, p, k => by
    rw [occL_cons, occL_cons]
    split
    · rw [List.map_cons, show p + i + 1 = p + (i + 1) from by omega, occL_shift r]
    · rw [show p + i + 1 = p + (i + 1) from by omega, occL_shift r]
open Builtin.Str StrLaws in
theorem sub_shift {x : Str} {p r : List Nat} (e : sg x = p ++ r) (i j : Nat) : strSub x (p.length + i) (p.length + j) = strSub (tx r) i j := by
  apply sg_inj
  rw [sub_sg, sub_sg, sg_tx, e, ← List.drop_drop, List.drop_left]
  congr 1
  omega
open Builtin.Str StrLaws in
theorem parts_shift {x : Str} {p r : List Nat} (e : sg x = p ++ r) : ∀ (cuts : List Nat) (a : Nat), partsFrom x 1 (p.length + a) (cuts.map (p.length + ·)) = partsFrom (tx r) 1 a cuts
  | [], a => by
    have hx : x.length = p.length + r.length := by rw [← sg_len, e, List.length_append]
    show [strSub x (p.length + a) x.length] = [strSub (tx r) a (tx r).length]
    rw [hx, sub_shift e, tx_len]
  | c :: cuts, a => by
    show strSub x (p.length + a) (p.length + c) :: partsFrom x 1 (p.length + c + 1) (cuts.map (p.length + ·)) = strSub (tx r) a c :: partsFrom (tx r) 1 (c + 1) cuts
    rw [sub_shift e, show p.length + c + 1 = p.length + (c + 1) from by omega, parts_shift e cuts]
open Builtin.Str StrLaws in
theorem split_from (x : Str) : Txt.split x (Str.ofString " ") = partsFrom x 1 0 (occL (sg x) 0 (x.length + 1)) := by
  have one : (⟨#[32]⟩ : Str).length = 1 := rfl
  have whole : [x] = partsFrom x 1 0 [] := by
    show [x] = [strSub x 0 x.length]
    rw [sub_whole]
  unfold Txt.split
  rw [sp_is, occ_is, one]
  split
  · rename_i h
    have k1 : Builtin.Str.strKind (⟨#[32]⟩ : Str) = 1 := by decide +kernel
    have k2 : 1 ≤ Builtin.Str.strKind x := by
      unfold Builtin.Str.strKind
      split
      · decide
      · split <;> decide
    rw [k1] at h
    simp only [Bool.or_eq_true, decide_eq_true_eq] at h
    have : sg x = [] := List.length_eq_zero_iff.mp (by rw [sg_len]; omega)
    rw [this]
    exact whole
  · split
    · rename_i h
      rw [List.isEmpty_iff.mp h]
      exact whole
    · rw [partsBetween_eq]
open Builtin.Str StrLaws in
theorem split_parts : ∀ (n : Nat) (x : Str), x.length = n → Txt.split x (Str.ofString " ") = (splitL (sg x)).map tx := by
  intro n
  induction n using Nat.strongRecOn with
  | _ n ih =>
    intro x hx
    rw [split_from]
    rcases first_blank (sg x) with q | ⟨a, r, e, q⟩
    · rw [occL_free q, splitL_free q]
      show [strSub x 0 x.length] = [tx (sg x)]
      rw [sub_whole, tx_sg]
    · have hl : x.length = a.length + (r.length + 1) := by rw [← sg_len, e, List.length_append, List.length_cons]
      rw [e, splitL_cons q, occL_skip q, occL_hit, List.map_cons]
      show strSub x 0 (0 + a.length) :: partsFrom x 1 (0 + a.length + 1) (occL r (0 + a.length + 1) x.length) = tx a :: _
      have e2 : sg x = (a ++ [32]) ++ r := by rw [e]; simp
      have lp : (a ++ [32]).length = a.length + 1 := by simp
      congr 1
      · apply sg_inj
        rw [sub_sg, sg_tx, e, List.drop_zero, show 0 + a.length - 0 = a.length from by omega, List.take_left]
      · have o := occL_shift r 0 (a ++ [32]).length x.length
        rw [lp] at o
        rw [show 0 + a.length + 1 = a.length + 1 + 0 from by omega, o]
        have ps := parts_shift e2 (occL r 0 x.length) 0
        rw [lp] at ps
        rw [ps, occL_more r 0 x.length (r.length + 1) (by omega) (by omega)]
        have := ih r.length (by omega) (tx r) (tx_len r)
        rw [split_from, sg_tx, tx_len] at this
        exact this
theorem split_is (x : Str) : Txt.split x (Str.ofString " ") = (splitL (sg x)).map tx := split_parts x.length x rfl
/-- the parts put together again -/
theorem splitL_join : ∀ n (l : List Nat), l.length = n → ∃ p ps, splitL l = p :: ps ∧ l = p ++ (ps.map fun q => 32 :: q).flatten ∧ ∀ q ∈ splitL l, ∀ d ∈ q, d ≠ 32 := by
  intro n
  induction n using Nat.strongRecOn with
  | _ n ih =>
    intro l hl
    rcases first_blank l with q | ⟨a, r, e, q⟩
    · refine ⟨l, [], splitL_free q, by simp, fun u hu => ?_⟩
      rw [splitL_free q] at hu
      have e : u = l := by simpa using hu
      rw [e]
      exact q
    · have hl2 : l.length = a.length + (r.length + 1) := by rw [e, List.length_append, List.length_cons]
      obtain ⟨p, ps, h1, h2, h3⟩ := ih r.length (by omega) r rfl
      have e1 : splitL l = a :: p :: ps := by rw [e, splitL_cons q, h1]
      refine ⟨a, p :: ps, e1, ?_, ?_⟩
      · rw [e, List.map_cons, List.flatten_cons]
        show a ++ 32 :: r = a ++ (32 :: p ++ _)
        rw [List.cons_append, ← h2]
      · intro u hu
        rw [e1] at hu
        rcases List.mem_cons.mp hu with rfl | hu
        · exact q
        · exact h3 u (by rw [h1]; exact hu)
end Nv

namespace Nv
open PySem PySem.Spec PyProof.Rows L2

/-! data whose outermost list may stand anywhere -/
inductive DR (H : Hp) : V → PyData → Prop
  | dv {v : V} {d : PyData} : DV H v d → DR H v d
  | raw {a : Addr} {xs : List V} {ds : List PyData} : H a = some (.lst xs) → DVs H xs ds → DR H (.ref a) (.list ds)
inductive DRs (H : Hp) : List V → List PyData → Prop
  | nil : DRs H [] []
  | cons {v : V} {vs : List V} {d : PyData} {ds : List PyData} : DR H v d → DRs H vs ds → DRs H (v :: vs) (d :: ds)
theorem DR.mono {H H' : Hp} (e : ∀ a o, H a = some o → H' a = some o) {v : V} {d : PyData} : DR H v d → DR H' v d
  | .dv h => .dv (h.mono e)
  | .raw h r => .raw (e _ _ h) (r.mono e)
theorem DRs.mono {H H' : Hp} (e : ∀ a o, H a = some o → H' a = some o) : ∀ {vs : List V} {ds : List PyData}, DRs H vs ds → DRs H' vs ds
  | _, _, .nil => .nil
  | _, _, .cons a r => .cons (a.mono e) (r.mono e)
theorem DR.ty {K : PySem.W.Frag} {H : Hp} {v : V} {d : PyData} : DR H v d → TyX K H v (.type (tyName d))
  | .dv h => h.ty
  | .raw h r => .base (.lst h)
section
variable {X : Cx} {pins : List (Addr × Obj)} {σ : L2.St} {H : Hp} {s : Shared}
/-- what repr wants of a value -/
def RepK (X : Cx) (s : Shared) (u : Value) (d : PyData) : Prop := ∃ as bs, Reads s.heap u d as ∧ ReadAtMost s.heap d.depth bs ∧ ReprK X.prog X.w bs s.heap d.depth u d.shown
theorem DR.reads (I : Inv X pins σ H s) {v : V} {d : PyData} {u : Value} (h : DR H v d) (r : RelV v u) : ∃ as, Reads s.heap u d as := by
  cases h with
  | dv h =>
    obtain ⟨as, h, _⟩ := h.reads I r
    exact ⟨as, h⟩
  | @raw a xs ds ha hd =>
    cases (show u = Value.ref a from r)
    obtain ⟨_, its, m, rv, e⟩ := (show ObjOk X.prog X.w H s.heap a (.lst xs) from I.hok a _ ha)
    obtain ⟨as, ra, na⟩ := DVs.reads I hd rv
    exact ⟨_, .list e rfl rfl ra⟩
theorem DR.rep (I : Inv X pins σ H s) {v : V} {d : PyData} {u : Value} (h : DR H v d) (r : RelV v u) (hs : d.showable = true) (hz : d.shown.length ≤ sizeLine) : RepK X s u d := by
  cases h with
  | dv h =>
    obtain ⟨as, h, na⟩ := h.reads I r
    obtain ⟨bs, h1, h2⟩ := ReprK.of_reads (prog := X.prog) (w := X.w) h hs (fun _ => na) hz
    exact ⟨as, bs, h, h1, h2⟩
  | @raw a xs ds ha hd =>
    cases (show u = Value.ref a from r)
    obtain ⟨_, its, m, rv, e⟩ := (show ObjOk X.prog X.w H s.heap a (.lst xs) from I.hok a _ ha)
    obtain ⟨as, ra, na⟩ := DVs.reads I hd rv
    have sz : (listText (PyData.shownAll ds)).length ≤ sizeLine := by simpa only [PyData.shown] using hz
    obtain ⟨bs, deep, parts⟩ := ReprAllK.of_readsAll (prog := X.prog) (w := X.w) ra (by simpa only [PyData.showable] using hs) (fun _ => na)
      (fun t ht => Nat.le_trans (listText_mem_le ht) sz)
    have rd : Reads s.heap (.ref a) (.list ds) _ := .list e rfl rfl ra
    have dp : (PyData.list ds).depth = PyData.depthAll ds + 1 := by simp only [PyData.depth]
    have apart : a ∉ bs := not_mem_of_deeper rd (by omega) deep
    refine ⟨_, a :: bs, rd, ?_, ?_⟩
    · intro b hb
      rcases List.mem_cons.mp hb with rfl | hb
      · exact ⟨_, _, rd, Nat.le_refl _⟩
      · obtain ⟨d, as, h1, h2⟩ := deep b hb
        exact ⟨d, as, h1, by omega⟩
    · cases its with
      | nil =>
        cases ra
        have : ReprK X.prog X.w bs s.heap (PyData.list []).depth (.ref a) (PyData.list []).shown := ReprK.listEmpty e rfl rfl
        exact this.more fun b hb => by simp [hb]
      | cons x l =>
        have := ReprK.list (x := x) (l := l) e rfl rfl apart (by simpa using parts.length_eq) (fun i y z => parts.item i y (by simpa using z))
        simpa only [PyData.shown, dp] using this
theorem DRs.rep (I : Inv X pins σ H s) : ∀ {vs : List V} {ds : List PyData} {us : List Value}, DRs H vs ds → Vals vs us → PyData.showableAll ds = true → (∀ t ∈ PyData.shownAll ds, t.length ≤ sizeLine) →
    ∃ as bs, ReadsAll s.heap us ds as ∧ ReadAtMost s.heap (PyData.depthAll ds) bs ∧ ReprAllK X.prog X.w bs s.heap (PyData.depthAll ds) us (PyData.shownAll ds)
  | _, _, us, .nil, r, _, _ => by
    cases r
    exact ⟨[], [], .nil, fun b hb => by simp at hb, .nil⟩
  | _, _, us, @DRs.cons _ v vs d ds a q, r, hs, hz => by
    cases r with
    | cons r1 r2 =>
      simp only [PyData.showableAll, Bool.and_eq_true] at hs
      obtain ⟨as1, bs1, h1, h2, h3⟩ := a.rep I r1 hs.1 (hz _ (by simp [PyData.shownAll]))
      obtain ⟨as2, bs2, g1, g2, g3⟩ := DRs.rep I q r2 hs.2 (fun t ht => hz t (by simp [PyData.shownAll, ht]))
      have m1 : d.depth ≤ PyData.depthAll (d :: ds) := by simp only [PyData.depthAll]; omega
      have m2 : PyData.depthAll ds ≤ PyData.depthAll (d :: ds) := by simp only [PyData.depthAll]; omega
      refine ⟨_, bs1 ++ bs2, .cons h1 g1, ?_, ?_⟩
      · intro b hb
        rcases List.mem_append.mp hb with hb | hb
        · obtain ⟨d', as, z1, z2⟩ := h2 b hb
          exact ⟨d', as, z1, by omega⟩
        · obtain ⟨d', as, z1, z2⟩ := g2 b hb
          exact ⟨d', as, z1, by omega⟩
      · simp only [PyData.shownAll]
        exact .cons ((h3.level_le m1).more fun b hb => by simp [hb]) (g3.more_le (fun b hb => by simp [hb]) m2)
end
/-- repr of a list of such data, the list itself anywhere -/
def rReprR : List V → Hp → VK → Prop := fun xs H Q => ∃ (a : Addr) (ys : List V) (ds : List PyData), xs = [.ref a] ∧ H a = some (.lst ys) ∧ DRs H ys ds ∧
  (PyData.list ds).showable = true ∧ (PyData.list ds).depth ≤ 60 ∧ (PyData.list ds).shown.length ≤ sizeLine ∧ Q (.str (PyData.list ds).shown) H
theorem call_reprR {X : Cx} (hG : X.A.guards = some []) (hu : X.A.units + 64 < cLine) : CallR X (.builtin "repr") rReprR := by
  intro pins s σ H xs us Q I r h
  obtain ⟨a, ys, ds, rfl, ha, hd, hs, hp, hz, q⟩ := h
  obtain ⟨u, rfl, rx⟩ := vals1 r
  cases (show u = Value.ref a from rx)
  obtain ⟨_, its, m, rv, e⟩ := (show ObjOk X.prog X.w H s.heap a (.lst ys) from I.hok a _ ha)
  have sz : (listText (PyData.shownAll ds)).length ≤ sizeLine := by simpa only [PyData.shown] using hz
  obtain ⟨as, bs, ra, deep, parts⟩ := DRs.rep I hd rv (by simpa only [PyData.showable] using hs) (fun t ht => Nat.le_trans (listText_mem_le ht) sz)
  have apart : a ∉ bs := not_mem_of_deeper (.list e rfl rfl ra) (by simp only [PyData.depth]; omega) deep
  have dp : (PyData.list ds).depth = PyData.depthAll ds + 1 := by simp only [PyData.depth]
  have fin : ∀ (h' : Heap) (t : Tok) (k : Nat), (∀ b o, s.heap.get? b = some o → h'.get? b = some o) → EP X pins σ Q (.str (PyData.list ds).shown t) { s with heap := h', toks := k } :=
    fun h' t k keep => ⟨.str (PyData.list ds).shown, H, I.kept keep, ⟨t, rfl⟩, q⟩
  refine call_repr_slot (by omega) (show s.TypeIs (.ref a) "list" from ⟨_, e, rfl⟩) F.slot_list_repr.toG ?_
  cases its with
  | nil =>
    cases ra
    have : EP X pins σ Q (.str "[]" s.toks) { s with toks := s.toks + 1 } := by
      have z := fin s.heap s.toks (s.toks + 1) fun _ _ w => w
      simpa only [PyData.shown, PyData.shownAll, listText_nil] using z
    exact call_list_repr_empty ⟨_, e, rfl⟩ e rfl ⟨_, _, rfl, this⟩
  | cons x l =>
    refine call_list_reprK e rfl rfl apart (by simpa using parts.length_eq) (fun i y z => parts.item i y (by simpa using z)) hG (fun b _ => Clear.nil b) (by show X.A.units + 1 + _ < cLine; omega) (fun _ _ z => z) (fun h' t k keep => ⟨_, _, rfl, ?_⟩) sz
    have z := fin h' t k keep
    simpa only [PyData.shown] using z
def rReprAR : List V → Hp → VK → Prop := fun xs H Q => rReprR xs H Q ∨ rReprA xs H Q
theorem call_reprAR {X : Cx} (hG : X.A.guards = some []) (hu : X.A.units + 64 < cLine) : CallR X (.builtin "repr") rReprAR := CallR.or (call_reprR hG hu) (call_reprA hG hu)
end Nv

namespace Nv
open PySem PySem.Spec PyProof.Rows L2

/-! zip of a tuple and a list -/
/-- what is walked at it: a list or a tuple at l of the items xs, k of them taken -/
inductive ItA (h : Heap) (it l : Addr) (k : Nat) (xs : Array Value) : Prop
  | lst (i : h.IsListIter it l k) (s : h.IsList l xs) : ItA h it l k xs
  | tup (i : h.IsTupleIter it l k) (s : h.IsTuple l xs) : ItA h it l k xs
theorem ItA.ext {h h' : Heap} {b it l : Addr} {k : Nat} {xs : Array Value} (x : ItA h it l k xs) (e : Heap.ExtBut b h h') (n1 : it ≠ b) (n2 : l ≠ b) : ItA h' it l k xs := by
  cases x with
  | lst i s => exact .lst (i.extBut e n1) (s.extBut e n2)
  | tup i s => exact .tup (i.extBut e n1) (s.extBut e n2)
section
variable {prog : Program} {w : World} {A : Around} {E : Value → Shared → Prop} {s : Shared}
theorem ItA.next {it l : Addr} {k : Nat} {xs : Array Value} {x : Value} {Q : Value → Shared → Prop} (i : ItA s.heap it l k xs) (n : l ≠ it) (hx : xs[k]? = some x)
    (q : ∀ h', ItA h' it l (k + 1) xs → Heap.SameBut it s.heap h' → Q x { s with heap := h' }) : wpAny (model prog w) A (Builtin.SmallTypes.nextOf (.ref it)) Q E s := by
  cases i with
  | lst i s => exact wpAny_nextOf_list_item i s hx fun h' i' e => q h' (.lst i' (s.extBut e.extBut n)) e
  | tup i s => exact RZ.nextOf_tuple_item i s hx fun h' i' e => q h' (.tup i' (s.extBut e.extBut n)) e
theorem ItA.stop {it l : Addr} {k : Nat} {xs : Array Value} {Q : Value → Shared → Prop} (hh : A.handled = none) (i : ItA s.heap it l k xs) (hx : xs[k]? = none)
    (q : ∀ h' e, Heap.ExtBut it s.heap h' → (∃ o, h'.get? e = some o ∧ o.cls = .type "StopIteration") → E (.ref e) { s with heap := h' }) : wpAny (model prog w) A (Builtin.SmallTypes.nextOf (.ref it)) Q E s := by
  cases i with
  | lst i s => exact wpAny_nextOf_list_end hh i s hx q
  | tup i s => exact RZ.nextOf_tuple_end hh i s hx q

theorem zipN_item {z TI TO i1 i2 l1 l2 : Addr} {k1 k2 : Nat} {xs ys : Array Value} {x y a b : Value} {Q : Value → Shared → Prop} (D : ZipApart z TI TO i1 i2 l1 l2)
    (hz : IsZip s.heap z TI TO .none) (hTI : IsPair s.heap TI (.ref i1) (.ref i2)) (hTO : IsPair s.heap TO a b)
    (h1 : ItA s.heap i1 l1 k1 xs) (h2 : ItA s.heap i2 l2 k2 ys) (hx : xs[k1]? = some x) (hy : ys[k2]? = some y)
    (hQ : ∀ h', IsZip h' z TI TO (rawInt s.heap.objs.size) → IsPair h' TO x y → ItA h' i1 l1 (k1 + 1) xs → ItA h' i2 l2 (k2 + 1) ys → IsPair h' s.heap.objs.size x y → h'.objs.size = s.heap.objs.size + 1 →
      (∀ c o, c ≠ z → c ≠ TO → c ≠ i1 → c ≠ i2 → s.heap.get? c = some o → h'.get? c = some o) → Q (.ref s.heap.objs.size) { s with heap := h' }) :
    wpAny (model prog w) A (Builtin.«zip.__next__» ⟨[.ref z], []⟩) (fun fin s' => ∃ v, fin = .done (.ret v) ∧ Q v s') E s := by
  have f2 : ∀ {R : Value → Shared → Prop}, R (.bool false) s → wpAny (model prog w) A (field (.ref z) 2) R E s := fun q => wpAny_field hz rfl (x := .bool false) rfl q
  have f3 : ∀ {R : Value → Shared → Prop}, R (.ref TI) s → wpAny (model prog w) A (field (.ref z) 3) R E s := fun q => wpAny_field hz rfl (x := .ref TI) rfl q
  show wpAny _ _ (field (.ref z) 2 >>= _) _ _ _
  refine wpAny_bind (f2 ?_)
  show wpAny _ _ (field (.ref z) 3 >>= _) _ _ _
  refine wpAny_bind (f3 ?_)
  refine wpAny_bind (wpAny_seqItems hTI rfl ?_)
  show wpAny _ _ (Builtin.SmallTypes.ownedTupleIsFree (.ref z) >>= _) _ _ _
  refine wpAny_bind ?_
  unfold Builtin.SmallTypes.ownedTupleIsFree
  refine wpAny_bind (wpAny_field hz rfl (x := .none) rfl (wpAny_pure ?_))
  simp only [if_true]
  refine wpAny_bind (wpAny_rule (wpAny_bind (wpAny_field hz rfl (x := .ref TO) rfl ?_)))
  refine wpAny_bind (wpAny_setField_rec hz (by simp) fun g1 zz e1 => wpAny_bind ?_)
  replace zz : IsZip g1 z TI TO .ellipsis := zz
  simp only [List.zipIdx_cons, List.zipIdx_nil, List.forIn_cons, List.forIn_nil]
  -- the first one
  refine wpAny_bind (wpAny_bind (wpAny_onRaise ?_))
  show wpAny _ _ (Builtin.SmallTypes.nextOf (.ref i1) >>= _) _ _ _
  refine wpAny_bind ((h1.ext e1.extBut D.i1z D.l1z).next D.l1i1 hx fun g2 j1 e2 => wpAny_pure ?_)
  have t2 : IsPair g2 TO a b := e2.extBut _ _ D.TOi1 (e1.extBut _ _ D.TOz hTO)
  refine wpAny_bind (wpAny_seqItems t2 rfl (wpAny_bind (wpAny_updateSeq_pair t2 fun g3 t3 e3 => ?_)))
  replace t3 : IsPair g3 TO x b := t3
  refine wpAny_bind (wpAny_letGo (wpAny_pure ?_))
  -- the second one
  refine wpAny_bind (wpAny_bind (wpAny_onRaise ?_))
  show wpAny _ _ (Builtin.SmallTypes.nextOf (.ref i2) >>= _) _ _ _
  refine wpAny_bind ((((h2.ext e1.extBut D.i2z D.l2z).ext e2.extBut D.i12.symm D.l2i1).ext e3.extBut D.TOi2.symm D.l2TO).next D.l2i2 hy fun g4 j2 e4 => wpAny_pure ?_)
  have t4 : IsPair g4 TO x b := e4.extBut _ _ D.TOi2 t3
  refine wpAny_bind (wpAny_seqItems t4 rfl (wpAny_bind (wpAny_updateSeq_pair t4 fun g5 t5 e5 => ?_)))
  replace t5 : IsPair g5 TO x y := t5
  refine wpAny_bind (wpAny_letGo (wpAny_pure (wpAny_pure ?_)))
  refine wpAny_bind (wpAny_seqItems t5 rfl (wpAny_bind (wpAny_newTuple ?_)))
  have sz : g5.objs.size = s.heap.objs.size := by rw [e5.1, e4.1, e3.1, e2.1, e1.1]
  have z5 : IsZip g5 z TI TO .ellipsis := e5.extBut _ _ D.TOz.symm (e4.extBut _ _ D.i2z.symm (e3.extBut _ _ D.TOz.symm (e2.extBut _ _ D.i1z.symm zz)))
  have k5 : ∀ c o, c ≠ z → c ≠ TO → c ≠ i1 → c ≠ i2 → s.heap.get? c = some o → g5.get? c = some o := fun c o c1 c2 c3 c4 e =>
    e5.extBut _ _ c2 (e4.extBut _ _ c4 (e3.extBut _ _ c2 (e2.extBut _ _ c3 (e1.extBut _ _ c1 e))))
  have a1 := ((j1.ext e3.extBut D.TOi1.symm D.l1TO).ext e4.extBut D.i12 D.l1i2).ext e5.extBut D.TOi1.symm D.l1TO
  have a2 := j2.ext e5.extBut D.TOi2.symm D.l2TO
  have zlt : z < g5.objs.size := Heap.lt_size z5
  show wpAny _ _ (Builtin.SmallTypes.ownedTupleHandOut (.ref z) (.ref g5.objs.size) >>= _) _ _ _
  refine wpAny_bind ?_
  unfold Builtin.SmallTypes.ownedTupleHandOut
  have z6 : IsZip (g5.push { cls := .type "tuple", data := .seq #[x, y] }) z TI TO .ellipsis := Heap.get?_push_of_some _ z5
  refine wpAny_bind (wpAny_setField_rec z6 (by simp) fun g7 z7 e7 => ?_)
  replace z7 : IsZip g7 z TI TO (rawInt g5.objs.size) := z7
  refine wpAny_setField_rec z7 (by simp) fun g8 z8 e8 => ?_
  replace z8 : IsZip g8 z TI TO (rawInt g5.objs.size) := z8
  have up : Heap.ExtBut z g5 g8 := fun c o c1 e => e8.extBut _ _ c1 (e7.extBut _ _ c1 (Heap.get?_push_of_some _ e))
  have p8 : IsPair g8 g5.objs.size x y := e8.extBut _ _ (Nat.ne_of_gt zlt) (e7.extBut _ _ (Nat.ne_of_gt zlt) (Heap.get?_push_size _ rfl))
  have s8 : g8.objs.size = g5.objs.size + 1 := by rw [e8.1, e7.1, Heap.size_push]
  rw [sz] at z8 p8 s8
  refine wpAny_pure ⟨_, rfl, ?_⟩
  show Q (.ref g5.objs.size) _
  rw [sz]
  exact hQ g8 z8 (up _ _ D.TOz t5) (a1.ext up D.i1z D.l1z) (a2.ext up D.i2z D.l2z) p8 s8 fun c o c1 c2 c3 c4 e => up c o c1 (k5 c o c1 c2 c3 c4 e)
theorem zipN_end {z TI TO i1 i2 l1 l2 : Addr} {k1 k2 : Nat} {xs ys : Array Value} {a b : Value} {Q : Fin → Shared → Prop} (hh : A.handled = none) (D : ZipApart z TI TO i1 i2 l1 l2)
    (hz : IsZip s.heap z TI TO .none) (hTI : IsPair s.heap TI (.ref i1) (.ref i2)) (hTO : IsPair s.heap TO a b)
    (h1 : ItA s.heap i1 l1 k1 xs) (h2 : ItA s.heap i2 l2 k2 ys) (hend : xs[k1]? = none ∨ ys[k2]? = none)
    (hE : ∀ h' e, (∀ c o, c ≠ z → c ≠ TO → c ≠ i1 → c ≠ i2 → s.heap.get? c = some o → h'.get? c = some o) → (∃ o, h'.get? e = some o ∧ o.cls = .type "StopIteration") → E (.ref e) { s with heap := h' }) :
    wpAny (model prog w) A (Builtin.«zip.__next__» ⟨[.ref z], []⟩) Q E s := by
  have f2 : ∀ {R : Value → Shared → Prop}, R (.bool false) s → wpAny (model prog w) A (field (.ref z) 2) R E s := fun q => wpAny_field hz rfl (x := .bool false) rfl q
  have f3 : ∀ {R : Value → Shared → Prop}, R (.ref TI) s → wpAny (model prog w) A (field (.ref z) 3) R E s := fun q => wpAny_field hz rfl (x := .ref TI) rfl q
  show wpAny _ _ (field (.ref z) 2 >>= _) _ _ _
  refine wpAny_bind (f2 ?_)
  show wpAny _ _ (field (.ref z) 3 >>= _) _ _ _
  refine wpAny_bind (f3 ?_)
  refine wpAny_bind (wpAny_seqItems hTI rfl ?_)
  show wpAny _ _ (Builtin.SmallTypes.ownedTupleIsFree (.ref z) >>= _) _ _ _
  refine wpAny_bind ?_
  unfold Builtin.SmallTypes.ownedTupleIsFree
  refine wpAny_bind (wpAny_field hz rfl (x := .none) rfl (wpAny_pure ?_))
  simp only [if_true]
  refine wpAny_bind (wpAny_rule (wpAny_bind (wpAny_field hz rfl (x := .ref TO) rfl ?_)))
  refine wpAny_bind (wpAny_setField_rec hz (by simp) fun g1 zz e1 => wpAny_bind ?_)
  replace zz : IsZip g1 z TI TO .ellipsis := zz
  simp only [List.zipIdx_cons, List.zipIdx_nil, List.forIn_cons, List.forIn_nil]
  refine wpAny_bind (wpAny_bind (wpAny_onRaise ?_))
  show wpAny _ _ (Builtin.SmallTypes.nextOf (.ref i1) >>= _) _ _ _
  -- the exception, set down in the zip
  have out : ∀ (g e : _), IsZip g z TI TO .ellipsis → (∃ o, g.get? e = some o ∧ o.cls = .type "StopIteration") → ∃ o, g.get? e = some o ∧ o.cls = .type "StopIteration" ∧ e ≠ z := fun g e zg ⟨o, ho, hc⟩ =>
    ⟨o, ho, hc, fun q => by
      subst q
      rw [zg] at ho
      cases ho
      simp at hc⟩
  cases hx : xs[k1]? with
  | none =>
    refine wpAny_bind ((h1.ext e1.extBut D.i1z D.l1z).stop hh hx fun g2 e e2 he => ?_)
    have z2 : IsZip g2 z TI TO .ellipsis := e2 _ _ D.i1z.symm zz
    obtain ⟨o, ho, hc, nz⟩ := out g2 e z2 he
    exact wpAny_setField_rec z2 (by simp) fun g3 _ e3 => hE g3 e (fun c o c1 _ c3 _ x => e3.extBut _ _ c1 (e2 _ _ c3 (e1.extBut _ _ c1 x))) ⟨o, e3.extBut _ _ nz ho, hc⟩
  | some x =>
    have hy : ys[k2]? = none := by
      rcases hend with h | h
      · rw [hx] at h
        cases h
      · exact h
    refine wpAny_bind ((h1.ext e1.extBut D.i1z D.l1z).next D.l1i1 hx fun g2 j1 e2 => wpAny_pure ?_)
    have t2 : IsPair g2 TO a b := e2.extBut _ _ D.TOi1 (e1.extBut _ _ D.TOz hTO)
    refine wpAny_bind (wpAny_seqItems t2 rfl (wpAny_bind (wpAny_updateSeq_pair t2 fun g3 t3 e3 => ?_)))
    refine wpAny_bind (wpAny_letGo (wpAny_pure ?_))
    refine wpAny_bind (wpAny_bind (wpAny_onRaise ?_))
    show wpAny _ _ (Builtin.SmallTypes.nextOf (.ref i2) >>= _) _ _ _
    refine wpAny_bind ((((h2.ext e1.extBut D.i2z D.l2z).ext e2.extBut D.i12.symm D.l2i1).ext e3.extBut D.TOi2.symm D.l2TO).stop hh hy fun g4 e e4 he => ?_)
    have z4 : IsZip g4 z TI TO .ellipsis := e4 _ _ D.i2z.symm (e3.extBut _ _ D.TOz.symm (e2.extBut _ _ D.i1z.symm zz))
    obtain ⟨o, ho, hc, nz⟩ := out g4 e z4 he
    exact wpAny_setField_rec z4 (by simp) fun g5 _ e5 => hE g5 e (fun c o c1 c2 c3 c4 x => e5.extBut _ _ c1 (e4 _ _ c4 (e3.extBut _ _ c2 (e2.extBut _ _ c3 (e1.extBut _ _ c1 x))))) ⟨o, e5.extBut _ _ nz ho, hc⟩

theorem nextZ_item {z TI TO i1 i2 l1 l2 : Addr} {k1 k2 : Nat} {xs ys : Array Value} {x y a b : Value} {Q : Option Value → Shared → Prop} (D : ZipApart z TI TO i1 i2 l1 l2)
    (hz : IsZip s.heap z TI TO .none) (hTI : IsPair s.heap TI (.ref i1) (.ref i2)) (hTO : IsPair s.heap TO a b)
    (h1 : ItA s.heap i1 l1 k1 xs) (h2 : ItA s.heap i2 l2 k2 ys) (hx : xs[k1]? = some x) (hy : ys[k2]? = some y)
    (hQ : ∀ h', IsZip h' z TI TO (rawInt s.heap.objs.size) → IsPair h' TO x y → ItA h' i1 l1 (k1 + 1) xs → ItA h' i2 l2 (k2 + 1) ys → IsPair h' s.heap.objs.size x y → h'.objs.size = s.heap.objs.size + 1 →
      (∀ c o, c ≠ z → c ≠ TO → c ≠ i1 → c ≠ i2 → s.heap.get? c = some o → h'.get? c = some o) → Q (some (.ref s.heap.objs.size)) { s with heap := h' }) :
    wpAny (model prog w) A (pyNext (.ref z)) Q E s := by
  have T : s.TypeIs (.ref z) "zip" := ⟨_, hz, rfl⟩
  unfold pyNext
  have step := zipN_item (prog := prog) (w := w) (A := A.in1) (E := E) (Q := fun v s' => Q (some v) s') D hz hTI hTO h1 h2 hx hy fun h' a1 a2 a3 a4 a5 a6 a7 => hQ h' a1 a2 a3 a4 a5 a6 a7
  refine wpAny_bind (wpAny_attempt (wpAny_callSpecial?_slot (name := Str.ofString "__next__") T F.slot_zip_next (wpAny_call_entry F.slot_zip_next T F.entry_zip_next ?_ (F.args_zip_next_1 _))))
  exact zipN_item D hz hTI hTO h1 h2 hx hy fun h' a1 a2 a3 a4 a5 a6 a7 => wpAny_pure (hQ h' a1 a2 a3 a4 a5 a6 a7)
theorem nextZ_end {z TI TO i1 i2 l1 l2 : Addr} {k1 k2 : Nat} {xs ys : Array Value} {a b : Value} {Q : Option Value → Shared → Prop} (hh : A.handled = none) (D : ZipApart z TI TO i1 i2 l1 l2)
    (hz : IsZip s.heap z TI TO .none) (hTI : IsPair s.heap TI (.ref i1) (.ref i2)) (hTO : IsPair s.heap TO a b)
    (h1 : ItA s.heap i1 l1 k1 xs) (h2 : ItA s.heap i2 l2 k2 ys) (hend : xs[k1]? = none ∨ ys[k2]? = none)
    (hQ : ∀ h', (∀ c o, c ≠ z → c ≠ TO → c ≠ i1 → c ≠ i2 → s.heap.get? c = some o → h'.get? c = some o) → Q none { s with heap := h' }) : wpAny (model prog w) A (pyNext (.ref z)) Q E s := by
  have T : s.TypeIs (.ref z) "zip" := ⟨_, hz, rfl⟩
  unfold pyNext
  refine wpAny_bind (wpAny_attempt (wpAny_callSpecial?_slot (name := Str.ofString "__next__") T F.slot_zip_next (wpAny_call_entry F.slot_zip_next T F.entry_zip_next ?_ (F.args_zip_next_1 _))))
  refine zipN_end hh D hz hTI hTO h1 h2 hend fun h' e hk ⟨o, ho, hc⟩ => ?_
  exact wpAny_bind (wpAny_isInstance (T := "StopIteration") (b := true) ⟨o, ho, hc⟩ isSubtype_stop (wpAny_pure (hQ _ hk)))
/-- zip(a tuple, a list) -/
def zmA (h : Heap) (l1 : Addr) : Heap := h.push { cls := .type "tuple_iterator", data := .fields #[.ref l1, .int 0 0] }
def zmB (h : Heap) (l1 l2 : Addr) : Heap := (zmA h l1).push { cls := .type "list_iterator", data := .fields #[.ref l2, .int 0 0] }
def zmC (h : Heap) (l1 l2 : Addr) : Heap := (zmB h l1 l2).push { cls := .type "tuple", data := .seq #[.ref h.objs.size, .ref (zmA h l1).objs.size] }
def zmD (h : Heap) (l1 l2 : Addr) : Heap := (zmC h l1 l2).push { cls := .type "tuple", data := .seq #[.none, .none] }
def zmE (h : Heap) (l1 l2 : Addr) : Heap := (zmD h l1 l2).push { cls := .type "zip", data := .fields #[.none, .bool false, .bool false, .ref (zmB h l1 l2).objs.size, .ref (zmC h l1 l2).objs.size] }
theorem zip_mixed (l1 l2 : Addr) (xs ys : Array Value) :
    Meets (Builtin.«zip.__new__» ⟨[.type "zip", .ref l1, .ref l2], []⟩) (fun _ R s => s.heap.IsTuple l1 xs ∧ s.heap.IsList l2 ys ∧ R (.ok (.ret (.ref (zmD s.heap l1 l2).objs.size))) { s with heap := zmE s.heap l1 l2 }) :=
  .of_wp fun prog w A R s h => by
    obtain ⟨hp, g, d, tk, os⟩ := s
    obtain ⟨t1, t2, h⟩ := h
    have sub := sub_zip
    have t1' : Heap.IsTuple (Shared.heap ⟨hp, g, d, tk, os⟩) l1 xs := t1
    have t2' : Heap.IsList (Shared.heap ⟨hp.push { cls := .type "tuple_iterator", data := .fields #[.ref l1, .int 0 0] }, g, d, tk, os⟩) l2 ys := by
      obtain ⟨o, e, r⟩ := t2
      exact ⟨o, Heap.get?_push_of_some _ e, r⟩
    wp_walk using wpAny_pyIter_tuple t1', wpAny_pyIter_list t2'
    exact ⟨_, rfl, h⟩

theorem call_zipM {l1 l2 : Addr} {xs ys : Array Value} {Q : Value → Shared → Prop} (t1 : s.heap.IsTuple l1 xs) (t2 : s.heap.IsList l2 ys)
    (h : ∀ h', IsZip h' (s.heap.objs.size + 4) (s.heap.objs.size + 2) (s.heap.objs.size + 3) .none → IsPair h' (s.heap.objs.size + 2) (.ref s.heap.objs.size) (.ref (s.heap.objs.size + 1)) →
      IsPair h' (s.heap.objs.size + 3) .none .none → ItA h' s.heap.objs.size l1 0 xs → ItA h' (s.heap.objs.size + 1) l2 0 ys →
      (∀ c o, s.heap.get? c = some o → h'.get? c = some o) → Q (.ref (s.heap.objs.size + 4)) { s with heap := h' }) :
    wpAny (model prog w) A (call (.type "zip") [.ref l1, .ref l2]) Q E s := by
  refine callType_new F.called_zip (by decide) (F.typeCall_zip_2 _ _) (F.newCall_zip_2 _ _) (fun obj => F.args_object_init_3 obj _ _) F.entry_zip_new (zip_mixed l1 l2 xs ys) ⟨t1, t2, ?_⟩
  have zA : (zmA s.heap l1).objs.size = s.heap.objs.size + 1 := Heap.size_push ..
  have zB : (zmB s.heap l1 l2).objs.size = s.heap.objs.size + 2 := by unfold zmB; rw [Heap.size_push, zA]
  have zC : (zmC s.heap l1 l2).objs.size = s.heap.objs.size + 3 := by unfold zmC; rw [Heap.size_push, zB]
  have zD : (zmD s.heap l1 l2).objs.size = s.heap.objs.size + 4 := by unfold zmD; rw [Heap.size_push, zC]
  have uA : ∀ c o, s.heap.get? c = some o → (zmA s.heap l1).get? c = some o := fun c o e => Heap.get?_push_of_some _ e
  have uB : ∀ c o, (zmA s.heap l1).get? c = some o → (zmB s.heap l1 l2).get? c = some o := fun c o e => Heap.get?_push_of_some _ e
  have uC : ∀ c o, (zmB s.heap l1 l2).get? c = some o → (zmC s.heap l1 l2).get? c = some o := fun c o e => Heap.get?_push_of_some _ e
  have uD : ∀ c o, (zmC s.heap l1 l2).get? c = some o → (zmD s.heap l1 l2).get? c = some o := fun c o e => Heap.get?_push_of_some _ e
  have uE : ∀ c o, (zmD s.heap l1 l2).get? c = some o → (zmE s.heap l1 l2).get? c = some o := fun c o e => Heap.get?_push_of_some _ e
  have gA : (zmA s.heap l1).get? s.heap.objs.size = some _ := Heap.get?_push_size _ rfl
  have gB : (zmB s.heap l1 l2).get? (zmA s.heap l1).objs.size = some _ := Heap.get?_push_size _ rfl
  have gC : (zmC s.heap l1 l2).get? (zmB s.heap l1 l2).objs.size = some _ := Heap.get?_push_size _ rfl
  have gD : (zmD s.heap l1 l2).get? (zmC s.heap l1 l2).objs.size = some _ := Heap.get?_push_size _ rfl
  have gE : (zmE s.heap l1 l2).get? (zmD s.heap l1 l2).objs.size = some _ := Heap.get?_push_size _ rfl
  rw [zD, zB, zC] at gE
  rw [zC] at gD
  rw [zB, zA] at gC
  rw [zA] at gB
  have keep : ∀ c o, s.heap.get? c = some o → (zmE s.heap l1 l2).get? c = some o := fun c o e => uE _ _ (uD _ _ (uC _ _ (uB _ _ (uA _ _ e))))
  show _ ∧ _
  rw [zD]
  refine ⟨⟨_, gE, rfl⟩, h _ gE (uE _ _ (uD _ _ gC)) (uE _ _ gD) (.tup ⟨_, uE _ _ (uD _ _ (uC _ _ (uB _ _ gA))), rfl, rfl⟩ ?_) (.lst ⟨_, uE _ _ (uD _ _ (uC _ _ gB)), rfl, rfl⟩ ?_) keep⟩
  · obtain ⟨o, e, r⟩ := t1
    exact ⟨o, keep _ _ e, r⟩
  · obtain ⟨o, e, r⟩ := t2
    exact ⟨o, keep _ _ e, r⟩
end
/-- the tuple at a and the list at b as they stand at each turn -/
def ItzM (K : PySem.W.Frag) (a b : Addr) : It :=
  ⟨fun i H => ∃ (xs ys : List V) (x y : V), SqT K H a xs ∧ SqL K H b ys ∧ xs[i]? = some x ∧ ys[i]? = some y,
    fun i H v H' => ∃ T x y, v = .ref T ∧ H T = none ∧ H' = upd H T (.tup [x, y]) ∧ (∀ xs, SqT K H a xs → xs[i]? = some x) ∧ ∀ ys, SqL K H b ys → ys[i]? = some y,
    fun i H => ∃ xs ys : List V, SqT K H a xs ∧ SqL K H b ys ∧ (xs.length ≤ i ∨ ys.length ≤ i)⟩
theorem ItA.keep {h h' : Heap} {it l : Addr} {k : Nat} {xs : Array Value} (x : ItA h it l k xs) (e1 : ∀ o, h.get? it = some o → h'.get? it = some o) (e2 : ∀ o, h.get? l = some o → h'.get? l = some o) : ItA h' it l k xs := by
  cases x with
  | lst i s =>
    obtain ⟨o, e, r⟩ := s
    exact .lst (i.at e1) ⟨o, e2 _ e, r⟩
  | tup i s =>
    obtain ⟨o, e, r⟩ := s
    exact .tup (i.at e1) ⟨o, e2 _ e, r⟩
theorem five {c z TI TO i1 i2 : Addr} (h : c ∈ [z, TI, TO, i1, i2]) : c = z ∨ c = TI ∨ c = TO ∨ c = i1 ∨ c = i2 := by simpa using h
theorem turn_zipM {P : Program} {w : World} {K : PySem.W.Frag} {elts : List Expr} {kk : Nat} {tpos : Pos} {a b z TI TO i1 i2 : Addr} (D : ZipApart z TI TO i1 i2 a b) :
    Turn P w K (.Tuple elts kk tpos) (ItzM K a b) [z, TI, TO, i1, i2] z (fun i h => IsZip h z TI TO .none ∧ IsPair h TI (.ref i1) (.ref i2) ∧ (∃ x y, IsPair h TO x y) ∧ h.IsTupleIter i1 a i ∧ h.IsListIter i2 b i) where
  mem := by simp
  obj := fun i h st c hc => by
    obtain ⟨hz, hTI, ⟨x, y, hTO⟩, ⟨o1, e1, _, d1⟩, ⟨o2, e2, _, d2⟩⟩ := st
    rcases five hc with rfl | rfl | rfl | rfl | rfl
    · exact ⟨_, hz, fun v q => nomatch q⟩
    · exact ⟨_, hTI, fun v q => nomatch q⟩
    · exact ⟨_, hTO, fun v q => nomatch q⟩
    · exact ⟨o1, e1, fun v q => by rw [d1] at q; cases q⟩
    · exact ⟨o2, e2, fun v q => by rw [d2] at q; cases q⟩
  keep := fun i h h' st k => by
    obtain ⟨hz, hTI, ⟨x, y, hTO⟩, h1, h2⟩ := st
    exact ⟨k z (by simp) _ hz, k TI (by simp) _ hTI, ⟨x, y, k TO (by simp) _ hTO⟩, h1.at fun o q => k i1 (by simp) o q, h2.at fun o q => k i2 (by simp) o q⟩
  item := by
    intro X hP hw hK hc i pins s σ H E I hf st hg
    subst hP hw hK
    obtain ⟨hz, hTI, ⟨x0, y0, hTO⟩, h1, h2⟩ := st
    obtain ⟨xs, ys, x, y, hqx, hqy, hx, hy⟩ := hg
    obtain ⟨its, rv, p, _⟩ := I.tuple hqx
    obtain ⟨its2, rv2, p2, _⟩ := I.list hqy
    obtain ⟨u, hu, ru⟩ := rv.get hx
    obtain ⟨u2, hu2, ru2⟩ := rv2.get hy
    have zl : z < s.heap.objs.size := Heap.lt_size hz
    have j1 : ItA s.heap i1 a i its.toArray := .tup h1 p
    have j2 : ItA s.heap i2 b i its2.toArray := .lst h2 p2.isList
    refine nextZ_item D hz hTI hTO j1 j2 (x := u) (y := u2) (by simpa using hu) (by simpa using hu2) fun h' z' TO' k1 k2 hT hsz hk => ?_
    refine ⟨_, rfl, wpAny_letOwnedTupleGo_zip (s := { s with heap := h' }) z' fun h'' z'' sb => ?_⟩
    have hT2 : h''.get? s.heap.objs.size = some { cls := .type "tuple", data := .seq #[u, u2] } := (sb.2 _ (Nat.ne_of_gt zl)).trans hT
    have new : ObjOk X.prog X.w (upd H s.heap.objs.size (.tup [x, y])) h'' s.heap.objs.size (.tup [x, y]) :=
      ⟨by show 2 ≤ sizeLine; decide, [u, u2], .cons ru (.cons ru2 .nil), ⟨_, hT2, rfl, _, rfl⟩⟩
    have away : ∀ c o, c ∉ [z, TI, TO, i1, i2] → s.heap.get? c = some o → h''.get? c = some o := fun c o hb q =>
      (sb.2 c (fun q' => hb (by simp [q']))).trans (hk c o (fun q' => hb (by simp [q'])) (fun q' => hb (by simp [q'])) (fun q' => hb (by simp [q'])) (fun q' => hb (by simp [q'])) q)
    have I1 : Inv X pins σ (upd H s.heap.objs.size (.tup [x, y])) { s with heap := h'' } := I.turnedNew (t' := s.toks) (ch := [z, TI, TO, i1, i2]) away hf (Nat.le_refl _) new
    have c1 : h''.IsTupleIter i1 a (i + 1) := by
      cases k1 with
      | tup k1 _ => exact k1.at fun o q => (sb.2 _ D.i1z).trans q
      | lst k1 s1 =>
        obtain ⟨o, e, c, _⟩ := s1
        obtain ⟨o2, e2, c2, m, d2⟩ := p
        have := hk a o2 D.l1z D.l1TO D.l1i1 D.l1i2 e2
        rw [this] at e
        cases e
        rw [c2] at c
        simp at c
    have c2 : h''.IsListIter i2 b (i + 1) := by
      cases k2 with
      | lst k2 _ => exact k2.at fun o q => (sb.2 _ D.i2z).trans q
      | tup k2 s2 =>
        obtain ⟨o, e, c, _⟩ := s2
        obtain ⟨o2, e2, c2, _⟩ := p2.isList
        have := hk b o2 D.l2z D.l2TO D.l2i1 D.l2i2 e2
        rw [this] at e
        cases e
        rw [c2] at c
        simp at c
    refine ⟨.ref s.heap.objs.size, _, I1, rfl, ⟨_, x, y, rfl, I.hok.fresh (Nat.le_refl _), rfl, fun l hl => by rw [I.tuple_inj hl hqx]; exact hx, fun l hl => by rw [I.list_inj hl hqy]; exact hy⟩, ⟨z'', ?_, ⟨u, u2, ?_⟩, c1, c2⟩, fun c hcm => ?_⟩
    · exact (sb.2 _ D.TIz).trans (hk _ _ D.TIz D.TITO D.TIi1 D.TIi2 hTI)
    · exact (sb.2 _ D.TOz).trans TO'
    · have lt : c < s.heap.objs.size := by
        rcases five hcm with rfl | rfl | rfl | rfl | rfl
        · exact zl
        · exact Heap.lt_size hTI
        · exact Heap.lt_size hTO
        · obtain ⟨_, e1, _⟩ := h1
          exact Heap.lt_size e1
        · obtain ⟨_, e2, _⟩ := h2
          exact Heap.lt_size e2
      rw [upd_ne (Nat.ne_of_lt lt)]
      exact (hf c hcm).1
  done := by
    intro X hP hw hK hc i pins s σ H E I hf st hg
    subst hP hw hK
    obtain ⟨hz, hTI, ⟨x0, y0, hTO⟩, h1, h2⟩ := st
    obtain ⟨xs, ys, hqx, hqy, hend⟩ := hg
    obtain ⟨its, rv, p, _⟩ := I.tuple hqx
    obtain ⟨its2, rv2, p2, _⟩ := I.list hqy
    have l1 := rv.length
    have l2 := rv2.length
    have he : its.toArray[i]? = none ∨ its2.toArray[i]? = none := by
      rcases hend with q | q
      · exact .inl (by simp; omega)
      · exact .inr (by simp; omega)
    refine nextZ_end (I.ok.hd hc) D hz hTI hTO (.tup h1 p) (.lst h2 p2.isList) he fun h' hk => ⟨rfl, I.turnedL (t' := s.toks) (ch := [z, TI, TO, i1, i2]) (fun c o hb q => ?_) hf⟩
    exact hk c o (fun q' => hb (by simp [q'])) (fun q' => hb (by simp [q'])) (fun q' => hb (by simp [q'])) (fun q' => hb (by simp [q'])) q
  self := fun A i s Q E st h => wpAny_pyIter_zip st.1 h
/-- zip of a tuple with a tuple or a list -/
def iZipT (K : PySem.W.Frag) (ta : TA) : TI := fun σ H R => ta σ H fun vs H1 => ∃ a b xs ys, vs = [.ref a, .ref b] ∧ SqT K H1 a xs ∧ ((SqL K H1 b ys ∧ R (ItzM K a b) H1) ∨ (SqT K H1 b ys ∧ R (RZ.ItzT K a b) H1))
theorem pi_zipT {X : Cx} {e e2 : Expr} {ta : TA} {p pos tpos : Pos} {elts : List Expr} {kk : Nat} (hg : Gl X "zip") (hm : X.mg "zip" = none) (ha : PA X [e, e2] ta)
    (hs : starEach [e, e2] X.env = (false, eval e X.env) :: starEach [e2] X.env := by rfl) (hpl : (backTo pos (starEach [e2] X.env)).any (·.1) = false := by rfl) :
    PI X (.Tuple elts kk tpos) (.Call (.Name "zip" p) [e, e2] [] pos) (iZipT X.K ta) := by
  refine ⟨fun pins s σ H R I h => ?_⟩
  have h2 : ta σ H fun vs H1 => ∃ a b xs ys, vs = [.ref a, .ref b] ∧ SqT X.K H1 a xs ∧ ((SqL X.K H1 b ys ∧ R (ItzM X.K a b) H1) ∨ (SqT X.K H1 b ys ∧ R (RZ.ItzT X.K a b) H1)) := h
  refine Call_ (ld_blt I hg hm PyProof.Rows.boot_zip (PyProof.Rows.callWith_type1 (thn (ha.run pos pins s σ H _ I h2) fun us s1 ⟨vs, H1, I1, r1, q1⟩ => ?_) hs hpl))
  obtain ⟨a, b, xs, ys, rfl, hqx, q1⟩ := q1
  obtain ⟨u1, u2, rfl, ra, rb⟩ := vals2 r1
  cases (show u1 = Value.ref a from ra)
  cases (show u2 = Value.ref b from rb)
  obtain ⟨n, hn⟩ : ∃ n, s1.heap.objs.size = n := ⟨_, rfl⟩
  have fresh : ∀ c, c ∈ [n + 4, n + 2, n + 3, n, n + 1] → FpOk X pins H1 c := fun c hcm => by
    have : s1.heap.objs.size ≤ c := by
      rcases five hcm with rfl | rfl | rfl | rfl | rfl <;> omega
    exact I1.fpOk this (I1.hok.fresh this)
  obtain ⟨its, rv, p1, _⟩ := I1.tuple hqx
  obtain ⟨o1, ho1, _⟩ := id p1
  rcases q1 with ⟨hqy, q⟩ | ⟨hqy, q⟩
  · obtain ⟨its2, rv2, p2, _⟩ := I1.list hqy
    refine call_zipM (show s1.heap.IsTuple a its.toArray from p1) p2.isList fun h' hz hTI hTO h1 h2 hk => wpAny_pyIter_zip hz ?_
    have I2 : Inv X pins σ H1 { s1 with heap := h' } := I1.kept (t' := s1.toks) hk
    have j1 : h'.IsTupleIter s1.heap.objs.size a 0 := by
      cases h1 with
      | tup h1 _ => exact h1
      | lst h1 s2 =>
        obtain ⟨o, e, c, _⟩ := s2
        obtain ⟨o2, e2, c2, _⟩ := p1
        rw [hk _ _ e2] at e
        cases e
        rw [c2] at c
        simp at c
    have j2 : h'.IsListIter (s1.heap.objs.size + 1) b 0 := by
      cases h2 with
      | lst h2 _ => exact h2
      | tup h2 s2 =>
        obtain ⟨o, e, c, _⟩ := s2
        obtain ⟨o2, e2, c2, _⟩ := p2.isList
        rw [hk _ _ e2] at e
        cases e
        rw [c2] at c
        simp at c
    subst hn
    exact ⟨_, [s1.heap.objs.size + 4, s1.heap.objs.size + 2, s1.heap.objs.size + 3, s1.heap.objs.size, s1.heap.objs.size + 1], _, _, H1, rfl, I2, turn_zipM (PySem.W.ktu_apart _ a b (Heap.lt_size ho1) p2.lt), ⟨hz, hTI, ⟨_, _, hTO⟩, j1, j2⟩, fresh, q⟩
  · obtain ⟨its2, rv2, p2, _⟩ := I1.tuple hqy
    obtain ⟨o2, ho2, _⟩ := id p2
    refine RZ.call_zipT (show s1.heap.IsTuple a its.toArray from p1) (show s1.heap.IsTuple b its2.toArray from p2) fun h' hz hTI hTO h1 h2 hsz hk => wpAny_pyIter_zip hz ?_
    have I2 : Inv X pins σ H1 { s1 with heap := h' } := I1.kept (t' := s1.toks) hk
    subst hn
    exact ⟨_, [s1.heap.objs.size + 4, s1.heap.objs.size + 2, s1.heap.objs.size + 3, s1.heap.objs.size, s1.heap.objs.size + 1], _, _, H1, rfl, I2, RZ.turn_zipT (PySem.W.ktu_apart _ a b (Heap.lt_size ho1) (Heap.lt_size ho2)), ⟨hz, hTI, ⟨_, _, hTO⟩, h1, h2⟩, fresh, q⟩
section
variable {K : PySem.W.Frag} {a b : Addr} {xs ys : List V}
theorem walk_zipM {n : Nat} (hn : n = min xs.length ys.length) : Walk (ItzM K a b) n (fun H => SqT K H a xs ∧ SqL K H b ys) (YPair (fun i => xs[i]?) (fun i => ys[i]?)) := by
  subst hn
  refine ⟨fun i _ hi q => ?_, fun _ q => ⟨xs, ys, q.1, q.2, by omega⟩, fun i H v H' _ q y => ?_⟩
  · have h1 : i < xs.length := by omega
    have h2 : i < ys.length := by omega
    exact ⟨xs, ys, xs[i], ys[i], q.1, q.2, by simp [h1], by simp [h2]⟩
  · obtain ⟨T, x, z, h1, h2, h3, h4, h5⟩ := y
    exact ⟨T, x, z, h1, h2, h3, h4 xs q.1, h5 ys q.2⟩
theorem walk_zipT {n : Nat} (hn : n = min xs.length ys.length) : Walk (RZ.ItzT K a b) n (fun H => SqT K H a xs ∧ SqT K H b ys) (YPair (fun i => xs[i]?) (fun i => ys[i]?)) := by
  subst hn
  refine ⟨fun i _ hi q => ?_, fun _ q => ⟨xs, ys, q.1, q.2, by omega⟩, fun i H v H' _ q y => ?_⟩
  · have h1 : i < xs.length := by omega
    have h2 : i < ys.length := by omega
    exact ⟨xs, ys, xs[i], ys[i], q.1, q.2, by simp [h1], by simp [h2]⟩
  · obtain ⟨T, x, z, h1, h2, h3, h4, h5⟩ := y
    exact ⟨T, x, z, h1, h2, h3, h4 xs q.1, h5 ys q.2⟩
end

/-! d.get(x), d a dict of the text's top with texts as keys -/
def rGetW (K : PySem.W.Frag) (w : World) (p : Addr) (z : Str) (H : Hp) (Q : VK) : Prop := (∃ v, KDct K w p z v ∧ Q v H) ∨ (KMiss K w p z ∧ Q .non H)
def tGetW (K : PySem.W.Frag) (w : World) (td ty : TE) : TE := fun σ H Q => td σ H fun x H1 => ∃ p, x = .ref p ∧ (∃ es n, K.lookup p = some ⟨.type "dict", none, .dict es n, #[]⟩ ∧ PySem.W.KeysLit w.params es.toList ∧ (p == sysModules) = false) ∧ ty σ H1 fun y H2 => ∃ z, y = .str z ∧ rGetW K w p z H2 Q
section
variable {X : Cx} {o e : Expr} {apos cpos : Pos} {td ty : TE}
theorem pe_getW (ho : PE X o td) (he : PE X e ty) (m : M1 X o "get" apos e cpos) : PE X (.Call (.Attribute o "get" apos) [e] [] cpos) (tGetW X.K X.w td ty) := by
  refine ⟨fun pins s σ H Q I h => ?_⟩
  refine wpAny_Call_method m.base m.few m.line PySem.F.plainAttrs_dict PySem.F.slot_dict_get PySem.F.type_dict_get (thn (ho.run pins s σ H _ I h) fun u s1 ⟨x, H1, I1, rx, p, ex, ⟨es, n, hl, hk, low⟩, q1⟩ => ?_)
  subst ex
  obtain rfl : u = Value.ref p := rx
  have mp := PySem.W.mapOf_K (prog := X.prog) (w := X.w) I1.kIn hl hk
  refine ⟨mp.typeIs, fun b q => ?_, ?_⟩
  · cases q
    exact ⟨_, I1.kIn _ _ hl, rfl⟩
  rw [m.trees]
  refine Calls.callWith_builtin rfl (Calls.evalArgs_plain (Calls.spliced_cons (thn (he.run pins s1 σ H1 _ I1 q1) fun iv s2 ⟨y, H2, I2, ry, z, ey, q2⟩ => Calls.spliced_nil ?_)))
  subst ey
  obtain ⟨t, rfl⟩ := (show ∃ t, iv = Value.str z t from ry)
  have mp2 := PySem.W.mapOf_K (prog := X.prog) (w := X.w) I2.kIn hl hk
  refine call_meetsIn PySem.F.slot_dict_get mp2.typeIs PySem.F.entry_dict_get (PySem.F.args_dict_get_2 _ _) (meets_dict_get (strKind X.prog X.w) p (strKind_is X.prog X.w z t) low) ⟨_, mp2, ?_⟩
  rcases q2 with ⟨v, ⟨es2, n2, u0, hl2, hk2, e, ru⟩, q⟩ | ⟨⟨es2, n2, hl2, hk2, low2, e⟩, q⟩
  · rw [hl] at hl2
    cases hl2
    rw [PySem.W.find_K hl e]
    exact ⟨v, H2, I2.tok _, ru, q⟩
  · rw [hl] at hl2
    cases hl2
    rw [PySem.W.find_K hl e]
    exact ⟨.non, H2, I2.tok _, rfl, q⟩
end
end Nv

namespace Nv
open PySem PySem.Spec PyProof.Rows L2

section
variable {X : Cx} {K : PySem.W.Frag}
/-- i not in range(lo, hi) -/
theorem op_notIn_rng : OpR X (compareOp .NotIn) (fun x y H Q => ∃ i a lo hi, x = V.int i ∧ y = V.ref a ∧ H a = some (.rng lo hi) ∧ Q (.bl (!decide (lo ≤ i ∧ i < hi))) H) := by
  intro pins s σ H x y v u Q I rx ry h
  obtain ⟨i, a, lo, hi, rfl, rfl, ha, q⟩ := h
  obtain ⟨k, rfl⟩ := (show ∃ k, v = Value.int i k from rx)
  cases (show u = Value.ref a from ry)
  obtain ⟨t1, t2, t3, ho⟩ := I.hok a _ ha
  have T : s.TypeIs (.ref a) "range" := ⟨_, ho, rfl⟩
  show wpAny _ _ (do return Value.bool (!(← contains (Value.ref a) (Value.int i k)))) _ _ s
  refine wpAny_bind (wpAny_contains_slot T F.slot_range_contains (call_meets F.slot_range_contains T F.entry_range_contains (F.args_range_contains_2 _ _) (q_contains a lo hi i t1 t2 t3 k) ⟨ho, ?_⟩))
  refine wpAny_truthy_bool (wpAny_pure ⟨.bl _, H, I, rfl, ?_⟩)
  rw [place1]
  exact q
theorem op_in_seqK (h : X.K = K) : OpR X (compareOp .In) (rIn K false) := by
  subst h
  exact op_in_seq
theorem op_notIn_seqK (h : X.K = K) : OpR X (compareOp .NotIn) (rIn K true) := by
  subst h
  exact op_notIn_seq
/-- str(x), x an int or a text -/
theorem call_strA : CallR X (.type "str") (fun xs H Q => (∃ a, xs = [.str a] ∧ Q (.str a) H) ∨ ∃ i, xs = [.int i] ∧ i.natAbs.log2 < 1920 ∧ Q (.str (Str.ofString (toString i))) H) := CallR.or SkE.call_str_str call_str_int
end
end Nv
namespace Nv
open PySem L2
/-! a dict of the text's top, its keys texts -/
structure WDict (K : PySem.W.Frag) (P : Params) (a : Addr) (l : List (Str × Value)) : Prop where
  low : (a == sysModules) = false
  ex : ∃ (es : Array DictEntry) (n : Nat) (ts : List Tok), K.lookup a = some ⟨.type "dict", none, .dict es n, #[]⟩ ∧ ts.length = l.length ∧
    es.toList = (l.zip ts).map fun x => { hash := PyData.keyHash P x.1.1, key := .str x.1.1 x.2, val := x.1.2 }
theorem WDict.mk' {K : PySem.W.Frag} {P : Params} {a : Addr} {l : List (Str × Value)} {es : Array DictEntry} {n : Nat} (ts : List Tok) (low : (a == sysModules) = false) (h : K.lookup a = some ⟨.type "dict", none, .dict es n, #[]⟩)
    (hl : ts.length = l.length) (e : es.toList = (l.zip ts).map fun x => { hash := PyData.keyHash P x.1.1, key := .str x.1.1 x.2, val := x.1.2 }) : WDict K P a l := ⟨low, es, n, ts, h, hl, e⟩
theorem WDict.lit {K : PySem.W.Frag} {P : Params} {a : Addr} {l : List (Str × Value)} (d : WDict K P a l) : ∃ es n, K.lookup a = some ⟨.type "dict", none, .dict es n, #[]⟩ ∧ PySem.W.KeysLit P es.toList ∧ (a == sysModules) = false := by
  obtain ⟨low, es, n, ts, h, hl, e⟩ := d
  refine ⟨es, n, h, ?_, low⟩
  rw [e]
  clear e h hl
  induction l generalizing ts with
  | nil => exact trivial
  | cons x r ih =>
    cases ts with
    | nil => exact trivial
    | cons t ts => exact ⟨⟨_, _, rfl, rfl⟩, ih ts⟩
theorem wfind (z : Str) (P : Params) : ∀ (l : List (Str × Value)) (ts : List Tok), ts.length = l.length →
    (((l.zip ts).map fun x => ({ hash := PyData.keyHash P x.1.1, key := .str x.1.1 x.2, val := x.1.2 } : DictEntry)).find? fun e => e.key.isStr z).map (·.val) = (l.find? fun x => x.1 == z).map (·.2)
  | [], ts, _ => by cases ts <;> rfl
  | x :: r, [], h => by cases h
  | x :: r, t :: ts, h => by
    have ih := wfind z P r ts (by simpa using h)
    simp only [List.zip_cons_cons, List.map_cons, List.find?_cons]
    have e : (Value.str x.1 t).isStr z = (x.1 == z) := by
      simp [Value.isStr]
    rw [e]
    cases x.1 == z
    · exact ih
    · rfl
theorem WDict.at {K : PySem.W.Frag} {P : Params} {a : Addr} {l : List (Str × Value)} (d : WDict K P a l) (z : Str) : PySem.W.nsIn K a z = some ((l.find? fun x => x.1 == z).map (·.2)) := by
  obtain ⟨low, es, n, ts, h, hl, e⟩ := d
  unfold PySem.W.nsIn
  rw [h]
  dsimp only
  have f := wfind z P l ts hl
  rw [← e] at f
  cases q : es.toList.find? fun e => e.key.isStr z with
  | some x =>
    rw [q] at f
    rw [← f]
    rfl
  | none =>
    rw [q] at f
    rw [← f]
    have nr : es.toList.any (·.refKey) = false := by
      rw [e, List.any_map, List.any_eq_false]
      intro x _
      simp [DictEntry.refKey]
    simp [nr]
theorem WDict.get {K : PySem.W.Frag} {w : World} {a : Addr} {l : List (Str × Value)} (d : WDict K w.params a l) {z : Str} {H : Hp} {Q : VK}
    (yes : ∀ u v, (l.find? fun x => x.1 == z) = some (z, u) → RelV v u → Q v H) (rel : ∀ x ∈ l, ∃ v, RelV v x.2) (no : (l.find? fun x => x.1 == z) = none → Q .non H) : rGetW K w a z H Q := by
  obtain ⟨es, n, h, k, low⟩ := d.lit
  have e := d.at z
  cases q : l.find? fun x => x.1 == z with
  | none =>
    rw [q] at e
    exact .inr ⟨⟨es, n, h, k, low, e⟩, no q⟩
  | some x =>
    rw [q] at e
    have hx : x.1 = z := by simpa using List.find?_some q
    obtain ⟨v, hv⟩ := rel x (List.mem_of_find?_eq_some q)
    refine .inl ⟨v, ⟨es, n, x.2, h, k, e, hv⟩, yes x.2 v ?_ hv⟩
    rw [q, ← hx]
end Nv
namespace Nv
open PySem L2
/-- a tuple of the text's top -/
def KTup (K : PySem.W.Frag) (a : Addr) (xs : List V) : Prop := ∃ (o : Obj) (its : Array Value) (n : Nat), K.lookup a = some o ∧ o.cls = .type "tuple" ∧ o.data = .seq its n ∧ its.size ≤ sizeLine ∧ Vals xs its.toList
theorem KTup.sq {K : PySem.W.Frag} {a : Addr} {xs : List V} (h : KTup K a xs) (H : Hp) : SqT K H a xs := .inr h
end Nv

namespace Nv
open PySem PySem.Spec PyProof.Rows L2

/-! comprehensions without a test: what their list holds -/
section
variable {J : It} {n : Nat} {G : Hp → Prop} {Y : Nat → Hp → V → Hp → Prop} {g : TG} {te : TE} {vs : List Nat} {σ : L2.St} {H : Hp} {D : Addr} {Qd : Hp → Prop}
/-- the items are known ahead -/
theorem lc_flat (w : Walk J n G Y) (ys : List V) (hD : H D = none) (hn : ys.length = n) (hz : n ≤ sizeLine) (hG : ∀ H', Same H H' → G H')
    (hs : ∀ i x y Ha Hb (R : VK), ys[i]? = some y → Same H Ha → Y i Ha x Hb → (∀ H4, Same Ha H4 → R y H4) → g x (wipe σ vs) Hb fun σ2 H2 => wipe σ2 vs = wipe σ vs ∧ te σ2 H2 R)
    (hd : ∀ H', Same H H' → H' D = some (.lst ys) → Qd H') :
    ∃ W : Nat → Nat → Hp → Prop, (∃ m, W 0 m (upd H D (.lst []))) ∧ ∀ i m H, W i m H →
      (J.stop i H ∧ Qd H) ∨ (J.go i H ∧ ∃ Nx : Hp → Prop, (∀ H', Nx H' → ∃ m', m' < m ∧ W (i + 1) m' H') ∧ ∀ x H', J.yld i H x H' → g x (wipe σ vs) H' fun σ2 H2 => wipe σ2 vs = wipe σ vs ∧ tYes σ2 H2 fun b H3 =>
        if b = true then te σ2 H3 fun y H4 => ∃ acc, H4 D = some (.lst acc) ∧ acc.length < sizeLine ∧ Nx (upd H4 D (.lst (acc ++ [y]))) else Nx H3) := by
  refine lc_it w (fun i H' => H' D = some (.lst (ys.take i)) ∧ Same H H') ⟨by rw [upd_same]; rfl, Same.new hD⟩ (fun i H' _ p => hG H' p.2) ?_ ?_
  · rintro i x Ha Hb hi ⟨f, S⟩ y
    obtain ⟨v, hv⟩ : ∃ v, ys[i]? = some v := ⟨_, List.getElem?_eq_getElem (by omega)⟩
    have key := hs i x v Ha Hb (fun v' H4 => ∃ acc, H4 D = some (.lst acc) ∧ acc.length < sizeLine ∧ (upd H4 D (.lst (acc ++ [v'])) D = some (.lst (ys.take (i + 1))) ∧ Same H (upd H4 D (.lst (acc ++ [v']))))) hv S y ?_
    · have e : (fun (σ2 : L2.St) (H2 : Hp) => wipe σ2 vs = wipe σ vs ∧ tYes σ2 H2 fun b H3 => if b = true then te σ2 H3 fun y H4 => ∃ acc, H4 D = some (.lst acc) ∧ acc.length < sizeLine ∧ (upd H4 D (.lst (acc ++ [y])) D = some (.lst (ys.take (i + 1))) ∧ Same H (upd H4 D (.lst (acc ++ [y])))) else (H3 D = some (.lst (ys.take (i + 1))) ∧ Same H H3))
          = fun σ2 H2 => wipe σ2 vs = wipe σ vs ∧ te σ2 H2 fun v' H4 => ∃ acc, H4 D = some (.lst acc) ∧ acc.length < sizeLine ∧ (upd H4 D (.lst (acc ++ [v'])) D = some (.lst (ys.take (i + 1))) ∧ Same H (upd H4 D (.lst (acc ++ [v'])))) := by
        funext σ2 H2
        rw [e_tyes, if_pos rfl]
      rw [e]
      exact key
    · intro H4 S4
      refine ⟨_, S4 _ _ f, by rw [List.length_take]; omega, ?_, fun b o hb => ?_⟩
      · rw [upd_same, List.take_add_one, hv]
        rfl
      · rw [upd_ne (ne_of_none hb hD)]
        exact S4 _ _ (S _ _ hb)
  · rintro H' ⟨f, S⟩
    rw [List.take_of_length_le (by omega)] at f
    exact hd H' S f
/-- the items are new data, each apart from the list -/
theorem lc_data (w : Walk J n G Y) (ds : List PyData) (hD : H D = none) (hn : ds.length = n) (hz : n ≤ sizeLine) (hG : ∀ H', Same H H' → G H')
    (hs : ∀ i x d Ha Hb (R : VK), ds[i]? = some d → Same H Ha → Y i Ha x Hb → (∀ v Hs H4, Same Ha H4 → Same Hs H4 → Hs D = none → DV Hs v d → R v H4) → g x (wipe σ vs) Hb fun σ2 H2 => wipe σ2 vs = wipe σ vs ∧ te σ2 H2 R)
    (hd : ∀ acc H', Same H H' → H' D = some (.lst acc) → DVs H' acc ds → Qd H') :
    ∃ W : Nat → Nat → Hp → Prop, (∃ m, W 0 m (upd H D (.lst []))) ∧ ∀ i m H, W i m H →
      (J.stop i H ∧ Qd H) ∨ (J.go i H ∧ ∃ Nx : Hp → Prop, (∀ H', Nx H' → ∃ m', m' < m ∧ W (i + 1) m' H') ∧ ∀ x H', J.yld i H x H' → g x (wipe σ vs) H' fun σ2 H2 => wipe σ2 vs = wipe σ vs ∧ tYes σ2 H2 fun b H3 =>
        if b = true then te σ2 H3 fun y H4 => ∃ acc, H4 D = some (.lst acc) ∧ acc.length < sizeLine ∧ Nx (upd H4 D (.lst (acc ++ [y]))) else Nx H3) := by
  refine lc_it w (fun i H' => ∃ acc, H' D = some (.lst acc) ∧ Same H H' ∧ acc.length = i ∧ ∀ (j : Nat) (v : V) (d : PyData), acc[j]? = some v → ds[j]? = some d → ∃ Hs, Hs D = none ∧ DV Hs v d ∧ ∀ a o, Hs a = some o → H' a = some o) ⟨[], upd_same, Same.new hD, rfl, fun j v d h => by simp at h⟩ (fun i H' _ ⟨acc, _, S, _⟩ => hG H' S) ?_ ?_
  · rintro i x Ha Hb hi ⟨acc, f, S, la, pd⟩ y
    obtain ⟨d, hv⟩ : ∃ v, ds[i]? = some v := ⟨_, List.getElem?_eq_getElem (by omega)⟩
    have key := hs i x d Ha Hb (fun v' H4 => ∃ acc, H4 D = some (.lst acc) ∧ acc.length < sizeLine ∧ (∃ acc2, upd H4 D (.lst (acc ++ [v'])) D = some (.lst acc2) ∧ Same H (upd H4 D (.lst (acc ++ [v']))) ∧ acc2.length = i + 1 ∧ ∀ (j : Nat) (v : V) (d : PyData), acc2[j]? = some v → ds[j]? = some d → ∃ Hs, Hs D = none ∧ DV Hs v d ∧ ∀ a o, Hs a = some o → upd H4 D (.lst (acc ++ [v'])) a = some o)) hv S y ?_
    · have e : (fun (σ2 : L2.St) (H2 : Hp) => wipe σ2 vs = wipe σ vs ∧ tYes σ2 H2 fun b H3 => if b = true then te σ2 H3 fun y H4 => ∃ acc, H4 D = some (.lst acc) ∧ acc.length < sizeLine ∧ (∃ acc2, upd H4 D (.lst (acc ++ [y])) D = some (.lst acc2) ∧ Same H (upd H4 D (.lst (acc ++ [y]))) ∧ acc2.length = i + 1 ∧ ∀ (j : Nat) (v : V) (d : PyData), acc2[j]? = some v → ds[j]? = some d → ∃ Hs, Hs D = none ∧ DV Hs v d ∧ ∀ a o, Hs a = some o → upd H4 D (.lst (acc ++ [y])) a = some o)
            else (∃ acc, H3 D = some (.lst acc) ∧ Same H H3 ∧ acc.length = i + 1 ∧ ∀ (j : Nat) (v : V) (d : PyData), acc[j]? = some v → ds[j]? = some d → ∃ Hs, Hs D = none ∧ DV Hs v d ∧ ∀ a o, Hs a = some o → H3 a = some o))
          = fun σ2 H2 => wipe σ2 vs = wipe σ vs ∧ te σ2 H2 fun v' H4 => ∃ acc, H4 D = some (.lst acc) ∧ acc.length < sizeLine ∧ (∃ acc2, upd H4 D (.lst (acc ++ [v'])) D = some (.lst acc2) ∧ Same H (upd H4 D (.lst (acc ++ [v']))) ∧ acc2.length = i + 1 ∧ ∀ (j : Nat) (v : V) (d : PyData), acc2[j]? = some v → ds[j]? = some d → ∃ Hs, Hs D = none ∧ DV Hs v d ∧ ∀ a o, Hs a = some o → upd H4 D (.lst (acc ++ [v'])) a = some o) := by
        funext σ2 H2
        rw [e_tyes, if_pos rfl]
      rw [e]
      exact key
    · intro v Hs H4 S4 s4 nD dv
      refine ⟨acc, S4 _ _ f, by omega, acc ++ [v], upd_same, fun b o hb => ?_, by simp [la], fun j u e hu he => ?_⟩
      · rw [upd_ne (ne_of_none hb hD)]
        exact S4 _ _ (S _ _ hb)
      · have away : ∀ (Hx : Hp), Hx D = none → Same Hx H4 → ∀ a o, Hx a = some o → upd H4 D (.lst (acc ++ [v])) a = some o := fun Hx nx s a o h => by
          rw [upd_ne (ne_of_none h nx)]
          exact s _ _ h
        by_cases hj : j < acc.length
        · rw [List.getElem?_append_left hj] at hu
          obtain ⟨Hx, nx, dx, s⟩ := pd j u e hu he
          exact ⟨Hx, nx, dx, away Hx nx fun a o h => S4 _ _ (s a o h)⟩
        · have : j = acc.length := by
            have := (List.getElem?_eq_some_iff.mp hu).1
            simp at this
            omega
          subst this
          rw [List.getElem?_concat_length] at hu
          cases hu
          rw [la, hv] at he
          cases he
          exact ⟨Hs, nD, dv, away Hs nD s4⟩
  · rintro H' ⟨acc, f, S, la, pd⟩
    refine hd acc H' S f ?_
    have all : ∀ (acc : List V) (ds : List PyData), acc.length = ds.length → (∀ (j : Nat) (v : V) (d : PyData), acc[j]? = some v → ds[j]? = some d → DV H' v d) → DVs H' acc ds := by
      intro acc
      induction acc with
      | nil =>
        intro ds l _
        cases ds with
        | nil => exact .nil
        | cons _ _ => simp at l
      | cons a r ih =>
        intro ds l h
        cases ds with
        | nil => simp at l
        | cons d ds =>
          refine .cons (h 0 a d rfl rfl) (ih ds (by simpa using l) fun j v d' hv hd => h (j + 1) v d' (by simpa using hv) (by simpa using hd))
    refine all acc ds (by omega) fun j v d hv hd => ?_
    obtain ⟨Hs, _, dv, s⟩ := pd j v d hv hd
    exact dv.mono s
end
/-- data that stands apart from a new list -/
theorem DV.apart {H : Hp} {v : V} {d : PyData} {D : Addr} (h : DV H v d) (hD : H D = none) {H' : Hp} (S : Same H H') : ∃ Hs, Same Hs H' ∧ Hs D = none ∧ DV Hs v d := ⟨H, S, hD, h⟩
end Nv
namespace Nv
open PySem L2
theorem sIx_one {n : Nat} (h : 1 ≤ n) : HT.sIx n 0 (some 1) = 1 := by
  unfold HT.sIx
  simp
  omega
theorem cutV_tail {x : V} {xs : List V} : cutV (x :: xs) (some 1) none = xs := by
  unfold cutV
  rw [sIx_one (by simp)]
  simp [HT.sIx]
theorem sIx_tail {x : V} {xs : List V} {P : Prop} : ¬ (HT.sIx (x :: xs).length 0 (some 1) = 0 ∧ P) := fun h => by
  have := h.1
  rw [sIx_one (by simp)] at this
  cases this
end Nv
namespace Nv
open PySem L2
theorem cutV_head {x : V} {xs : List V} : cutV (x :: xs) none (some 1) = [x] := by
  unfold cutV
  have : HT.sIx (x :: xs).length (x :: xs).length (some 1) = 1 := by
    unfold HT.sIx
    simp
  rw [this]
  simp [HT.sIx]
end Nv
namespace Nv
open PySem L2
theorem inV_strs (z : Str) (l : List Str) : inV (V.str z) (l.map V.str) = decide (z ∈ l) := by
  unfold inV
  rw [List.any_map]
  induction l with
  | nil => simp
  | cons a r ih =>
    rw [List.any_cons, ih]
    by_cases h : a = z
    · simp [eqV, h]
    · have : ¬ z = a := fun e => h e.symm
      simp [eqV, h, this]
theorem flat_strs (l : List Str) : (l.map V.str).all flatV = true := by
  rw [List.all_map, List.all_eq_true]
  intro x _
  rfl
/-- in a list or a tuple of texts -/
theorem r_inS {K : PySem.W.Frag} {H : Hp} {Q : VK} {z : Str} {p : Addr} {l : List Str} (h : SqL K H p (l.map V.str) ∨ SqT K H p (l.map V.str)) (q : Q (.bl (decide (z ∈ l))) H) : rIn K false (.str z) (.ref p) H Q :=
  ⟨p, _, rfl, h, rfl, flat_strs l, by rw [inV_strs]; exact q⟩
theorem r_ninS {K : PySem.W.Frag} {H : Hp} {Q : VK} {z : Str} {p : Addr} {l : List Str} (h : SqL K H p (l.map V.str) ∨ SqT K H p (l.map V.str)) (q : Q (.bl (!decide (z ∈ l))) H) : rIn K true (.str z) (.ref p) H Q :=
  ⟨p, _, rfl, h, rfl, flat_strs l, by rw [inV_strs]; exact q⟩
end Nv

namespace Nv
open PySem L2

/-! draws -/
/-- the box of draws at p, of which at most N have been mixed -/
def BoxAt (H : Hp) (p : Addr) (N : Nat) : Prop := ∃ (n : Int) (b : Bool) (m c : Int), H p = some (.lst [.int n, .bl b, .int m, .int c]) ∧ 0 ≤ m ∧ m < 2147483648 ∧ 0 ≤ c ∧ c ≤ (N : Int)
theorem BoxAt.mono {H H' : Hp} {p : Addr} {N : Nat} (e : Same H H') (h : BoxAt H p N) : BoxAt H' p N := by
  obtain ⟨n, b, m, c, h, r⟩ := h
  exact ⟨n, b, m, c, e _ _ h, r⟩
theorem BoxAt.le {H : Hp} {p : Addr} {N M : Nat} (h : BoxAt H p N) (l : N ≤ M) : BoxAt H p M := by
  obtain ⟨n, b, m, c, h, r1, r2, r3, r4⟩ := h
  exact ⟨n, b, m, c, h, r1, r2, r3, by omega⟩
def nvCell (K : PySem.W.Frag) : Sp := fun vs H Q _ => ∃ (a : Addr) (ns : List Int) (k : Int), vs = [.ref a, .int k] ∧ SqL K H a (ns.map V.int) ∧ 0 ≤ k ∧ k ≤ 1000 ∧ ∀ i H', Same H H' → Q (.int i) H'
def nvBox : Sp := fun vs H Q _ => ∃ g, vs = [.int g] ∧ ∀ p H', H p = none → Same H H' → BoxAt H' p 0 → Q (.ref p) H'
def nvTake : Sp := fun vs H Q _ => ∃ p m N, vs = [.ref p, .int m] ∧ BoxAt H p N ∧ N ≤ 1000000 ∧ 0 < m ∧ m < 1073741824 ∧
  ∀ d H', 0 ≤ d → d < m → BoxAt H' p (N + 1) → Ext1 p H H' → Q (.int d) H'
theorem fmod_in (a : Int) {m : Int} (h : 0 < m) : 0 ≤ a.fmod m ∧ a.fmod m < m := by
  rw [Int.fmod_eq_emod_of_nonneg a (Int.le_of_lt h)]
  exact ⟨Int.emod_nonneg a (by omega), Int.emod_lt_of_pos a h⟩
theorem at0 {α : Type} {xs : List α} {v : α} (h : xs[0]? = some v) : atI xs 0 = some v := atI_nat (j := 0) h
theorem at1 {α : Type} {xs : List α} {v : α} (h : xs[1]? = some v) : atI xs 1 = some v := atI_nat (j := 1) h
theorem at2 {α : Type} {xs : List α} {v : α} (h : xs[2]? = some v) : atI xs 2 = some v := atI_nat (j := 2) h
theorem at3 {α : Type} {xs : List α} {v : α} (h : xs[3]? = some v) : atI xs 3 = some v := atI_nat (j := 3) h
theorem cmul_r {a b : Int} (h1 : -(2 ^ 64) < b) (h2 : b < 2 ^ 64) : CMul a b := .inr ⟨h1, h2⟩
theorem cmul_l {a b : Int} (h1 : -(2 ^ 64) < a) (h2 : a < 2 ^ 64) : CMul a b := .inl ⟨h1, h2⟩
theorem cpow_of {a e : Int} (h0 : 0 ≤ e) (h1 : e ≤ 1000000) (h2 : 0 ≤ a) (h3 : a < 2 ^ 64) : CPow a e := ⟨h0, h1, by omega⟩
theorem setIx {n : Nat} {j : Nat} (h : j < n) : ixN n (j : Int) = some j := by
  unfold ixN
  rw [if_pos (by omega), if_pos (by omega)]
  simp

theorem BoxAt.off {H : Hp} {p D : Addr} {N : Nat} {o : HO} (h : BoxAt H p N) (hD : H D = none) : BoxAt (upd H D o) p N := by
  obtain ⟨n, b, m, c, hx, r⟩ := h
  exact ⟨n, b, m, c, by rw [upd_ne (ne_of_none hx hD)]; exact hx, r⟩
theorem BoxAt.ne {H : Hp} {p D : Addr} {N : Nat} (h : BoxAt H p N) (hD : H D = none) : D ≠ p := by
  obtain ⟨_, _, _, _, hx, _⟩ := h
  intro e
  rw [e, hx] at hD
  cases hD
theorem BoxAt.keep {H H' : Hp} {p D : Addr} {N : Nat} {xs : List V} (h : BoxAt H p N) (nD : D ≠ p) : BoxAt (upd H D (.lst xs)) p N := by
  obtain ⟨n, b, m, c, hx, r⟩ := h
  exact ⟨n, b, m, c, by rw [upd_ne (Ne.symm nD)]; exact hx, r⟩
theorem ext_new {H : Hp} {p D : Addr} (o : HO) (hD : H D = none) : Ext1 p H (upd H D o) := fun a u _ ha => by
  rw [upd_ne (ne_of_none ha hD)]
  exact ha
theorem ext_trans {H H1 H2 : Hp} {p : Addr} (a : Ext1 p H H1) (b : Ext1 p H1 H2) : Ext1 p H H2 := fun x o n h => b x o n (a x o n h)
theorem ext_same {H H1 : Hp} {p : Addr} (a : Same H H1) : Ext1 p H H1 := fun x o _ h => a x o h
theorem ext_none {p a : Addr} {H H' : Hp} {N : Nat} (hp : BoxAt H' p N) (e : Ext1 p H H') (h : H' a = none) : H a = none := by
  cases q : H a with
  | none => rfl
  | some o =>
    have := e a o (hp.ne h) q
    rw [this] at h
    cases h
section
open PySem.Spec PyProof.Rows
variable {J : It} {n : Nat} {G : Hp → Prop} {Y : Nat → Hp → V → Hp → Prop} {g : TG} {te : TE} {vs : List Nat} {σ : L2.St} {H : Hp} {D : Addr} {Qd : Hp → Prop}
/-- a comprehension whose items are drawn -/
theorem lc_box (w : Walk J n G Y) (p : Addr) (N M : Nat) (Pv : Nat → V → Prop) (hp : BoxAt H p N) (hD : H D = none) (hz : n ≤ sizeLine) (hG : ∀ H', Ext1 p H H' → G H')
    (hs : ∀ i x Ha Hb (R : VK), i < n → BoxAt Ha p (N + i * M) → Ext1 p H Ha → Y i Ha x Hb → (∀ v H4, Pv i v → BoxAt H4 p (N + (i + 1) * M) → Ext1 p Ha H4 → R v H4) → g x (wipe σ vs) Hb fun σ2 H2 => wipe σ2 vs = wipe σ vs ∧ te σ2 H2 R)
    (hd : ∀ ws H', ws.length = n → (∀ (i : Nat) (v : V), ws[i]? = some v → Pv i v) → H' D = some (.lst ws) → BoxAt H' p (N + n * M) → Ext1 p H H' → Qd H') :
    ∃ W : Nat → Nat → Hp → Prop, (∃ m, W 0 m (upd H D (.lst []))) ∧ ∀ i m H, W i m H →
      (J.stop i H ∧ Qd H) ∨ (J.go i H ∧ ∃ Nx : Hp → Prop, (∀ H', Nx H' → ∃ m', m' < m ∧ W (i + 1) m' H') ∧ ∀ x H', J.yld i H x H' → g x (wipe σ vs) H' fun σ2 H2 => wipe σ2 vs = wipe σ vs ∧ tYes σ2 H2 fun b H3 =>
        if b = true then te σ2 H3 fun y H4 => ∃ acc, H4 D = some (.lst acc) ∧ acc.length < sizeLine ∧ Nx (upd H4 D (.lst (acc ++ [y]))) else Nx H3) := by
  have nD : D ≠ p := hp.ne hD
  refine lc_it w (fun i H' => ∃ ws : List V, H' D = some (.lst ws) ∧ ws.length = i ∧ (∀ (j : Nat) (v : V), ws[j]? = some v → Pv j v) ∧ BoxAt H' p (N + i * M) ∧ Ext1 p H H')
    ⟨[], upd_same, rfl, fun j v h => (by rw [List.getElem?_nil] at h; cases h), by rw [Nat.zero_mul]; exact hp.off hD, ext_new _ hD⟩ (fun i H' _ ⟨_, _, _, _, _, e⟩ => hG H' e) ?_ ?_
  · rintro i x Ha Hb hi ⟨ws, f, lw, pw, hB, E⟩ y
    let C : Hp → Prop := fun H' => ∃ ws : List V, H' D = some (.lst ws) ∧ ws.length = i + 1 ∧ (∀ (j : Nat) (v : V), ws[j]? = some v → Pv j v) ∧ BoxAt H' p (N + (i + 1) * M) ∧ Ext1 p H H'
    have key := hs i x Ha Hb (fun v' H4 => ∃ acc, H4 D = some (.lst acc) ∧ acc.length < sizeLine ∧ C (upd H4 D (.lst (acc ++ [v'])))) hi hB E y ?_
    · have e : (fun (σ2 : L2.St) (H2 : Hp) => wipe σ2 vs = wipe σ vs ∧ tYes σ2 H2 fun b H3 => if b = true then te σ2 H3 fun y H4 => ∃ acc, H4 D = some (.lst acc) ∧ acc.length < sizeLine ∧ C (upd H4 D (.lst (acc ++ [y]))) else C H3)
          = fun σ2 H2 => wipe σ2 vs = wipe σ vs ∧ te σ2 H2 fun v' H4 => ∃ acc, H4 D = some (.lst acc) ∧ acc.length < sizeLine ∧ C (upd H4 D (.lst (acc ++ [v']))) := by
        funext σ2 H2
        rw [e_tyes, if_pos rfl]
      show g x (wipe σ vs) Hb fun σ2 H2 => wipe σ2 vs = wipe σ vs ∧ tYes σ2 H2 fun b H3 => if b = true then te σ2 H3 fun y H4 => ∃ acc, H4 D = some (.lst acc) ∧ acc.length < sizeLine ∧ C (upd H4 D (.lst (acc ++ [y]))) else C H3
      rw [e]
      exact key
    · intro v H4 pv hB4 e4
      refine ⟨ws, e4 _ _ nD f, by omega, ws ++ [v], upd_same, by simp [lw], fun j u hu => ?_, hB4.keep (H' := H4) nD, fun a o na ha => ?_⟩
      · by_cases hj : j < ws.length
        · rw [List.getElem?_append_left hj] at hu
          exact pw j u hu
        · have : j = ws.length := by
            have := (List.getElem?_eq_some_iff.mp hu).1
            simp at this
            omega
          subst this
          rw [List.getElem?_concat_length] at hu
          cases hu
          rw [lw]
          exact pv
      · rw [upd_ne (ne_of_none ha hD)]
        exact e4 a o na (E a o na ha)
  · rintro H' ⟨ws, f, lw, pw, hB, E⟩
    exact hd ws H' lw pw f hB E
end
/-- drawn signs, as a text -/
theorem ones_of {P : Nat → Bool} : ∀ (ws : List V), (∀ (i : Nat) (v : V), ws[i]? = some v → ∃ c, P c = true ∧ v = V.str ⟨#[c]⟩) → ∃ l : List Nat, (∀ c ∈ l, P c = true) ∧ l.length = ws.length ∧ ws = l.map fun c => V.str ⟨#[c]⟩
  | [], _ => ⟨[], by simp, rfl, rfl⟩
  | w :: r, h => by
    obtain ⟨c, hc, rfl⟩ := h 0 w rfl
    obtain ⟨l, hl, ll, rfl⟩ := ones_of r fun i v hv => h (i + 1) v (by simpa using hv)
    refine ⟨c :: l, fun x hx => ?_, (by rw [List.length_cons, List.length_cons, ll]), rfl⟩
    rcases List.mem_cons.mp hx with rfl | hx
    · exact hc
    · exact hl x hx
theorem ones_sum (l : List Nat) : ((l.map fun c => (⟨#[c]⟩ : Str)).map fun x => x.length).sum = l.length := by
  induction l with
  | nil => rfl
  | cons a r ih =>
    simp only [List.map_cons, List.sum_cons, ih, List.length_cons]
    show 1 + _ = _
    omega
theorem join_ones (l : List Nat) : Txt.join (Str.ofString "") (l.map fun c => (⟨#[c]⟩ : Str)) = tx l := by
  have : Str.ofString "" = Str.empty := by decide +kernel
  rw [this, join_signs]
  rfl
/-- a sign of a text, by its place -/
theorem sign_at {A : Str} {P : Nat → Bool} (h : (sg A).all P = true) {d : Int} (h0 : 0 ≤ d) (h1 : d < (A.length : Int)) : ∃ c, P c = true ∧ atI A.cps.toList d = some c := by
  obtain ⟨j, rfl⟩ : ∃ j : Nat, d = (j : Int) := ⟨d.toNat, by omega⟩
  have hj : j < (sg A).length := by rw [sg_len]; omega
  exact ⟨(sg A)[j], List.all_eq_true.mp h _ (List.getElem_mem hj), atI_nat (List.getElem?_eq_getElem hj)⟩
/-- an item of a menu, by its place -/
theorem menu_at {xs : List V} {d : Int} (h0 : 0 ≤ d) (h1 : d < (xs.length : Int)) : ∃ j v, d = ((j : Nat) : Int) ∧ xs[j]? = some v ∧ atI xs d = some v := by
  obtain ⟨j, rfl⟩ : ∃ j : Nat, d = (j : Int) := ⟨d.toNat, by omega⟩
  have hj : j < xs.length := by omega
  exact ⟨j, xs[j], rfl, List.getElem?_eq_getElem hj, atI_nat (List.getElem?_eq_getElem hj)⟩
end Nv
namespace Nv
open PySem L2
/-- an item of a menu -/
theorem r_menu {K : PySem.W.Frag} {H : Hp} {R : VK} {xs : List V} {m : Addr} {e : Int} (f : H m = some (.lst xs)) (e0 : 0 ≤ e) (e1 : e < (xs.length : Int)) (q : ∀ v ∈ xs, R v H) : rIxL K (.ref m) (.int e) H R := by
  obtain ⟨j, v, _, hv, hat⟩ := menu_at e0 e1
  exact r_ixL (.of f) hat (q v (List.mem_of_getElem? hv))
end Nv
namespace Nv
open PySem L2
theorem big_log {i : Int} (h : i.natAbs < 10 ^ 500) : i.natAbs.log2 < 1920 := by
  by_cases h0 : i.natAbs = 0
  · rw [h0]
    decide +kernel
  · rw [Nat.log2_lt h0]
    exact Nat.lt_of_lt_of_le h (by decide +kernel)
theorem big_len {i : Int} (h : i.natAbs < 10 ^ 500) : (Str.ofString (toString i)).length ≤ 510 := by
  have h1 := int_text_length_le10 (a := i) (k := 500) (by decide) (by omega)
  have e : (Str.ofString (toString i)).length = (toString i).length := ofString_length _
  omega
end Nv

namespace Nv
open PySem L2

/-! splits at blanks, as lists of signs -/
def spl : Nat → List Nat → List Nat → List (List Nat)
  | _, q, [] => [q]
  | k, q, c :: r => if 0 < k ∧ c = 32 then q :: spl (k - 1) [] r else spl k (q ++ [c]) r
def joinL : List (List Nat) → List Nat
  | [] => []
  | [a] => a
  | a :: b :: r => a ++ 32 :: joinL (b :: r)
theorem spl_ne : ∀ (k : Nat) (q r : List Nat), ∃ a l, spl k q r = a :: l
  | _, q, [] => ⟨q, [], rfl⟩
  | k, q, c :: r => by
    unfold spl
    split
    · exact ⟨_, _, rfl⟩
    · exact spl_ne k _ r
theorem join_spl : ∀ (k : Nat) (q r : List Nat), joinL (spl k q r) = q ++ r
  | _, q, [] => by simp [spl, joinL]
  | k, q, c :: r => by
    unfold spl
    split
    · rename_i h
      obtain ⟨a, l, e⟩ := spl_ne (k - 1) [] r
      rw [e, joinL, ← e, join_spl, h.2]
      rfl
    · rw [join_spl]
      simp
theorem spl_zero : ∀ (q r : List Nat), spl 0 q r = [q ++ r]
  | q, [] => by simp [spl]
  | q, c :: r => by
    unfold spl
    rw [if_neg (by simp), spl_zero]
    simp
/-- few cuts, of many -/
theorem spl_few : ∀ (r q : List Nat) (k n : Nat), k ≤ n → spl k q r = if (spl n q r).length ≤ k then spl n q r else (spl n q r).take k ++ [joinL ((spl n q r).drop k)]
  | [], q, k, n, h => by
    cases k with
    | zero => simp [spl, joinL]
    | succ k => simp [spl]
  | c :: r, q, k, n, h => by
    by_cases hc : c = 32
    · cases k with
      | zero =>
        have : ¬ (spl n q (c :: r)).length ≤ 0 := by
          obtain ⟨a, l, e⟩ := spl_ne n q (c :: r)
          rw [e]
          simp
        rw [if_neg this, spl_zero, List.drop_zero, join_spl]
        rfl
      | succ k =>
        obtain ⟨m, rfl⟩ : ∃ m, n = m + 1 := ⟨n - 1, by omega⟩
        have e1 : ∀ j, spl (j + 1) q (c :: r) = q :: spl j [] r := fun j => by
          conv => lhs; unfold spl
          rw [if_pos ⟨by omega, hc⟩]
          rfl
        rw [e1, e1, spl_few r [] k m (by omega)]
        by_cases l : (spl m [] r).length ≤ k
        · rw [if_pos l, if_pos (by simpa using l)]
        · rw [if_neg l, if_neg (by simpa using l)]
          simp
    · have e1 : ∀ j, spl j q (c :: r) = spl j (q ++ [c]) r := fun j => by
        conv => lhs; unfold spl
        rw [if_neg fun z => hc z.2]
      rw [e1, e1]
      exact spl_few r _ k n h
theorem parts_spl {x : Str} : ∀ (r p q : List Nat) (k : Nat), sg x = p ++ (q ++ r) → (StrLaws.partsFrom x 1 p.length (occL r (p.length + q.length) k)).map sg = spl k q r
  | [], p, q, k, e => by
    show [sg (Builtin.Str.strSub x p.length x.length)] = [q]
    rw [sub_sg, e, ← sg_len, e]
    simp
  | c :: r, p, q, k, e => by
    rw [occL_cons]
    unfold spl
    by_cases h : 0 < k ∧ c = 32
    · rw [if_pos h, if_pos h]
      show sg (Builtin.Str.strSub x p.length (p.length + q.length)) :: (StrLaws.partsFrom x 1 (p.length + q.length + 1) _).map sg = _
      have := parts_spl r (p ++ q ++ [c]) [] (k - 1) (by rw [e]; simp)
      simp only [List.length_append, List.length_cons, List.length_nil, Nat.add_zero] at this
      rw [this, sub_sg, e]
      simp
    · rw [if_neg h, if_neg h]
      have := parts_spl r p (q ++ [c]) k (by rw [e]; simp)
      rw [List.length_append] at this
      exact this
open Builtin.Str StrLaws in
theorem parts_all (x : Str) (k : Nat) : ((if (decide (x.length < (Str.ofString " ").length) || decide (Builtin.Str.strKind x < Builtin.Str.strKind (Str.ofString " "))) = true then [x] else
    if (occurrences x (Str.ofString " ") 0 x.length k).isEmpty = true then [x] else partsBetween x (occurrences x (Str.ofString " ") 0 x.length k) (Str.ofString " ").length)).map sg = spl k [] (sg x) := by
  have one : (Str.ofString " ").length = 1 := by decide +kernel
  have k1 : Builtin.Str.strKind (Str.ofString " ") = 1 := by decide +kernel
  have k2 : 1 ≤ Builtin.Str.strKind x := by
    unfold Builtin.Str.strKind
    split
    · decide
    · split <;> decide
  have key := parts_spl (x := x) (sg x) [] [] k (by simp)
  simp only [List.length_nil, Nat.add_zero] at key
  have whole : partsFrom x 1 0 [] = [x] := by
    show [strSub x 0 x.length] = [x]
    congr 1
    apply sg_inj
    rw [sub_sg, ← sg_len]
    simp
  rw [one, k1]
  by_cases h1 : x.length < 1
  · rw [if_pos (by simp; omega)]
    have : sg x = [] := List.eq_nil_of_length_eq_zero (by rw [sg_len]; omega)
    rw [List.map_cons, this]
    rfl
  · rw [if_neg (by simp; omega)]
    rw [sp_is, occ_is]
    by_cases h2 : occL (sg x) 0 k = []
    · rw [if_pos (by rw [h2]; rfl)]
      rw [h2, whole] at key
      exact key
    · rw [if_neg (by simpa using h2), partsBetween_eq]
      exact key
open StrLaws in
theorem splitMax_spl (x : Str) (k : Nat) : (Txt.splitMax x (Str.ofString " ") (k : Int)).map sg = spl k [] (sg x) := by
  have e : limitOf x (k : Int) = k := by
    unfold limitOf
    rw [if_neg (by omega)]
    rfl
  unfold Txt.splitMax
  rw [e]
  exact parts_all x _
theorem split_spl (x : Str) : (Txt.split x (Str.ofString " ")).map sg = spl (x.length + 1) [] (sg x) := by
  unfold Txt.split
  exact parts_all x _
end Nv
namespace Nv
open PySem L2
theorem spl_skip {a : List Nat} (h : ∀ c ∈ a, c ≠ 32) : ∀ (k : Nat) (q r : List Nat), spl k q (a ++ r) = spl k (q ++ a) r := by
  induction a with
  | nil =>
    intro k q r
    simp
  | cons c a ih =>
    intro k q r
    have hc := h c (by simp)
    show spl k q (c :: (a ++ r)) = _
    conv => lhs; unfold spl
    rw [if_neg fun z => hc z.2, ih fun d hd => h d (by simp [hd])]
    simp
theorem spl_one {a : List Nat} (h : ∀ c ∈ a, c ≠ 32) (k : Nat) : spl k [] a = [a] := by
  have := spl_skip h k [] []
  simp only [List.append_nil, List.nil_append] at this
  rw [this]
  rfl
theorem spl_hit {a r : List Nat} (h : ∀ c ∈ a, c ≠ 32) (k : Nat) : spl (k + 1) [] (a ++ 32 :: r) = a :: spl k [] r := by
  rw [spl_skip h]
  conv => lhs; unfold spl
  rw [if_pos ⟨by omega, rfl⟩]
  simp
theorem spl_join : ∀ (ws : List (List Nat)) (t : List Nat) (k : Nat), (∀ a ∈ ws, ∀ c ∈ a, c ≠ 32) → ws.length ≤ k → (k = ws.length ∨ ∀ c ∈ t, c ≠ 32) → spl k [] (joinL (ws ++ [t])) = ws ++ [t]
  | [], t, k, _, _, h => by
    show spl k [] t = [t]
    rcases h with h | h
    · have h : k = 0 := h
      rw [h, spl_zero]
      rfl
    · exact spl_one h k
  | a :: ws, t, k, ha, hk, h => by
    obtain ⟨j, rfl⟩ : ∃ j, k = j + 1 := ⟨k - 1, by simp at hk; omega⟩
    have ih := spl_join ws t j (fun b hb => ha b (by simp [hb])) (by simp at hk; omega) (h.imp (fun h => by simp at h; omega) id)
    obtain ⟨b, l, e⟩ : ∃ b l, ws ++ [t] = b :: l := by
      cases ws with
      | nil => exact ⟨_, _, rfl⟩
      | cons b l => exact ⟨_, _, rfl⟩
    have : joinL (a :: ws ++ [t]) = a ++ 32 :: joinL (ws ++ [t]) := by
      show joinL (a :: (ws ++ [t])) = _
      rw [e]
      rfl
    rw [this, spl_hit (ha a (by simp)), ih]
    rfl
theorem joinL_sg : ∀ ps : List Str, sg (Txt.join (Str.ofString " ") ps) = joinL (ps.map sg)
  | [] => by
    show sg (Builtin.Str.glued (Str.ofString " ") []) = _
    rw [StrLaws.glued_eq_join]
    rfl
  | [a] => by
    show sg (Builtin.Str.glued (Str.ofString " ") [a]) = _
    rw [StrLaws.glued_eq_join]
    rfl
  | a :: b :: r => by
    have ih := joinL_sg (b :: r)
    have e1 : ∀ l, Txt.join (Str.ofString " ") l = Str.join (Str.ofString " ") l := fun l => StrLaws.glued_eq_join _ _
    rw [e1] at ih ⊢
    show sg (a ++ Str.ofString " " ++ Str.join (Str.ofString " ") (b :: r)) = _
    rw [sg_app, sg_app, ih]
    have : sg (Str.ofString " ") = [32] := by decide +kernel
    rw [this]
    simp [joinL]
theorem splitMax_ne (x : Str) (k : Nat) : ∃ a l, Txt.splitMax x (Str.ofString " ") (k : Int) = a :: l := by
  have e := splitMax_spl x k
  obtain ⟨a, l, h⟩ := spl_ne k [] (sg x)
  rw [h] at e
  cases q : Txt.splitMax x (Str.ofString " ") (k : Int) with
  | nil =>
    rw [q] at e
    cases e
  | cons a l => exact ⟨_, _, rfl⟩
/-- a cut off split, by the whole one -/
theorem splitMax_few (x : Str) : Txt.splitMax x (Str.ofString " ") 3 = if (Txt.split x (Str.ofString " ")).length ≤ 3 then Txt.split x (Str.ofString " ") else (Txt.split x (Str.ofString " ")).take 3 ++ [Txt.join (Str.ofString " ") ((Txt.split x (Str.ofString " ")).drop 3)] := by
  have inj : ∀ l m : List Str, l.map sg = m.map sg → l = m := by
    intro l m h
    rw [← map_tx_sg l, ← map_tx_sg m, h]
  apply inj
  have h3 := splitMax_spl x 3
  have hs := split_spl x
  have hl : (Txt.split x (Str.ofString " ")).length = (spl (x.length + 1) [] (sg x)).length := by rw [← hs, List.length_map]
  have big : spl (x.length + 1) [] (sg x) = spl (x.length + 4) [] (sg x) := by
    rw [spl_few (sg x) [] (x.length + 1) (x.length + 4) (by omega)]
    have : ∀ (r q : List Nat) (n : Nat), (spl n q r).length ≤ r.length + 1 := by
      intro r
      induction r with
      | nil => intro q n; simp [spl]
      | cons c r ih =>
        intro q n
        unfold spl
        split
        · have := ih [] (n - 1)
          simp only [List.length_cons]
          omega
        · have := ih (q ++ [c]) n
          simp only [List.length_cons]
          omega
    have := this (sg x) [] (x.length + 4)
    rw [sg_len] at this
    rw [if_pos this]
  have e3 : ((3 : Nat) : Int) = 3 := rfl
  rw [e3] at h3
  rw [h3, spl_few (sg x) [] 3 (x.length + 4) (by omega), ← big, hl]
  by_cases h : (spl (x.length + 1) [] (sg x)).length ≤ 3
  · rw [if_pos h, if_pos h, hs]
  · rw [if_neg h, if_neg h, List.map_append, List.map_take, hs, List.map_cons, joinL_sg, List.map_drop, hs]
    rfl
end Nv

namespace Nv
open PySem L2

/-! values whose text is short, with long numbers -/
structure SB (W D : Nat) (d : PyData) : Prop where
  s : d.leavesShort 1000 = true
  w : d.weight ≤ W
  p : d.depth ≤ D
  h : d.showable = true
structure SBs (W D : Nat) (ds : List PyData) : Prop where
  s : PyData.leavesShortAll 1000 ds = true
  w : PyData.weightAll ds ≤ W
  p : PyData.depthAll ds ≤ D
  h : PyData.showableAll ds = true
theorem SB.len {W D : Nat} {d : PyData} (h : SB W D d) (hw : W ≤ 16000) : d.shown.length ≤ sizeLine := by
  have h1 := PyData.shown_le 1000 (by decide) d h.s
  have h2 : (1000 + 2) * d.weight ≤ (1000 + 2) * 16000 := Nat.mul_le_mul_left _ (Nat.le_trans h.w hw)
  have e : sizeLine = 16777216 := sizeLine_eq
  omega
theorem SB.le {W D W' D' : Nat} {d : PyData} (h : SB W D d) (a : W ≤ W') (b : D ≤ D') : SB W' D' d := ⟨h.s, Nat.le_trans h.w a, Nat.le_trans h.p b, h.h⟩
theorem SB.non {W D : Nat} : SB W D .none := ⟨rfl, Nat.zero_le _, Nat.zero_le _, rfl⟩
theorem SB.bl {W D : Nat} (b : Bool) : SB W D (.bool b) := ⟨rfl, Nat.zero_le _, Nat.zero_le _, rfl⟩
theorem SB.int {D : Nat} {i : Int} (h : i.natAbs < 10 ^ 500) : SB 1921 D (.int i) := by
  have hl := big_log h
  refine ⟨?_, ?_, Nat.zero_le _, ?_⟩
  · have h1 := big_len h
    have h2 : (PyData.shown (.int i)).length ≤ 1000 := by
      simp only [PyData.shown]
      exact Nat.le_trans h1 (by omega)
    simpa only [PyData.leavesShort, decide_eq_true_eq] using h2
  · simp only [PyData.weight]
    split <;> omega
  · simp only [PyData.showable, decide_eq_true_eq]
    omega
theorem SB.str {D : Nat} {z : Str} (a : Asc z) : SB z.length D (.str z) := by
  refine ⟨?_, Nat.le_refl _, Nat.zero_le _, rfl⟩
  simp only [PyData.leavesShort, List.all_eq_true, decide_eq_true_eq]
  exact fun c hc => Nat.lt_of_lt_of_le (a c hc) (by decide)
theorem SB.list {W D : Nat} {ds : List PyData} (h : SBs W D ds) : SB W (D + 1) (.list ds) := by
  refine ⟨?_, ?_, ?_, ?_⟩
  · simpa only [PyData.leavesShort] using h.s
  · simpa only [PyData.weight] using h.w
  · have := h.p
    simp only [PyData.depth]
    omega
  · simpa only [PyData.showable] using h.h
theorem SB.tuple {W D : Nat} {ds : List PyData} (h : SBs W D ds) : SB W (D + 1) (.tuple ds) := by
  refine ⟨?_, ?_, ?_, ?_⟩
  · simpa only [PyData.leavesShort] using h.s
  · simpa only [PyData.weight] using h.w
  · have := h.p
    simp only [PyData.depth]
    omega
  · simpa only [PyData.showable] using h.h
theorem SB.dict1 {W1 W2 D : Nat} {k v : PyData} (a : SB W1 D k) (b : SB W2 D v) : SB (W1 + W2 + 2) (D + 1) (.dict [(k, v)]) := by
  refine ⟨?_, ?_, ?_, ?_⟩
  · simp only [PyData.leavesShort, PyData.leavesShortKv, a.s, b.s, Bool.and_self]
  · have := a.w
    have := b.w
    simp only [PyData.weight, PyData.weightKv]
    omega
  · have := a.p
    have := b.p
    simp only [PyData.depth, PyData.depthKv]
    omega
  · simp only [PyData.showable, PyData.showableKv, a.h, b.h, Bool.and_self]
theorem SBs.nil {W D : Nat} : SBs W D [] := ⟨rfl, Nat.zero_le _, Nat.zero_le _, rfl⟩
theorem SBs.cons {W1 W2 D : Nat} {d : PyData} {ds : List PyData} (a : SB W1 D d) (b : SBs W2 D ds) : SBs (W1 + 1 + W2) D (d :: ds) := by
  refine ⟨?_, ?_, ?_, ?_⟩
  · simp only [PyData.leavesShortAll, a.s, b.s, Bool.and_self]
  · have := a.w
    have := b.w
    simp only [PyData.weightAll]
    omega
  · have := a.p
    have := b.p
    simp only [PyData.depthAll]
    omega
  · simp only [PyData.showableAll, a.h, b.h, Bool.and_self]
theorem SBs.le {W D W' D' : Nat} {d : List PyData} (h : SBs W D d) (a : W ≤ W') (b : D ≤ D') : SBs W' D' d := ⟨h.s, Nat.le_trans h.w a, Nat.le_trans h.p b, h.h⟩
theorem SBs.app {W1 W2 D : Nat} : ∀ {ds es : List PyData}, SBs W1 D ds → SBs W2 D es → SBs (W1 + W2) D (ds ++ es)
  | [], es, a, b => b.le (by omega) (Nat.le_refl _)
  | d :: ds, es, a, b => by
    have h1 := a.s
    have h2 := a.w
    have h3 := a.p
    have h4 := a.h
    simp only [PyData.leavesShortAll, Bool.and_eq_true] at h1
    simp only [PyData.weightAll] at h2
    simp only [PyData.depthAll] at h3
    simp only [PyData.showableAll, Bool.and_eq_true] at h4
    have q : SBs (PyData.weightAll ds) D ds := ⟨h1.2, Nat.le_refl _, by omega, h4.2⟩
    have p : SB (PyData.weight d) D d := ⟨h1.1, Nat.le_refl _, by omega, h4.1⟩
    have r := SBs.cons p (SBs.app q b)
    exact r.le (by omega) (Nat.le_refl _)
theorem r_reprB {H : Hp} {Q : VK} {v : V} {d : PyData} {W D : Nat} (h : DV H v d) (s : SB W D d) (hw : W ≤ 16000) (hd : D ≤ 60) (q : Q (.str d.shown) H) : rReprA [v] H Q :=
  ⟨v, d, rfl, h, s.h, Nat.le_trans s.p hd, s.len hw, fun i e => (by
    have := s.h
    rw [e] at this
    simpa only [PyData.showable, decide_eq_true_eq] using this), q⟩
theorem dp_strs {K : PySem.W.Frag} {H : Hp} : ∀ l : List Str, DpAll K H (l.map V.str) (l.map PyData.str)
  | [] => .nil
  | c :: r => .cons (.str _) (dp_strs r)
theorem strs_ft (l : List Str) (h : ∀ z ∈ l, Asc z) : Fts (wt (l.map sg)) 0 (l.map PyData.str) := by
  have := Fts.strs (D := 0) (ts := l.map sg) (fun t ht c hc => by
    obtain ⟨z, hz, rfl⟩ := List.mem_map.mp ht
    exact h z hz c hc)
  have e : strsD (l.map sg) = l.map PyData.str := by
    unfold strsD
    rw [List.map_map]
    apply List.map_congr_left
    intro z _
    show PyData.str (tx (sg z)) = _
    rw [tx_sg]
  rw [e] at this
  exact this
theorem shaped_strs (l : List Str) (h : ∀ z ∈ l, Asc z) : SeqAt.shaped (.list (l.map PyData.str)) = true := by
  have f := Ft.list (strs_ft l h)
  have d : (PyData.list (l.map PyData.str)).depth ≤ 1 := f.s.p
  unfold SeqAt.shaped
  rw [f.c]
  simp
  omega
theorem eqv_nilS (l : List Str) : PyData.eqv (.list (l.map PyData.str)) (.list []) = l.isEmpty := by
  cases l <;> simp [PyData.eqv, PyData.eqvAll]
theorem r_eq_nil {K : PySem.W.Frag} {H : Hp} {Q : VK} {D p : Addr} {l : List Str} (h : ∀ z ∈ l, Asc z) (hD : H D = some (.lst (l.map V.str))) (hp : H p = some (.lst [])) (q : Q (.bl l.isEmpty) H) : rEqD K (.ref D) (.ref p) H Q :=
  ⟨_, _, .lst (.of hD) (dp_strs l), .lst (.of hp) .nil, shaped_strs l h, by decide, by rw [eqv_nilS]; exact q⟩
theorem r_ne_nil {K : PySem.W.Frag} {H : Hp} {Q : VK} {D p : Addr} {l : List Str} (h : ∀ z ∈ l, Asc z) (hD : H D = some (.lst (l.map V.str))) (hp : H p = some (.lst [])) (q : Q (.bl (!l.isEmpty)) H) : rNeD K (.ref D) (.ref p) H Q :=
  ⟨_, _, .lst (.of hD) (dp_strs l), .lst (.of hp) .nil, shaped_strs l h, by decide, by rw [eqv_nilS]; exact q⟩
theorem cutV_from (xs : List V) (b : Nat) : cutV xs (some (b : Int)) none = xs.drop b := by
  unfold cutV
  rw [HT.sIx_nat]
  simp only [HT.sIx]
  rcases Nat.le_total b xs.length with h | h
  · rw [Nat.min_eq_left h]
    apply List.take_of_length_le
    simp
  · rw [Nat.min_eq_right h, List.drop_eq_nil_of_le h, List.drop_eq_nil_of_le (Nat.le_refl _)]
    simp
theorem join_bound (ps : List Str) (B : Nat) (h : ∀ p ∈ ps, p.length ≤ B) : (ps.map (·.length)).sum ≤ B * ps.length := by
  induction ps with
  | nil => simp
  | cons a r ih =>
    have h1 := ih fun p hp => h p (by simp [hp])
    have h2 := h a (by simp)
    simp only [List.map_cons, List.sum_cons, List.length_cons, Nat.mul_add, Nat.mul_one]
    omega
theorem join_len : ∀ (ps : List Str), (Txt.join (Str.ofString " ") ps).length ≤ (ps.map (·.length)).sum + ps.length
  | [] => by
    have : Txt.join (Str.ofString " ") [] = Str.empty := rfl
    rw [this]
    exact Nat.zero_le _
  | [a] => by
    have : Txt.join (Str.ofString " ") [a] = a := rfl
    rw [this]
    simp
  | a :: b :: r => by
    have ih := join_len (b :: r)
    have e : (Txt.join (Str.ofString " ") (a :: b :: r)).length = a.length + 1 + (Txt.join (Str.ofString " ") (b :: r)).length := by
      rw [← sg_len (Txt.join (Str.ofString " ") (a :: b :: r)), ← sg_len (Txt.join (Str.ofString " ") (b :: r)), joinL_sg, joinL_sg, ← sg_len a]
      simp [joinL]
      omega
    rw [e]
    simp only [List.map_cons, List.sum_cons, List.length_cons] at ih ⊢
    omega
theorem Asc.join {ps : List Str} (h' : ∀ p ∈ ps, Asc p) : Asc (Txt.join (Str.ofString " ") ps) := by
  intro c hc
  have hc : c ∈ sg (Txt.join (Str.ofString " ") ps) := hc
  rw [joinL_sg] at hc
  have : ∀ ls : List (List Nat), c ∈ joinL ls → c = 32 ∨ ∃ l ∈ ls, c ∈ l := by
    intro ls
    induction ls with
    | nil => intro h; cases h
    | cons a r ih =>
      cases r with
      | nil =>
        intro h
        exact .inr ⟨a, by simp, h⟩
      | cons b r =>
        intro h
        have h : c ∈ a ++ 32 :: joinL (b :: r) := h
        rcases List.mem_append.mp h with h | h
        · exact .inr ⟨a, by simp, h⟩
        · rcases List.mem_cons.mp h with h | h
          · exact .inl h
          · rcases ih h with h | ⟨l, hl, h⟩
            · exact .inl h
            · exact .inr ⟨l, by simp only [List.mem_cons] at hl ⊢; exact .inr hl, h⟩
  rcases this _ hc with h | ⟨l, hl, h⟩
  · omega
  · obtain ⟨p, hp, rfl⟩ := List.mem_map.mp hl
    exact h' p hp c h
theorem asc_of {z : Str} (h : (sg z).all (fun c => decide (c < 128)) = true) : Asc z := fun c hc => by
  simpa using List.all_eq_true.mp h c hc
/-! texts of few signs, not too many -/
structure Gd (B : Nat) (z : Str) : Prop where
  a : Asc z
  l : z.length ≤ B
theorem Gd.le {B C : Nat} {z : Str} (h : Gd B z) (k : B ≤ C) : Gd C z := ⟨h.a, Nat.le_trans h.l k⟩
theorem Gd.app {B C : Nat} {x y : Str} (h : Gd B x) (g : Gd C y) : Gd (B + C) (x ++ y) := ⟨h.a.app g.a, by
  rw [append_len]
  exact Nat.add_le_add h.l g.l⟩
theorem Gd.cut {B : Nat} {z : Str} (h : Gd B z) (lo hi : Option Int) : Gd B (cutS z lo hi) := ⟨h.a.cut lo hi, Nat.le_trans (cutS_length z lo hi) h.l⟩
theorem Gd.one {c : Nat} (h : c < 128) : Gd 1 ⟨#[c]⟩ := ⟨Asc.one h, Nat.le_refl _⟩
theorem Gd.fit {B : Nat} {z : Str} (h : Gd B z) (k : B ≤ 16777216) : z.length ≤ sizeLine := by
  rw [sizeLine_eq]
  exact Nat.le_trans h.l k
theorem Gd.upper {B : Nat} {z : Str} (h : Gd B z) : Gd B (Txt.upper z) := by
  rw [PyProof.Rows.upper_ascii h.a]
  refine ⟨fun c hc => ?_, ?_⟩
  · simp only [Array.toList_map, List.mem_map] at hc
    obtain ⟨d, hd, rfl⟩ := hc
    have := h.a d hd
    unfold PyProof.Rows.up1
    split <;> omega
  · have := h.l
    simpa [Str.length] using this
theorem Gd.lower {B : Nat} {z : Str} (h : Gd B z) : Gd B (Txt.lower z) := by
  rw [PyProof.Rows.lower_ascii h.a]
  refine ⟨fun c hc => ?_, ?_⟩
  · simp only [Array.toList_map, List.mem_map] at hc
    obtain ⟨d, hd, rfl⟩ := hc
    have := h.a d hd
    unfold PyProof.Rows.lo1
    split <;> omega
  · have := h.l
    simpa [Str.length] using this
theorem joinL_take : ∀ (l : List (List Nat)) (n : Nat), (joinL (l.take n)).length ≤ (joinL l).length
  | [], n => by simp
  | a :: r, 0 => by simp [joinL]
  | [a], n + 1 => by simp
  | a :: b :: r, n + 1 => by
    have ih := joinL_take (b :: r) n
    cases n with
    | zero => simp [joinL]
    | succ n =>
      rw [List.take_succ_cons, List.take_succ_cons]
      rw [List.take_succ_cons] at ih
      simp only [joinL, List.length_append, List.length_cons]
      omega
/-- the words of a text -/
theorem words_join (z : Str) (n : Nat) : (Txt.join (Str.ofString " ") ((Txt.split z (Str.ofString " ")).take n)).length ≤ z.length := by
  rw [← sg_len, joinL_sg, List.map_take, split_spl]
  refine Nat.le_trans (joinL_take _ _) ?_
  rw [join_spl, List.nil_append, sg_len]
  exact Nat.le_refl _
theorem cutV_but (xs : List V) : cutV xs none (some (-1)) = xs.take (xs.length - 1) := by
  unfold cutV
  have : HT.sIx xs.length xs.length (some (-1)) = xs.length - 1 := by
    unfold HT.sIx
    simp
    omega
  rw [this]
  simp [HT.sIx]
theorem at_last {α : Type} {xs : List α} {y : α} (h : xs.getLast? = some y) : atI xs (-1) = some y := by
  obtain ⟨ys, rfl⟩ := List.getLast?_eq_some_iff.mp h
  have e : ixN (ys ++ [y]).length (-1) = some ys.length := by
    unfold ixN
    rw [if_neg (by decide), if_pos (by rw [List.length_append, List.length_singleton]; omega)]
    congr 1
    rw [List.length_append, List.length_singleton]
    omega
  unfold atI
  rw [e]
  simp
/-! tuples, cut and put together -/
theorem cutV_all {xs : List V} {lo hi : Option Int} (h : HT.sIx xs.length 0 lo = 0 ∧ HT.sIx xs.length xs.length hi = xs.length) : cutV xs lo hi = xs := by
  unfold cutV
  rw [h.1, h.2]
  simp
theorem r_slA {K : PySem.W.Frag} {H : Hp} {Q : VK} {a : Addr} {xs : List V} {lo hi : Option Int} (h : H a = some (.tup xs)) (q : ∀ b H', Same H H' → H' b = some (.tup (cutV xs lo hi)) → Q (.ref b) H') : rSlA K (.ref a) lo hi H Q := by
  refine ⟨a, xs, rfl, .of h, fun w => ?_, fun _ p hp => q p _ (Same.new hp) upd_same⟩
  exact q a H (Same.refl H) (by rw [cutV_all w]; exact h)
theorem r_catA {K : PySem.W.Frag} {H : Hp} {Q : VK} {a b : Addr} {xs ys : List V} (h : H a = some (.tup xs)) (g : H b = some (.tup ys)) (l : xs.length + ys.length ≤ sizeLine) (q : ∀ c H', Same H H' → H' c = some (.tup (xs ++ ys)) → Q (.ref c) H') : rCatA K (.ref a) (.ref b) H Q := by
  refine ⟨a, b, xs, ys, rfl, rfl, .of h, .of g, l, fun e => ?_, fun _ e => ?_, fun _ _ p hp => q p _ (Same.new hp) upd_same⟩
  · exact q b H (Same.refl H) (by rw [e]; exact g)
  · exact q a H (Same.refl H) (by rw [e, List.append_nil]; exact h)
end Nv

namespace K57
open PySem L2 Nv
def top (i : Nat) : Stmt := PySem.Challenge.pw_neverunsaid_k57_acts_as_lines.main.body.getD i (.Pass ⟨0, 0, 0, 0⟩)
abbrev s_is_int : Stmt := top 1
abbrev s_is_count : Stmt := top 2
abbrev s_is_signs : Stmt := top 3
abbrev s_is_numeral : Stmt := top 4
abbrev s_is_cell : Stmt := top 12
abbrev s_is_text : Stmt := top 13
abbrev s_form_of : Stmt := top 16
abbrev s_is_act : Stmt := top 17
abbrev s_is_item : Stmt := top 18
abbrev s_act_line : Stmt := top 20
abbrev s_read_act : Stmt := top 21
abbrev s_act_in : Stmt := top 22
abbrev s_item_in : Stmt := top 23
abbrev s_l_cell : Stmt := top 25
abbrev s_l_box : Stmt := top 26
abbrev s_l_take : Stmt := top 27
abbrev s_l_kinds : Stmt := top 28
abbrev s_l_signs : Stmt := top 29
abbrev s_l_item : Stmt := top 30
abbrev s_l_act : Stmt := top 31
abbrev s_l_is_number : Stmt := top 32
abbrev s_l_is_cell : Stmt := top 33
abbrev s_l_is_text : Stmt := top 34
abbrev s_l_is_act : Stmt := top 35
abbrev s_l_written : Stmt := top 36
abbrev s_l_number : Stmt := top 37
abbrev s_l_read : Stmt := top 38
abbrev s_l_told : Stmt := top 39
abbrev s_l_line : Stmt := top 40
abbrev s_l_spoilt_line : Stmt := top 41
abbrev s_l_spoilt_act : Stmt := top 42
abbrev s_l_odd : Stmt := top 43
abbrev s_l_same : Stmt := top 44
abbrev s_l_right : Stmt := top 45
abbrev s_law : Stmt := top 46
abbrev s_InvalidLine_init : Stmt := inClass (top 7) 0
theorem sc_InvalidLine_init : FnScope ["self", "given"] ["self", "given"] (defScope s_InvalidLine_init) := ⟨rfl, rfl, rfl, by decide +kernel, rfl, by decide +kernel, by decide +kernel⟩
abbrev s_InvalidAct_init : Stmt := inClass (top 8) 0
theorem sc_InvalidAct_init : FnScope ["self", "given"] ["self", "given"] (defScope s_InvalidAct_init) := ⟨rfl, rfl, rfl, by decide +kernel, rfl, by decide +kernel, by decide +kernel⟩
theorem sc_is_int : FnScope ["value"] ["value"] (defScope s_is_int) := ⟨rfl, rfl, rfl, by decide +kernel, rfl, by decide +kernel, by decide +kernel⟩
theorem sc_is_count : FnScope ["value"] ["value"] (defScope s_is_count) := ⟨rfl, rfl, rfl, by decide +kernel, rfl, by decide +kernel, by decide +kernel⟩
theorem sc_is_signs : FnScope ["value"] ["value"] (defScope s_is_signs) := ⟨rfl, rfl, rfl, by decide +kernel, rfl, by decide +kernel, by decide +kernel⟩
theorem sc_is_numeral : FnScope ["text"] ["text"] (defScope s_is_numeral) := ⟨rfl, rfl, rfl, by decide +kernel, rfl, by decide +kernel, by decide +kernel⟩
theorem sc_is_cell : FnScope ["value"] ["value"] (defScope s_is_cell) := ⟨rfl, rfl, rfl, by decide +kernel, rfl, by decide +kernel, by decide +kernel⟩
theorem sc_is_text : FnScope ["value"] ["value"] (defScope s_is_text) := ⟨rfl, rfl, rfl, by decide +kernel, rfl, by decide +kernel, by decide +kernel⟩
theorem sc_form_of : FnScope ["value"] ["value"] (defScope s_form_of) := ⟨rfl, rfl, rfl, by decide +kernel, rfl, by decide +kernel, by decide +kernel⟩
theorem sc_is_act : FnScope ["value", "form", "word", "item"] ["value"] (defScope s_is_act) := ⟨rfl, rfl, rfl, by decide +kernel, rfl, by decide +kernel, by decide +kernel⟩
theorem sc_is_item : FnScope ["word", "value"] ["word", "value"] (defScope s_is_item) := ⟨rfl, rfl, rfl, by decide +kernel, rfl, by decide +kernel, by decide +kernel⟩
theorem sc_act_line : FnScope ["act", "item"] ["act"] (defScope s_act_line) := ⟨rfl, rfl, rfl, by decide +kernel, rfl, by decide +kernel, by decide +kernel⟩
theorem sc_read_act : FnScope ["line", "act"] ["line"] (defScope s_read_act) := ⟨rfl, rfl, rfl, by decide +kernel, rfl, by decide +kernel, by decide +kernel⟩
theorem sc_act_in : FnScope ["value", "words", "form", "act", "kind", "word"] ["value"] (defScope s_act_in) := ⟨rfl, rfl, rfl, by decide +kernel, rfl, by decide +kernel, by decide +kernel⟩
theorem sc_item_in : FnScope ["kind", "word"] ["kind", "word"] (defScope s_item_in) := ⟨rfl, rfl, rfl, by decide +kernel, rfl, by decide +kernel, by decide +kernel⟩
theorem sc_l_cell : FnScope ["_law_script", "_law_k"] ["_law_script", "_law_k"] (defScope s_l_cell) := ⟨rfl, rfl, rfl, by decide +kernel, rfl, by decide +kernel, by decide +kernel⟩
theorem sc_l_box : FnScope ["_law_great"] ["_law_great"] (defScope s_l_box) := ⟨rfl, rfl, rfl, by decide +kernel, rfl, by decide +kernel, by decide +kernel⟩
theorem sc_l_take : FnScope ["_law_box_here", "_law_many", "_law_digit", "_law_mixed"] ["_law_box_here", "_law_many"] (defScope s_l_take) := ⟨rfl, rfl, rfl, by decide +kernel, rfl, by decide +kernel, by decide +kernel⟩
theorem sc_l_kinds : FnScope ["_law_kind"] ["_law_kind"] (defScope s_l_kinds) := ⟨rfl, rfl, rfl, by decide +kernel, rfl, by decide +kernel, by decide +kernel⟩
theorem sc_l_signs : FnScope [] [] (defScope s_l_signs) := ⟨rfl, rfl, rfl, by decide +kernel, rfl, by decide +kernel, by decide +kernel⟩
theorem sc_l_item : FnScope ["_law_box_here", "_law_sort", "_law_letters", "_law_signs_here", "_law_most", "_law_k", "_law_many", "_law_text", "_law_ends"] ["_law_box_here", "_law_sort"] (defScope s_l_item) := ⟨rfl, rfl, rfl, by decide +kernel, rfl, by decide +kernel, by decide +kernel⟩
theorem sc_l_act : FnScope ["_law_box_here", "_law_kinds_here", "_law_kind", "_law_sort"] ["_law_box_here"] (defScope s_l_act) := ⟨rfl, rfl, rfl, by decide +kernel, rfl, by decide +kernel, by decide +kernel⟩
theorem sc_l_is_number : FnScope ["_law_value"] ["_law_value"] (defScope s_l_is_number) := ⟨rfl, rfl, rfl, by decide +kernel, rfl, by decide +kernel, by decide +kernel⟩
theorem sc_l_is_cell : FnScope ["_law_value", "_law_letter"] ["_law_value"] (defScope s_l_is_cell) := ⟨rfl, rfl, rfl, by decide +kernel, rfl, by decide +kernel, by decide +kernel⟩
theorem sc_l_is_text : FnScope ["_law_value", "_law_sign"] ["_law_value"] (defScope s_l_is_text) := ⟨rfl, rfl, rfl, by decide +kernel, rfl, by decide +kernel, by decide +kernel⟩
theorem sc_l_is_act : FnScope ["_law_value", "_law_sorts", "_law_k", "_law_item_here"] ["_law_value"] (defScope s_l_is_act) := ⟨rfl, rfl, rfl, by decide +kernel, rfl, by decide +kernel, by decide +kernel⟩
theorem sc_l_written : FnScope ["_law_act_here", "_law_line_here", "_law_item_here"] ["_law_act_here"] (defScope s_l_written) := ⟨rfl, rfl, rfl, by decide +kernel, rfl, by decide +kernel, by decide +kernel⟩
theorem sc_l_number : FnScope ["_law_word", "_law_sign"] ["_law_word"] (defScope s_l_number) := ⟨rfl, rfl, rfl, by decide +kernel, rfl, by decide +kernel, by decide +kernel⟩
theorem sc_l_read : FnScope ["_law_line_here", "_law_words", "_law_sorts", "_law_items", "_law_k", "_law_act_here"] ["_law_line_here"] (defScope s_l_read) := ⟨rfl, rfl, rfl, by decide +kernel, rfl, by decide +kernel, by decide +kernel⟩
theorem sc_l_told : FnScope ["_law_line_here", "_law_turn", "e"] ["_law_line_here", "_law_turn"] (defScope s_l_told) := ⟨rfl, rfl, rfl, by decide +kernel, rfl, by decide +kernel, by decide +kernel⟩
theorem sc_l_line : FnScope ["_law_act_here", "_law_turn", "e"] ["_law_act_here", "_law_turn"] (defScope s_l_line) := ⟨rfl, rfl, rfl, by decide +kernel, rfl, by decide +kernel, by decide +kernel⟩
theorem sc_l_spoilt_line : FnScope ["_law_box_here", "_law_line_here", "_law_kind", "_law_at", "_law_signs_here", "_law_sign", "_law_words"] ["_law_box_here", "_law_line_here"] (defScope s_l_spoilt_line) := ⟨rfl, rfl, rfl, by decide +kernel, rfl, by decide +kernel, by decide +kernel⟩
theorem sc_l_spoilt_act : FnScope ["_law_box_here", "_law_act_here", "_law_kind", "_law_at", "_law_which", "_law_odd_here"] ["_law_box_here", "_law_act_here"] (defScope s_l_spoilt_act) := ⟨rfl, rfl, rfl, by decide +kernel, rfl, by decide +kernel, by decide +kernel⟩
theorem sc_l_odd : FnScope ["_law_line_here", "_law_act_here", "_law_which"] ["_law_line_here", "_law_act_here", "_law_which"] (defScope s_l_odd) := ⟨rfl, rfl, rfl, by decide +kernel, rfl, by decide +kernel, by decide +kernel⟩
theorem sc_l_same : FnScope ["_law_told_here", "_law_due"] ["_law_told_here", "_law_due"] (defScope s_l_same) := ⟨rfl, rfl, rfl, by decide +kernel, rfl, by decide +kernel, by decide +kernel⟩
theorem sc_l_right : FnScope ["_law_box_here", "_law_turn", "_law_act_here", "_law_line_here", "_law_great", "_law_item_here", "_law_one", "_law_text", "_law_k", "_law_bad", "_law_wrong", "_law_due", "_law_told_here", "_law_asked", "_law_which", "_law_odd_here", "_law_other"] ["_law_box_here"] (defScope s_l_right) := ⟨rfl, rfl, rfl, by decide +kernel, rfl, by decide +kernel, by decide +kernel⟩
theorem sc_law : FnScope ["_law_script", "_law_k"] ["_law_script"] (defScope s_law) := ⟨rfl, rfl, rfl, by decide +kernel, rfl, by decide +kernel, by decide +kernel⟩
/-- a def of the module -/
structure Tx (K : PySem.W.Frag) (mg : Str → Option Value) (pr : Params) : Type where
  C_InvalidLine : Addr
  C_InvalidAct : Addr
  C_UnsaidError : Addr
  x_InvalidLine : InitT K C_InvalidLine "InvalidLine.__init__" s_InvalidLine_init ["self", "given"]
  x_InvalidAct : InitT K C_InvalidAct "InvalidAct.__init__" s_InvalidAct_init ["self", "given"]
  e_InvalidLine : ErrT K mg "InvalidLine" "given" C_InvalidLine x_InvalidLine.f
  e_InvalidAct : ErrT K mg "InvalidAct" "given" C_InvalidAct x_InvalidAct.f
  m_InvalidLine : mg "InvalidLine" = some (.ref C_InvalidLine)
  m_InvalidAct : mg "InvalidAct" = some (.ref C_InvalidAct)
  m_UnsaidError : mg "UnsaidError" = some (.ref C_UnsaidError)
  x_InvalidLine_InvalidLine : PySem.W.exmOne K (.ref C_InvalidLine) (.ref C_InvalidLine) = some true
  x_InvalidAct_InvalidAct : PySem.W.exmOne K (.ref C_InvalidAct) (.ref C_InvalidAct) = some true
  t_MOST_LETTERS : Tok
  g_MOST_LETTERS : mg "MOST_LETTERS" = some (.int 8 t_MOST_LETTERS)
  t_MOST_SIGNS : Tok
  g_MOST_SIGNS : mg "MOST_SIGNS" = some (.int 40 t_MOST_SIGNS)
  C_ACT_FORMS : Addr
  A_ACT_FORMS_tick : Addr
  A_ACT_FORMS_write : Addr
  A_ACT_FORMS_carry : Addr
  A_ACT_FORMS_drop : Addr
  A_ACT_FORMS_double : Addr
  A_ACT_FORMS_stop : Addr
  A_ACT_FORMS_cut : Addr
  A_ACT_FORMS_rise : Addr
  m_ACT_FORMS : mg "ACT_FORMS" = some (.ref C_ACT_FORMS)
  w_ACT_FORMS : WDict K pr C_ACT_FORMS [("tick", .ref A_ACT_FORMS_tick), ("write", .ref A_ACT_FORMS_write), ("carry", .ref A_ACT_FORMS_carry), ("drop", .ref A_ACT_FORMS_drop), ("double", .ref A_ACT_FORMS_double), ("stop", .ref A_ACT_FORMS_stop), ("cut", .ref A_ACT_FORMS_cut), ("rise", .ref A_ACT_FORMS_rise)]
  q_ACT_FORMS_tick : KTup K A_ACT_FORMS_tick [.str "house"]
  q_ACT_FORMS_write : KTup K A_ACT_FORMS_write [.str "house", .str "cell", .str "text"]
  q_ACT_FORMS_carry : KTup K A_ACT_FORMS_carry [.str "index"]
  q_ACT_FORMS_drop : KTup K A_ACT_FORMS_drop [.str "index"]
  q_ACT_FORMS_double : KTup K A_ACT_FORMS_double [.str "index"]
  q_ACT_FORMS_stop : KTup K A_ACT_FORMS_stop [.str "house", .str "count"]
  q_ACT_FORMS_cut : KTup K A_ACT_FORMS_cut [.str "house", .str "count"]
  q_ACT_FORMS_rise : KTup K A_ACT_FORMS_rise [.str "house"]
  n_abs : mg "abs" = none
  n_all : mg "all" = none
  n_bool : mg "bool" = none
  n_int : mg "int" = none
  n_isinstance : mg "isinstance" = none
  n_len : mg "len" = none
  n_list : mg "list" = none
  n_max : mg "max" = none
  n_min : mg "min" = none
  n_range : mg "range" = none
  n_repr : mg "repr" = none
  n_str : mg "str" = none
  n_sum : mg "sum" = none
  n_tuple : mg "tuple" = none
  n_zip : mg "zip" = none
  d_is_int : DefT K mg "is_int" s_is_int ["value"]
  d_is_count : DefT K mg "is_count" s_is_count ["value"]
  d_is_signs : DefT K mg "is_signs" s_is_signs ["value"]
  d_is_numeral : DefT K mg "is_numeral" s_is_numeral ["text"]
  d_is_cell : DefT K mg "is_cell" s_is_cell ["value"]
  d_is_text : DefT K mg "is_text" s_is_text ["value"]
  d_form_of : DefT K mg "form_of" s_form_of ["value"]
  d_is_act : DefT K mg "is_act" s_is_act ["value"]
  d_is_item : DefT K mg "_is_item" s_is_item ["word", "value"]
  d_act_line : DefT K mg "act_line" s_act_line ["act"]
  d_read_act : DefT K mg "read_act" s_read_act ["line"]
  d_act_in : DefT K mg "_act_in" s_act_in ["value"]
  d_item_in : DefT K mg "_item_in" s_item_in ["kind", "word"]
  d_l_cell : DefT K mg "_law_cell" s_l_cell ["_law_script", "_law_k"]
  d_l_box : DefT K mg "_law_box" s_l_box ["_law_great"]
  d_l_take : DefT K mg "_law_take" s_l_take ["_law_box_here", "_law_many"]
  d_l_kinds : DefT K mg "_law_kinds" s_l_kinds ["_law_kind"]
  d_l_signs : DefT K mg "_law_signs" s_l_signs []
  d_l_item : DefT K mg "_law_item" s_l_item ["_law_box_here", "_law_sort"]
  d_l_act : DefT K mg "_law_act" s_l_act ["_law_box_here"]
  d_l_is_number : DefT K mg "_law_is_number" s_l_is_number ["_law_value"]
  d_l_is_cell : DefT K mg "_law_is_cell" s_l_is_cell ["_law_value"]
  d_l_is_text : DefT K mg "_law_is_text" s_l_is_text ["_law_value"]
  d_l_is_act : DefT K mg "_law_is_act" s_l_is_act ["_law_value"]
  d_l_written : DefT K mg "_law_written" s_l_written ["_law_act_here"]
  d_l_number : DefT K mg "_law_number" s_l_number ["_law_word"]
  d_l_read : DefT K mg "_law_read" s_l_read ["_law_line_here"]
  d_l_told : DefT K mg "_law_told" s_l_told ["_law_line_here", "_law_turn"]
  d_l_line : DefT K mg "_law_line" s_l_line ["_law_act_here", "_law_turn"]
  d_l_spoilt_line : DefT K mg "_law_spoilt_line" s_l_spoilt_line ["_law_box_here", "_law_line_here"]
  d_l_spoilt_act : DefT K mg "_law_spoilt_act" s_l_spoilt_act ["_law_box_here", "_law_act_here"]
  d_l_odd : DefT K mg "_law_odd" s_l_odd ["_law_line_here", "_law_act_here", "_law_which"]
  d_l_same : DefT K mg "_law_same" s_l_same ["_law_told_here", "_law_due"]
  d_l_right : DefT K mg "_law_right" s_l_right ["_law_box_here"]
  d_law : DefT K mg "law" s_law ["_law_script"]
end K57

local macro_rules | `(tactic| walk_at "rd") => `(tactic| try simp only [Nv.e_f4, Nv.e_errv, Nv.e_js0, Nv.e_js1, Nv.e_fmt, Nv.e_lrg, Nv.e_rg1, Nv.e_seq, Nv.e_next, Nv.e_asg, Nv.e_gname, Nv.e_gtup, Nv.e_gcons, Nv.e_gnil, Nv.e_gsub, Nv.e_ret, Nv.e_retN, Nv.e_if, Nv.e_drop, Nv.e_par, Nv.e_par3, Nv.e_rP2, Nv.e_rP3, Nv.e_tyes, Nv.e_disp, Nv.e_xf, L2.tPairs, L2.upd_upd, L2.upd_same, Nv.e_wipe0, Nv.e_wipe1, Nv.e_sfld, Nv.e_var, Nv.e_c, Nv.e_op, Nv.e_un, Nv.e_ri, Nv.e_ri0, Nv.e_ru, Nv.e_eq, Nv.e_ne, Nv.e_test, Nv.e_B, Nv.e_and, Nv.e_or, Nv.e_not, Nv.e_andV, Nv.e_orV, Nv.e_notV, Nv.e_ifE, Nv.e_cb, Nv.e_nil, Nv.e_cons, Nv.e_tup, Nv.e_lst1, Nv.e_fld, Nv.e_slice, Nv.e_nopart, Nv.e_part, Nv.e_bm0, Nv.e_bm, Nv.e_m1, Nv.e_cg, Nv.e_mg, Nv.e_make, Nv.e_prop, Nv.e_raise1, Nv.e_chain, Nv.e_mulS, Nv.e_slS, Nv.e_cxK, Nv.start_def, List.getElem?_cons_zero, List.getElem?_cons_succ, List.set_cons_zero, List.set_cons_succ, List.map_cons, List.map_nil, List.cons_append, List.nil_append, List.append_nil, List.length_cons, List.length_nil, List.replicate, Option.some.injEq, exists_eq_left', exists_eq_left, L2.V.bl.injEq, L2.V.int.injEq, L2.V.str.injEq, L2.V.ref.injEq, List.cons.injEq, and_true, true_and, exists_and_left, exists_and_right, ↓reduceIte, Bool.false_eq_true, Bool.true_eq_false, decide_eq_true_eq, Bool.not_eq_true', Bool.not_true, Bool.not_false, forall_eq'])

namespace K57
open PySem L2 Nv

/-! what the questions answer, of data -/
def spJ (g : PyData → Bool) : Sp := fun vs H Q _ => ∃ v d, vs = [v] ∧ DV H v d ∧ Q (.bl (g d)) H
def spJA (K : PySem.W.Frag) (g : PyData → Bool) : Sp := fun vs H Q _ => ∃ v d, vs = [v] ∧ AV K H v d ∧ Q (.bl (g d)) H
/-- texts and numbers in it are not too long -/
structure Lens (d : PyData) : Prop where
  s : ∀ z, d = .str z → z.length ≤ 100000
  t : ∀ ds, d = .tuple ds → ∀ z, PyData.str z ∈ ds → z.length ≤ 100000
theorem Lens.str {z : Str} (h : z.length ≤ 100000) : Lens (.str z) := ⟨fun y e => (by cases e; exact h), fun _ e => (by cases e)⟩
theorem Lens.item {d : PyData} {ds : List PyData} (h : Lens (.tuple ds)) (m : d ∈ ds) (n : ∀ es, d ≠ .tuple es) : Lens d :=
  ⟨fun z e => h.t ds rfl z (e ▸ m), fun es e => absurd e (n es)⟩
def Ints (d : PyData) : Prop := ∀ ds, d = .tuple ds → ∀ i, PyData.int i ∈ ds → -(10 ^ 21) ≤ i ∧ i ≤ 10 ^ 21
def spJL (K : PySem.W.Frag) (g : PyData → Bool) : Sp := fun vs H Q _ => ∃ v d, vs = [v] ∧ AV K H v d ∧ Lens d ∧ Q (.bl (g d)) H
def spJS (K : PySem.W.Frag) (g : PyData → Bool) : Sp := fun vs H Q _ => ∃ v d, vs = [v] ∧ AV K H v d ∧ (∀ z, d = .str z → z.length ≤ 100000) ∧ Q (.bl (g d)) H
/-- the same, where new things may be laid meanwhile -/
def spJW (g : PyData → Bool) : Sp := fun vs H Q _ => ∃ v d, vs = [v] ∧ DV H v d ∧ (∀ z, d = .str z → Asc z ∧ z.length ≤ 100000) ∧ ∀ H', Same H H' → Q (.bl (g d)) H'
def cntB : PyData → Bool
  | .int i => decide (0 ≤ i)
  | _ => false
def sigOk : PyData → Bool
  | .str z => okS z
  | _ => false
def celS (z : Str) : Bool := decide (z.length ≤ 8) && (Txt.isascii z && (Txt.isalpha z && Txt.islower z))
def cellB : PyData → Bool
  | .str z => celS z
  | _ => false
def textB : PyData → Bool
  | .str z => okS z && decide (z.length ≤ 40)
  | _ => false
def lineB : PyData → Bool
  | .tuple [a, b, c, d] => cntB a && (cntB b && (cellB c && textB d))
  | _ => false
def numS (z : Str) : Bool := Txt.isascii z && (Txt.isdigit z && (decide (V.str z = V.str (Str.ofString "0")) || !Txt.startswith z (Str.ofString "0")))
section
variable {P : Program} {w : World} {K : PySem.W.Frag} {mg : Str → Option Value} {base : Heap}
theorem ok_is_int (T : Tx K mg w.params) : FnG P w K mg base 1 T.d_is_int.f T.d_is_int.fd ["value"] (spJ isI) := by
  refine okG0 T.d_is_int.F sc_is_int (fun vs H Q E h => ?_) (fun cdv A outer s H vs Q E hg hr h => ?_)
  · obtain ⟨v, d, rfl, _⟩ := h
    rfl
  obtain ⟨v, d, rfl, hd, k⟩ := h
  refine ⟨_, (pss_one (ps_ret (pe_and (pe_callB call_isiA (by rfl) T.n_isinstance (by decide +kernel) (pa_cons (pv 0) (pa_cons (pe_bltn (v := .ty "int") (by rfl) T.n_int (by decide +kernel) rfl) pa_nil))) (pe_one (pe_not (pe_callB call_isiA (by rfl) T.n_isinstance (by decide +kernel) (pa_cons (pv 0) (pa_cons (pe_bltn (v := .ty "bool") (by rfl) T.n_bool (by decide +kernel) rfl) pa_nil)))))))), ?_⟩
  walk_at "rd"
  refine r_isiD hd (kit_int d) ?_
  walk_at "rd"
  cases d with
  | int i =>
    simp only [isI, isB, Bool.or_false]
    walk_at "rd"
    exact r_isiD hd (kit_bool _) ⟨_, rfl, k⟩
  | bool b =>
    simp only [isI, isB, Bool.or_true]
    walk_at "rd"
    exact r_isiD hd (kit_bool _) ⟨_, rfl, k⟩
  | _ =>
    simp only [isI, isB, Bool.or_false]
    walk_at "rd"
    exact k
theorem ok_is_count (T : Tx K mg w.params) : FnG P w K mg base 2 T.d_is_count.f T.d_is_count.fd ["value"] (spJ cntB) := by
  refine okG0 T.d_is_count.F sc_is_count (fun vs H Q E h => ?_) (fun cdv A outer s H vs Q E hg hr h => ?_)
  · obtain ⟨v, d, rfl, _⟩ := h
    rfl
  obtain ⟨v, d, rfl, hd, k⟩ := h
  refine ⟨_, (pss_one (ps_ret (pe_and (pe_cG (ok_is_int T) T.d_is_int.b takes0 hg (hr.mono (by decide)) T.d_is_int.m T.d_is_int.F.kp (pa_cons (pv 0) pa_nil)) (pe_one (pe_cmpR op_ge (pv 0) pe_int (nomark _)))))), ?_⟩
  walk_at "rd"
  refine ⟨v, d, rfl, hd, ?_⟩
  cases hd with
  | int i =>
    simp only [isI]
    walk_at "rd"
    simpa only [cntB] using k
  | _ =>
    simp only [isI]
    walk_at "rd"
    exact k
theorem ok_is_signs (T : Tx K mg w.params) : FnG P w K mg base 1 T.d_is_signs.f T.d_is_signs.fd ["value"] (spJA K sigOk) := by
  refine okG0 T.d_is_signs.F sc_is_signs (fun vs H Q E h => ?_) (fun cdv A outer s H vs Q E hg hr h => ?_)
  · obtain ⟨v, d, rfl, _⟩ := h
    rfl
  obtain ⟨v, d, rfl, hd, fin⟩ := h
  refine ⟨_, (pss_one (ps_ret (pe_and (pe_callB call_isiA (by rfl) T.n_isinstance (by decide +kernel) (pa_cons (pv 0) (pa_cons (pe_bltn (v := .ty "str") (by rfl) T.n_str (by decide +kernel) rfl) pa_nil))) (pe_and (pe_bm0 PySem.F.plainAttrs_str PySem.F.slot_str_isascii PySem.F.type_str_isascii mt_isascii (pv 0)) (pe_one (pe_bm0 PySem.F.plainAttrs_str PySem.F.slot_str_isprintable PySem.F.type_str_isprintable mt_isprintable (pv 0))))))), ?_⟩
  walk_at "rd"
  refine hd.isStr ?_
  walk_at "rd"
  cases d with
  | str z =>
    cases hd.str
    simp only [isS]
    walk_at "rd"
    refine ⟨rfl, ?_⟩
    simp only [sigOk, okS] at fin
    cases ea : Txt.isascii z with
    | false =>
      rw [ea] at fin
      simpa using fin
    | true =>
      rw [ea] at fin
      rw [if_pos rfl]
      exact ⟨rfl, by simpa using fin⟩
  | _ =>
    simp only [isS]
    walk_at "rd"
    exact fin
theorem ok_is_numeral (T : Tx K mg w.params) : FnG P w K mg base 1 T.d_is_numeral.f T.d_is_numeral.fd ["text"] (fun vs H Q _ => ∃ z, vs = [.str z] ∧ Q (.bl (numS z)) H) := by
  refine okG0 T.d_is_numeral.F sc_is_numeral (fun vs H Q E h => ?_) (fun cdv A outer s H vs Q E hg hr h => ?_)
  · obtain ⟨z, rfl, _⟩ := h
    rfl
  obtain ⟨z, rfl, fin⟩ := h
  refine ⟨_, (pss_one (ps_ret (pe_and (pe_bm0 PySem.F.plainAttrs_str PySem.F.slot_str_isascii PySem.F.type_str_isascii mt_isascii (pv 0)) (pe_and (pe_bm0 PySem.F.plainAttrs_str PySem.F.slot_str_isdigit PySem.F.type_str_isdigit mt_isdigit (pv 0)) (pe_one (pe_or (pe_cmpR op_eq (pv 0) pe_str (nomark _)) (pe_one (pe_not (pe_bm PySem.F.plainAttrs_str PySem.F.slot_str_startswith PySem.F.type_str_startswith mt_startswith (pv 0) (pa_cons pe_str pa_nil)))))))))), ?_⟩
  walk_at "rd"
  refine ⟨rfl, ?_⟩
  unfold numS at fin
  cases ea : Txt.isascii z with
  | false =>
    rw [ea] at fin
    simpa using fin
  | true =>
    rw [ea] at fin
    rw [if_pos rfl]
    refine ⟨rfl, ?_⟩
    cases eb : Txt.isdigit z with
    | false =>
      rw [eb] at fin
      simpa using fin
    | true =>
      rw [eb] at fin
      rw [if_pos rfl]
      refine ⟨rfl, ?_⟩
      have key : (decide (V.str z = V.str (Str.ofString "0"))) = decide (z = Str.ofString "0") := by
        by_cases e : z = Str.ofString "0"
        · rw [e]
          simp
        · have : ¬ (V.str z = V.str (Str.ofString "0")) := fun q => by
            cases q
            exact e rfl
          simp [e, this]
      rw [key] at fin
      by_cases e : z = Str.ofString "0"
      · rw [if_pos e]
        simpa [e] using fin
      · rw [if_neg e]
        exact ⟨rfl, by simpa [e] using fin⟩
theorem ok_is_cell (T : Tx K mg w.params) : FnG P w K mg base 1 T.d_is_cell.f T.d_is_cell.fd ["value"] (spJS K cellB) := by
  refine okG0 T.d_is_cell.F sc_is_cell (fun vs H Q E h => ?_) (fun cdv A outer s H vs Q E hg hr h => ?_)
  · obtain ⟨v, d, rfl, _⟩ := h
    rfl
  obtain ⟨v, d, rfl, hd, hz, fin⟩ := h
  have sz : sizeLine = 16777216 := sizeLine_eq
  refine ⟨_, (pss_cons (ps_if (PW.pt (pw_or (pt_not (pt_val (pe_callB call_isiA (by rfl) T.n_isinstance (by decide +kernel) (pa_cons (pv 0) (pa_cons (pe_bltn (v := .ty "str") (by rfl) T.n_str (by decide +kernel) rfl) pa_nil))))) (pw_or1 (pt_cmpR op_gt (pe_callB call_len_str (by rfl) T.n_len (by decide +kernel) (pa_cons (pv 0) pa_nil)) (pe_glob (v := .int 8) rfl T.g_MOST_LETTERS ⟨_, rfl⟩) (nomark _)))))
      (pss_one (ps_ret pe_bl))
      pss_nil)
    (pss_one (ps_ret (pe_and (pe_bm0 PySem.F.plainAttrs_str PySem.F.slot_str_isascii PySem.F.type_str_isascii mt_isascii (pv 0)) (pe_and (pe_bm0 PySem.F.plainAttrs_str PySem.F.slot_str_isalpha PySem.F.type_str_isalpha mt_isalpha (pv 0)) (pe_one (pe_bm0 PySem.F.plainAttrs_str PySem.F.slot_str_islower PySem.F.type_str_islower mt_islower (pv 0)))))))), ?_⟩
  walk_at "rd"
  refine hd.isStr ?_
  walk_at "rd"
  cases d with
  | str z =>
    cases hd.str
    have := hz z rfl
    simp only [isS]
    walk_at "rd"
    refine ⟨by omega, ?_⟩
    simp only [cellB, celS] at fin
    by_cases h8 : (8 : Int) < (z.length : Int)
    · rw [if_pos h8]
      have : decide (z.length ≤ 8) = false := by simp; omega
      rw [this] at fin
      exact fin
    · rw [if_neg h8]
      have : decide (z.length ≤ 8) = true := by simp; omega
      rw [this] at fin
      refine ⟨rfl, ?_⟩
      cases ea : Txt.isascii z with
      | false =>
        rw [ea] at fin
        simpa using fin
      | true =>
        rw [ea] at fin
        rw [if_pos rfl]
        refine ⟨rfl, ?_⟩
        cases eb : Txt.isalpha z with
        | false =>
          rw [eb] at fin
          simpa using fin
        | true =>
          rw [eb] at fin
          rw [if_pos rfl]
          exact ⟨rfl, by simpa using fin⟩
  | _ =>
    simp only [isS]
    walk_at "rd"
    exact fin
theorem ok_is_text (T : Tx K mg w.params) : FnG P w K mg base 2 T.d_is_text.f T.d_is_text.fd ["value"] (spJS K textB) := by
  refine okG0 T.d_is_text.F sc_is_text (fun vs H Q E h => ?_) (fun cdv A outer s H vs Q E hg hr h => ?_)
  · obtain ⟨v, d, rfl, _⟩ := h
    rfl
  obtain ⟨v, d, rfl, hd, hz, fin⟩ := h
  have sz : sizeLine = 16777216 := sizeLine_eq
  refine ⟨_, (pss_one (ps_ret (pe_and (pe_cG (ok_is_signs T) T.d_is_signs.b takes0 hg (hr.mono (by decide)) T.d_is_signs.m T.d_is_signs.F.kp (pa_cons (pv 0) pa_nil)) (pe_one (pe_cmpR op_le (pe_callB call_len_str (by rfl) T.n_len (by decide +kernel) (pa_cons (pv 0) pa_nil)) (pe_glob (v := .int 40) rfl T.g_MOST_SIGNS ⟨_, rfl⟩) (nomark _)))))), ?_⟩
  walk_at "rd"
  refine ⟨v, d, rfl, hd, ?_⟩
  cases d with
  | str z =>
    cases hd.str
    have := hz z rfl
    simp only [sigOk]
    walk_at "rd"
    simp only [textB] at fin
    cases ea : okS z with
    | false =>
      rw [ea] at fin
      simpa using fin
    | true =>
      rw [ea] at fin
      rw [if_pos rfl]
      refine ⟨by omega, ?_⟩
      have : decide ((z.length : Int) ≤ 40) = decide (z.length ≤ 40) := by
        congr 1
        exact propext (by omega)
      rw [this]
      simpa using fin
  | _ =>
    simp only [sigOk]
    walk_at "rd"
    exact fin
end
end K57


namespace K57
open PySem L2 Nv

section
variable {P : Program} {w : World} {K : PySem.W.Frag} {mg : Str → Option Value} {base : Heap}
theorem ok_l_cell (T : Tx K mg w.params) : FnG P w K mg base 1 T.d_l_cell.f T.d_l_cell.fd ["_law_script", "_law_k"] (nvCell K) := by
  refine okG0 T.d_l_cell.F sc_l_cell (fun vs H Q E h => ?_) (fun cdv A outer s H vs Q E hg hr h => ?_)
  · obtain ⟨a, ns, k, rfl, _⟩ := h
    rfl
  obtain ⟨a, ns, k, rfl, hS, h0, h1, q⟩ := h
  refine ⟨_, (pss_one (ps_ret (pe_ifExp (pt_cmpR op_lt (pv 1) (pe_callB call_len_seq (by rfl) T.n_len (by decide +kernel) (pa_cons (pv 0) pa_nil)) (nomark _)) (pe_ix ix_list (pv 0) (pv 1) (fun _ _ => rfl)) (pe_op op_add (pe_op op_mul pe_int (pv 1)) (pe_op op_modN (pe_callB (cr_sum rfl) (by rfl) T.n_sum (by decide +kernel) (pa_cons (pe_slice sl_list (pv 0) po_none (po_some pe_int)) pa_nil)) pe_int))))), ?_⟩
  walk_at "rd"
  refine ⟨_, .inl hS, ?_⟩
  walk_at "rd"
  by_cases hk : k < ((ns.map V.int).length : Int)
  · rw [if_pos hk]
    obtain ⟨j, rfl⟩ : ∃ j : Nat, k = (j : Int) := ⟨k.toNat, by omega⟩
    have hj : j < ns.length := by
      rw [List.length_map] at hk
      omega
    refine r_ixL hS (atI_nat (j := j) (v := V.int ns[j]) (by simp [hj])) ?_
    exact q _ H (Same.refl H)
  · rw [if_neg hk]
    refine ⟨.inl (by decide), a, _, rfl, hS, fun p hp => ?_⟩
    walk_at "rd"
    have hc : cutV (ns.map V.int) none (some 1) = ((ns.drop (HT.sIx (ns.map V.int).length 0 none)).take (HT.sIx (ns.map V.int).length (ns.map V.int).length (some 1) - HT.sIx (ns.map V.int).length 0 none)).map V.int := by
      unfold cutV
      rw [List.map_take, List.map_drop]
    refine ⟨p, _, rfl, .inl (.inl (by rw [hc] at *; exact upd_same)), ?_⟩
    walk_at "rd"
    refine ⟨by decide, ?_⟩
    exact q _ _ (Same.new hp)
theorem ok_l_box (T : Tx K mg w.params) : FnG P w K mg base 1 T.d_l_box.f T.d_l_box.fd ["_law_great"] nvBox := by
  refine okG0 T.d_l_box.F sc_l_box (fun vs H Q E h => ?_) (fun cdv A outer s H vs Q E hg hr h => ?_)
  · obtain ⟨g, rfl, _⟩ := h
    rfl
  obtain ⟨g, rfl, q⟩ := h
  refine ⟨_, (pss_one (ps_ret (pe_lst1 (pa_cons (pe_callB call_abs (by rfl) T.n_abs (by decide +kernel) (pa_cons (pv 0) pa_nil)) (pa_cons (pe_cmpR op_ge (pe_callB call_abs (by rfl) T.n_abs (by decide +kernel) (pa_cons (pv 0) pa_nil)) (pe_op op_pow pe_int pe_int) (nomark _)) (pa_cons (pe_op op_modN (pe_callTy call_intI (by rfl) T.n_int (by decide +kernel) (pa_cons (pe_callB call_abs (by rfl) T.n_abs (by decide +kernel) (pa_cons (pv 0) pa_nil)) pa_nil)) pe_int) (pa_cons pe_int pa_nil))))))), ?_⟩
  walk_at "rd"
  refine ⟨by unfold CPow; decide, by decide, by decide, fun p hp _ => ?_⟩
  have f := fmod_in (if g < 0 then -g else g) (m := 2147483629) (by decide)
  exact q p _ hp (Same.new hp) ⟨_, _, _, _, upd_same, f.1, by omega, by decide, by decide⟩
local macro_rules | `(tactic| walk_at "mix") => `(tactic| (
  refine r_ixL (SqL.of (by assumption)) (at3 rfl) ?_
  walk_at "rd"
  refine r_setL (by assumption) (setIx (j := 3) (by show 3 < 4; decide)) ?_
  walk_at "rd"
  refine r_ixL (SqL.of upd_same) (at2 rfl) ?_
  walk_at "rd"
  refine r_ixL (SqL.of upd_same) (at3 rfl) ?_
  walk_at "rd"
  refine ⟨cmul_l (by decide) (by decide), cpow_of (by decide) (by decide) (by omega) (by omega), by decide, cmul_r (by decide) (by decide), ?_⟩
  refine r_ixL (SqL.of upd_same) (at3 rfl) ?_
  walk_at "rd"
  refine ⟨cmul_l (by decide) (by decide), cpow_of (by decide) (by decide) ?_ ?_, by decide, ⟨by decide, by decide⟩, by omega, ?_⟩))
theorem ok_l_take (T : Tx K mg w.params) : FnG P w K mg base 1 T.d_l_take.f T.d_l_take.fd ["_law_box_here", "_law_many"] nvTake := by
  refine okG0 T.d_l_take.F sc_l_take (fun vs H Q E h => ?_) (fun cdv A outer s H vs Q E hg hr h => ?_)
  · obtain ⟨p, m, N, rfl, _⟩ := h
    rfl
  obtain ⟨p, m, N, rfl, ⟨n, b, mm, c, hp, h1, h2, h3, h4⟩, hN, hm0, hm1, q⟩ := h
  refine ⟨_, (pss_cons (ps_if (PW.pt (pw_and (pt_val (pe_ix ix_list (pv 0) pe_int (fun _ _ => rfl))) (pw_and1 (pt_cmpR op_gt (pe_ix ix_list (pv 0) pe_int (fun _ _ => rfl)) pe_int (nomark _)))))
      (pss_cons (ps_set (i := 2) sc_l_take.nd rfl (Or.inl rfl) (pe_op op_modN (pe_callTy call_intI (by rfl) T.n_int (by decide +kernel) (pa_cons (pe_ix ix_list (pv 0) pe_int (fun _ _ => rfl)) pa_nil)) (pv 1)))
      (pss_cons (ps_asg (pe_op op_fdivN (pe_ix ix_list (pv 0) pe_int (fun _ _ => rfl)) (pv 1)) (pg_sub (pv 0) pe_int set_list))
      (pss_one (ps_ret (pv 2)))))
      pss_nil)
    (pss_cons (ps_asg (pe_op op_add (pe_ix ix_list (pv 0) pe_int (fun _ _ => rfl)) pe_int) (pg_sub (pv 0) pe_int set_list))
    (pss_cons (ps_set (i := 3) sc_l_take.nd rfl (Or.inl rfl) (pe_op op_modN (pe_callTy call_intI (by rfl) T.n_int (by decide +kernel) (pa_cons (pe_op op_pow (pe_op op_add (pe_op op_add (pe_ix ix_list (pv 0) pe_int (fun _ _ => rfl)) (pe_op op_mul pe_int (pe_ix ix_list (pv 0) pe_int (fun _ _ => rfl)))) pe_int) pe_int) pa_nil)) pe_int))
    (pss_one (ps_ret (pe_op op_modN (pe_op op_fdivN (pe_op op_modN (pe_callTy call_intI (by rfl) T.n_int (by decide +kernel) (pa_cons (pe_op op_pow (pe_op op_add (pe_op op_mul (pv 3) pe_int) (pe_op op_mul pe_int (pe_ix ix_list (pv 0) pe_int (fun _ _ => rfl)))) pe_int) pa_nil)) pe_int) pe_int) (pv 1))))))), ?_⟩
  walk_at "rd"
  refine r_ixL (SqL.of hp) (at1 rfl) ?_
  walk_at "rd"
  have f1 : ∀ a : Int, 0 ≤ a.fmod 2147483647 ∧ a.fmod 2147483647 < 2147483647 := fun a => fmod_in a (by decide)
  have fin : ∀ x : Int, Q (.int (x.fmod m)) (upd H p (.lst [.int n, .bl b, .int mm, .int (c + 1)])) := fun x =>
    q _ _ (fmod_in x hm0).1 (fmod_in x hm0).2 ⟨_, _, _, _, upd_same, h1, h2, by omega, by omega⟩ Ext1.upd
  by_cases hb : b = true
  · rw [if_pos hb]
    refine r_ixL (SqL.of hp) (at0 rfl) ?_
    walk_at "rd"
    by_cases hn : 0 < n
    · rw [if_pos hn]
      refine r_ixL (SqL.of hp) (at0 rfl) ?_
      walk_at "rd"
      refine ⟨by omega, ?_⟩
      refine r_ixL (SqL.of hp) (at0 rfl) ?_
      walk_at "rd"
      refine ⟨⟨by omega, by omega⟩, ?_⟩
      refine r_setL hp (setIx (j := 0) (by show 0 < 4; decide)) ?_
      exact q _ _ (fmod_in n hm0).1 (fmod_in n hm0).2 ⟨_, _, _, _, upd_same, h1, h2, h3, by omega⟩ Ext1.upd
    · rw [if_neg hn]
      walk_at "mix"
      · have := f1 ((mm + 15485957 * (c + 1) + 179424757) ^ (5 : Int).toNat)
        omega
      · have := f1 ((mm + 15485957 * (c + 1) + 179424757) ^ (5 : Int).toNat)
        omega
      · exact fin _
  · rw [if_neg hb]
    walk_at "mix"
    · have := f1 ((mm + 15485957 * (c + 1) + 179424757) ^ (5 : Int).toNat)
      omega
    · have := f1 ((mm + 15485957 * (c + 1) + 179424757) ^ (5 : Int).toNat)
      omega
    · exact fin _
end
end K57


namespace K57
open PySem L2 Nv

/-! acts as data -/
inductive K3
  | num
  | cel
  | txt
def k3 (z : Str) : K3 := if z = "cell" then .cel else if z = "text" then .txt else .num
def forms : List (Str × List Str) := [("tick", ["house"]), ("write", ["house", "cell", "text"]), ("carry", ["index"]), ("drop", ["index"]), ("double", ["index"]), ("stop", ["house", "count"]), ("cut", ["house", "count"]), ("rise", ["house"])]
def formL (z : Str) : Option (List Str) := (forms.find? fun x => x.1 == z).map (·.2)
def itemB : K3 → PyData → Bool
  | .num, d => cntB d
  | .cel, d => cellB d
  | .txt, d => textB d
def itemsB (ws : List Str) (ds : List PyData) : Bool := decide (ds.length = ws.length) && (ws.zip ds).all fun p => itemB (k3 p.1) p.2
def actB : PyData → Bool
  | .tuple (.str z :: ds) => match formL z with
    | some ws => itemsB ws ds
    | none => false
  | _ => false
def formD : PyData → Option (List Str)
  | .str z => formL z
  | _ => none
def spForm (K : PySem.W.Frag) : Sp := fun vs H Q _ => ∃ v d, vs = [v] ∧ DV H v d ∧ (∀ ws a, formD d = some ws → KTup K a (ws.map V.str) → Q (.ref a) H) ∧ (formD d = none → Q .non H)
theorem formL_len {z : Str} {ws : List Str} (h : formL z = some ws) : 1 ≤ ws.length ∧ ws.length ≤ 3 := by
  unfold formL at h
  obtain ⟨x, hx, rfl⟩ := Option.map_eq_some_iff.mp h
  have : ∀ x ∈ forms, 1 ≤ x.2.length ∧ x.2.length ≤ 3 := by decide +kernel
  exact this x (List.mem_of_find?_eq_some hx)
theorem dvs_get {H : Hp} : ∀ {xs : List V} {ds : List PyData} {i : Nat} {v : V}, DVs H xs ds → xs[i]? = some v → ∃ d, ds[i]? = some d ∧ DV H v d
  | _, _, 0, v, .cons a r, h => by
    cases h
    exact ⟨_, rfl, a⟩
  | _, _, i + 1, v, .cons a r, h => by
    have := dvs_get (i := i) r (by simpa using h)
    simpa using this
section
variable {P : Program} {w : World} {K : PySem.W.Frag} {mg : Str → Option Value} {base : Heap}
theorem form_at (T : Tx K mg w.params) (z : Str) (u : Value) (h : ([("tick", Value.ref T.A_ACT_FORMS_tick), ("write", .ref T.A_ACT_FORMS_write), ("carry", .ref T.A_ACT_FORMS_carry), ("drop", .ref T.A_ACT_FORMS_drop), ("double", .ref T.A_ACT_FORMS_double), ("stop", .ref T.A_ACT_FORMS_stop), ("cut", .ref T.A_ACT_FORMS_cut), ("rise", .ref T.A_ACT_FORMS_rise)] : List (Str × Value)).find? (fun x => x.1 == z) = some (z, u)) :
    ∃ ws a, formL z = some ws ∧ u = .ref a ∧ KTup K a (ws.map V.str) := by
  simp only [List.find?_cons, List.find?_nil] at h
  split at h
  · cases h
    exact ⟨["house"], _, by decide +kernel, rfl, T.q_ACT_FORMS_tick⟩
  split at h
  · cases h
    exact ⟨["house", "cell", "text"], _, by decide +kernel, rfl, T.q_ACT_FORMS_write⟩
  split at h
  · cases h
    exact ⟨["index"], _, by decide +kernel, rfl, T.q_ACT_FORMS_carry⟩
  split at h
  · cases h
    exact ⟨["index"], _, by decide +kernel, rfl, T.q_ACT_FORMS_drop⟩
  split at h
  · cases h
    exact ⟨["index"], _, by decide +kernel, rfl, T.q_ACT_FORMS_double⟩
  split at h
  · cases h
    exact ⟨["house", "count"], _, by decide +kernel, rfl, T.q_ACT_FORMS_stop⟩
  split at h
  · cases h
    exact ⟨["house", "count"], _, by decide +kernel, rfl, T.q_ACT_FORMS_cut⟩
  split at h
  · cases h
    exact ⟨["house"], _, by decide +kernel, rfl, T.q_ACT_FORMS_rise⟩
  cases h
theorem form_no (T : Tx K mg w.params) (z : Str) (h : ([("tick", Value.ref T.A_ACT_FORMS_tick), ("write", .ref T.A_ACT_FORMS_write), ("carry", .ref T.A_ACT_FORMS_carry), ("drop", .ref T.A_ACT_FORMS_drop), ("double", .ref T.A_ACT_FORMS_double), ("stop", .ref T.A_ACT_FORMS_stop), ("cut", .ref T.A_ACT_FORMS_cut), ("rise", .ref T.A_ACT_FORMS_rise)] : List (Str × Value)).find? (fun x => x.1 == z) = none) :
    formL z = none := by
  unfold formL forms
  simp only [List.find?_eq_none, List.mem_cons, List.not_mem_nil, or_false, forall_eq_or_imp, forall_eq] at h
  rw [List.find?_eq_none.mpr]
  · rfl
  · simp only [List.mem_cons, List.not_mem_nil, or_false, forall_eq_or_imp, forall_eq]
    exact h
theorem ok_form_of (T : Tx K mg w.params) : FnG P w K mg base 1 T.d_form_of.f T.d_form_of.fd ["value"] (spForm K) := by
  refine okG0 T.d_form_of.F sc_form_of (fun vs H Q E h => ?_) (fun cdv A outer s H vs Q E hg hr h => ?_)
  · obtain ⟨v, d, rfl, _⟩ := h
    rfl
  obtain ⟨v, d, rfl, hd, k1, k2⟩ := h
  refine ⟨_, (pss_one (ps_ret (pe_ifExp (pt_val (pe_callB call_isiA (by rfl) T.n_isinstance (by decide +kernel) (pa_cons (pv 0) (pa_cons (pe_bltn (v := .ty "str") (by rfl) T.n_str (by decide +kernel) rfl) pa_nil)))) (pe_getW (pe_glob (v := .ref T.C_ACT_FORMS) rfl T.m_ACT_FORMS rfl) (pv 0) ⟨rfl, rfl, rfl, rfl⟩) pe_non))), ?_⟩
  walk_at "rd"
  refine r_isiD hd (kit_str d) ?_
  cases hd with
  | str z =>
    simp only [isS]
    walk_at "rd"
    refine ⟨_, rfl, T.w_ACT_FORMS.lit, _, rfl, z, rfl, ?_⟩
    refine T.w_ACT_FORMS.get (fun u v f r => ?_) (fun x hx => ?_) (fun f => k2 (form_no T z f))
    · obtain ⟨ws, a, e, rfl, q⟩ := form_at T z u f
      cases v with
      | ref b =>
        cases (show Value.ref a = Value.ref b from r)
        exact k1 ws a e q
      | _ => exact absurd r (by intro q; cases q <;> simp_all [RelV])
    · simp only [List.mem_cons, List.not_mem_nil, or_false] at hx
      rcases hx with rfl | rfl | rfl | rfl | rfl | rfl | rfl | rfl <;> exact ⟨.ref _, rfl⟩
  | _ =>
    simp only [isS]
    walk_at "rd"
    exact k2 rfl
theorem ok_is_item (T : Tx K mg w.params) : FnG P w K mg base 3 T.d_is_item.f T.d_is_item.fd ["word", "value"] (fun vs H Q _ => ∃ z v d, vs = [.str z, v] ∧ DV H v d ∧ (∀ y, d = .str y → y.length ≤ 100000) ∧ Q (.bl (itemB (k3 z) d)) H) := by
  refine okG0 T.d_is_item.F sc_is_item (fun vs H Q E h => ?_) (fun cdv A outer s H vs Q E hg hr h => ?_)
  · obtain ⟨z, v, d, rfl, _⟩ := h
    rfl
  obtain ⟨z, v, d, rfl, hd, hz, k⟩ := h
  refine ⟨_, (pss_cons (ps_if (pt_cmpR op_eq (pv 0) pe_str (nomark _))
      (pss_one (ps_ret (pe_cG (ok_is_cell T) T.d_is_cell.b takes0 hg (hr.mono (by decide)) T.d_is_cell.m T.d_is_cell.F.kp (pa_cons (pv 1) pa_nil))))
      pss_nil)
    (pss_cons (ps_if (pt_cmpR op_eq (pv 0) pe_str (nomark _))
      (pss_one (ps_ret (pe_cG (ok_is_text T) T.d_is_text.b takes0 hg (hr.mono (by decide)) T.d_is_text.m T.d_is_text.F.kp (pa_cons (pv 1) pa_nil))))
      pss_nil)
    (pss_one (ps_ret (pe_cG (ok_is_count T) T.d_is_count.b takes0 hg (hr.mono (by decide)) T.d_is_count.m T.d_is_count.F.kp (pa_cons (pv 1) pa_nil)))))), ?_⟩
  walk_at "rd"
  refine ⟨rfl, ?_⟩
  unfold k3 at k
  by_cases e1 : z = "cell"
  · rw [if_pos e1]
    rw [if_pos e1] at k
    exact ⟨v, d, rfl, .dat hd, hz, k⟩
  · rw [if_neg e1]
    rw [if_neg e1] at k
    refine ⟨rfl, ?_⟩
    by_cases e2 : z = "text"
    · rw [if_pos e2]
      rw [if_pos e2] at k
      exact ⟨v, d, rfl, .dat hd, hz, k⟩
    · rw [if_neg e2]
      rw [if_neg e2] at k
      exact ⟨v, d, rfl, hd, k⟩
theorem ok_is_act (T : Tx K mg w.params) : FnG P w K mg base 4 T.d_is_act.f T.d_is_act.fd ["value"] (fun vs H Q _ => ∃ v d, vs = [v] ∧ DV H v d ∧ Lens d ∧ ∀ H', Same H H' → Q (.bl (actB d)) H') := by
  refine okG0 T.d_is_act.F sc_is_act (fun vs H Q E h => ?_) (fun cdv A outer s H vs Q E hg hr h => ?_)
  · obtain ⟨v, d, rfl, _⟩ := h
    rfl
  obtain ⟨v, d, rfl, hd, hl, k⟩ := h
  have sz : sizeLine = 16777216 := sizeLine_eq
  refine ⟨_, (pss_cons (ps_if (PW.pt (pw_or (pt_not (pt_val (pe_callB call_isiA (by rfl) T.n_isinstance (by decide +kernel) (pa_cons (pv 0) (pa_cons (pe_bltn (v := .ty "tuple") (by rfl) T.n_tuple (by decide +kernel) rfl) pa_nil))))) (pw_or1 (pt_cmpR op_eq (pe_callB call_len_seq (by rfl) T.n_len (by decide +kernel) (pa_cons (pv 0) pa_nil)) pe_int (nomark _)))))
      (pss_one (ps_ret pe_bl))
      pss_nil)
    (pss_cons (ps_set (i := 1) sc_is_act.nd rfl (Or.inl rfl) (pe_cG (ok_form_of T) T.d_form_of.b takes0 hg (hr.mono (by decide)) T.d_form_of.m T.d_form_of.F.kp (pa_cons (pe_ix ix_tup (pv 0) pe_int (fun _ _ => rfl)) pa_nil)))
    (pss_cons (ps_if (PW.pt (pw_or (pt_cmpR op_isN (pv 1) pe_non (nomark _)) (pw_or1 (pt_cmpR op_ne (pe_callB call_len_seq (by rfl) T.n_len (by decide +kernel) (pa_cons (pv 0) pa_nil)) (pe_op op_add pe_int (pe_callB call_len_seq (by rfl) T.n_len (by decide +kernel) (pa_cons (pv 1) pa_nil))) (nomark _)))))
      (pss_one (ps_ret pe_bl))
      pss_nil)
    (pss_one (ps_ret (pe_callB (cr_all rfl) (by rfl) T.n_all (by decide +kernel) (pa_cons (pe_lc (own := [("word", 2), ("item", 3)]) (g := (gTup K 2 (gCons (gName 2) (gCons (gName 3) gNil)))) (tt := tYes) rfl sc_is_act.nd (pi_zipT (by rfl) T.n_zip (pa_cons (pv 1) (pa_cons (pe_slice sl_tup (pv 0) (po_some pe_int) po_none) pa_nil))) (blkOk_by (N := ["value", "form", "word", "item"]) (sc := defScope s_is_act) (by decide +kernel)) (fun _ _ _ _ _ => (pg_tup rfl (pgs_cons (pg_name (i := 2) sc_is_act.nd rfl (Or.inl rfl)) (pgs_cons (pg_name (i := 3) sc_is_act.nd rfl (Or.inl rfl)) pgs_nil)))) (fun _ _ _ _ _ => pts_nil) (fun _ _ _ _ _ => (pe_cG (ok_is_item T) T.d_is_item.b takes0 hg (hr.mono (by decide)) T.d_is_item.m T.d_is_item.F.kp (pa_cons (pv 2) (pa_cons (pv 3) pa_nil))))) pa_nil))))))), ?_⟩
  walk_at "rd"
  refine r_isiD hd (kit_tuple d) ?_
  cases hd with
  | @tup a xs ds ha hx =>
    simp only [isT]
    walk_at "rd"
    refine ⟨xs, .inr (SqT.of ha), rfl, ?_⟩
    cases hx with
    | nil =>
      rw [if_pos (show ((([] : List V).length : Nat) : Int) = 0 from rfl)]
      exact k H (Same.refl H)
    | @cons x xs d ds hx hxs =>
      have el := hxs.len
      rw [if_neg (by rw [List.length_cons]; omega)]
      refine r_ixT (SqT.of ha) (at0 rfl) ⟨x, d, rfl, hx, fun ws b hf hb => ?_, fun hf => ?_⟩
      · dsimp only
        rw [if_neg (by intro q; cases q)]
        refine ⟨_, .inr (SqT.of ha), b, rfl, _, .inr (hb.sq H), rfl, ?_⟩
        cases d with
        | str z =>
          have hf : formL z = some ws := hf
          have ea : actB (.tuple (.str z :: ds)) = itemsB ws ds := by
            show (match formL z with | some ws => itemsB ws ds | none => false) = _
            rw [hf]
          rw [ea] at k
          unfold itemsB at k
          by_cases e : ds.length = ws.length
          · rw [if_neg (by rw [List.length_cons, List.length_map]; simp; omega)]
            rw [decide_eq_true e, Bool.true_and] at k
            refine ⟨_, rfl, _, rfl, 1, rfl, a, _, rfl, SqT.of ha, ?_, fun q hq => ?_⟩
            · exact sIx_tail
            · rw [cutV_tail]
              refine ⟨b, q, _, _, rfl, hb.sq _, .inr ⟨SqT.of upd_same, fun D hD => ?_⟩⟩
              have S1 := Same.new (o := .tup xs) hq
              refine lc_flat (walk_zipT (n := ws.length) (by rw [List.length_map]; omega)) ((ws.zip ds).map fun p => V.bl (itemB (k3 p.1) p.2)) hD (by simp; omega) (by have := formL_len hf; omega) (fun H' S => ⟨hb.sq _, SqT.of (S _ _ upd_same)⟩) ?_ ?_
              · rintro i y u Ha Hb R hu S ⟨t, y1, y2, rfl, ht, rfl, h1, h2⟩ kR
                refine r_unp (.of upd_same) rfl ?_
                walk_at "rd"
                obtain ⟨z1, hz1, rfl⟩ : ∃ z1, ws[i]? = some z1 ∧ V.str z1 = y1 := by
                  have h1 : (ws.map V.str)[i]? = some y1 := h1
                  rw [List.getElem?_map] at h1
                  exact Option.map_eq_some_iff.mp h1
                obtain ⟨d1, hd1, dv1⟩ := dvs_get hxs h2
                have Sa : Same H Ha := S1.trans S
                refine ⟨z1, y2, ⟨rfl, rfl⟩, d1, (dv1.mono Sa).mono (Same.new ht), fun y e => ?_, ?_⟩
                · exact hl.t _ rfl y (by rw [← e]; exact List.mem_cons_of_mem _ (List.mem_of_getElem? hd1))
                · have : u = V.bl (itemB (k3 z1) d1) := by
                    rw [List.getElem?_map, List.getElem?_zip_eq_some (z := (z1, d1)) |>.mpr ⟨hz1, hd1⟩] at hu
                    exact (Option.some.inj hu).symm
                  rw [← this]
                  exact kR _ (Same.new ht)
              · intro H' S f
                refine ⟨D, (ws.zip ds).map fun p => itemB (k3 p.1) p.2, rfl, .of (by rw [f, List.map_map]; rfl), ?_⟩
                have e : (((ws.zip ds).map fun p => itemB (k3 p.1) p.2).all id) = ((ws.zip ds).all fun p => itemB (k3 p.1) p.2) := by rw [List.all_map]; rfl
                rw [e]
                exact k H' (S1.trans S)
          · rw [if_pos (by rw [List.length_cons, List.length_map]; simp; omega)]
            rw [decide_eq_false e, Bool.false_and] at k
            exact k H (Same.refl H)
        | _ => cases hf
      · dsimp only
        rw [if_pos rfl]
        have : actB (.tuple (d :: ds)) = false := by
          cases d with
          | str z =>
            have hf : formL z = none := hf
            show (match formL z with | some ws => itemsB ws ds | none => false) = _
            rw [hf]
          | _ => rfl
        rw [this] at k
        exact k H (Same.refl H)
  | _ =>
    simp only [isT]
    walk_at "rd"
    exact k H (Same.refl H)
end
end K57


namespace K57
open PySem L2 Nv

/-! acts as lines -/
def txtD : PyData → Str
  | .str z => z
  | .int i => Str.ofString (toString i)
  | _ => Str.empty
def actT : PyData → Str
  | .tuple ds => Txt.join (Str.ofString " ") (ds.map txtD)
  | _ => Str.empty
def Bigs (d : PyData) : Prop := ∀ ds, d = .tuple ds → ∀ i, PyData.int i ∈ ds → i.natAbs < 10 ^ 500
def flat2 : PyData → Bool
  | .str _ => true
  | .int i => decide (0 ≤ i)
  | _ => false
theorem item_flat {k : K3} {d : PyData} (h : itemB k d = true) : flat2 d = true := by
  cases k with
  | num =>
    cases d with
    | int i => exact h
    | _ => cases h
  | cel =>
    cases d with
    | str z => rfl
    | _ => cases h
  | txt =>
    cases d with
    | str z => rfl
    | _ => cases h
theorem items_flat : ∀ {ws : List Str} {ds : List PyData}, itemsB ws ds = true → ∀ d ∈ ds, flat2 d = true
  | [], [], _, d, h => by cases h
  | [], _ :: _, h, _, _ => by simp [itemsB] at h
  | _ :: _, [], h, _, _ => by simp [itemsB] at h
  | w :: ws, x :: ds, h, d, m => by
    simp only [itemsB, List.length_cons, List.zip_cons_cons, List.all_cons, Bool.and_eq_true, decide_eq_true_eq] at h
    rcases List.mem_cons.mp m with rfl | m
    · exact item_flat h.2.1
    · refine items_flat (ws := ws) (ds := ds) ?_ d m
      simp only [itemsB, Bool.and_eq_true, decide_eq_true_eq]
      exact ⟨by omega, h.2.2⟩
theorem act_of {d : PyData} (h : actB d = true) : ∃ z ds ws, d = .tuple (.str z :: ds) ∧ formL z = some ws ∧ itemsB ws ds = true := by
  unfold actB at h
  split at h
  · rename_i z ds
    split at h
    · rename_i ws e
      exact ⟨z, ds, ws, rfl, e, h⟩
    · cases h
  · cases h
theorem act_flat {ds : List PyData} (h : actB (.tuple ds) = true) : ds.length ≤ 4 ∧ ∀ d ∈ ds, flat2 d = true := by
  obtain ⟨z, ds', ws, e, f, i⟩ := act_of h
  cases e
  have l := formL_len f
  have hl : ds'.length = ws.length := by
    simp only [itemsB, Bool.and_eq_true, decide_eq_true_eq] at i
    exact i.1
  refine ⟨by simp only [List.length_cons]; omega, fun d m => ?_⟩
  rcases List.mem_cons.mp m with rfl | m
  · rfl
  · exact items_flat i d m
def spActL (CA : Addr) : Sp := fun vs H Q E => ∃ v d, vs = [v] ∧ DV H v d ∧ Lens d ∧ Bigs d ∧ (actB d = true → ∀ H', Same H H' → Q (.str (actT d)) H') ∧
  (actB d = false → ∀ dd H', H dd = none → Same H H' → H' dd = some (.xd [("given", v)]) → E (.ref CA) (some dd) H')
/-- an item as it is read -/
def vItem : K3 → Str → V
  | .num, p => if numS p = true then .int ((Fr.num (sg p) : Nat) : Int) else .non
  | _, p => .str p
def dItem : K3 → Str → PyData
  | .num, p => if numS p = true then .int ((Fr.num (sg p) : Nat) : Int) else .none
  | _, p => .str p
theorem item_dv {H : Hp} (k : K3) (p : Str) : DV H (vItem k p) (dItem k p) := by
  cases k with
  | num =>
    show DV H (if numS p = true then V.int ((Fr.num (sg p) : Nat) : Int) else .non) (if numS p = true then PyData.int ((Fr.num (sg p) : Nat) : Int) else .none)
    by_cases h : numS p = true
    · rw [if_pos h, if_pos h]
      exact .int _
    · rw [if_neg h, if_neg h]
      exact .non
  | _ => exact .str _
theorem num_int {z : Str} (h : numS z = true) (l : z.length ≤ 640) : intText? z = some ((Fr.num (sg z) : Nat) : Int) := by
  have e : numL (sg z) = true := by
    rw [← numS_eq]
    exact h
  unfold numL at e
  simp only [Bool.and_eq_true, decide_eq_true_eq] at e
  have h1 := e.1.1
  rw [sg_len] at h1
  exact int_dig e.1.2 (by omega) l
def readP (z : Str) : Option PyData :=
  match Txt.splitMax z (Str.ofString " ") 3 with
  | [] => none
  | k :: ps => match formL k with
    | none => none
    | some ws => if ps.length = ws.length ∧ actB (.tuple (.str k :: (ws.zip ps).map fun p => dItem (k3 p.1) p.2)) = true then some (.tuple (.str k :: (ws.zip ps).map fun p => dItem (k3 p.1) p.2)) else none
def readD : PyData → Option PyData
  | .str z => readP z
  | _ => none
def spIn : Sp := fun vs H Q _ => ∃ v d, vs = [v] ∧ DV H v d ∧ (∀ z, d = .str z → z.length ≤ 500) ∧
  (readD d = none → ∀ H', Same H H' → Q .non H') ∧ (∀ r, readD d = some r → ∀ p H', H p = none → Same H H' → DV H' (.ref p) r → Q (.ref p) H')
def spReadA (CL : Addr) : Sp := fun vs H Q E => ∃ v d, vs = [v] ∧ DV H v d ∧ (∀ z, d = .str z → z.length ≤ 500) ∧
  (readD d = none → ∀ dd H', H dd = none → Same H H' → H' dd = some (.xd [("given", v)]) → E (.ref CL) (some dd) H') ∧ (∀ r, readD d = some r → ∀ p H', H p = none → Same H H' → DV H' (.ref p) r → Q (.ref p) H')
theorem none_of {H H' : Hp} {p : Addr} (S : Same H H') (h : H' p = none) : H p = none := by
  cases q : H p with
  | none => rfl
  | some o =>
    rw [S _ _ q] at h
    cases h
theorem flat_txt {H : Hp} {v : V} {d : PyData} (h : DV H v d) (f : flat2 d = true) : (∃ z, v = .str z ∧ d = .str z) ∨ ∃ i, v = .int i ∧ d = .int i ∧ 0 ≤ i := by
  cases h with
  | str z => exact .inl ⟨z, rfl, rfl⟩
  | int i => exact .inr ⟨i, rfl, rfl, by simpa [flat2] using f⟩
  | _ => cases f
section
variable {P : Program} {w : World} {K : PySem.W.Frag} {mg : Str → Option Value} {base : Heap}
theorem okx_InvalidLine (T : Tx K mg w.params) : FnOk P w K mg base CX0 1 T.x_InvalidLine.f T.x_InvalidLine.fd ["self", "given"] (spXI K "given") :=
  ok_xi T.x_InvalidLine.F sc_InvalidLine_init rfl (by decide) (by decide)
theorem okx_InvalidAct (T : Tx K mg w.params) : FnOk P w K mg base CX0 1 T.x_InvalidAct.f T.x_InvalidAct.fd ["self", "given"] (spXI K "given") :=
  ok_xi T.x_InvalidAct.F sc_InvalidAct_init rfl (by decide) (by decide)
theorem ok_act_line (T : Tx K mg w.params) : FnG P w K mg base 5 T.d_act_line.f T.d_act_line.fd ["act"] (spActL T.C_InvalidAct) := by
  refine okG T.d_act_line.F sc_act_line (fun vs H Q E h => ?_) (fun cdv A outer s H vs Q E hg hr h => ?_)
  · obtain ⟨v, d, rfl, _⟩ := h
    rfl
  obtain ⟨v, d, rfl, hd, hl, hb, k1, k2⟩ := h
  have sz : sizeLine = 16777216 := sizeLine_eq
  refine ⟨_, (pss_cons (ps_if (pt_not (pt_val (pe_cG (ok_is_act T) T.d_is_act.b (takes_of rfl rfl rfl rfl) hg (hr.mono (by decide)) T.d_is_act.m T.d_is_act.F.kp (pa_cons (pv 0) pa_nil))))
      (pss_one (ps_err rfl (takes_of rfl rfl rfl rfl) T.e_InvalidAct (okx_InvalidAct T) T.x_InvalidAct.bi (hr.mono (by decide)) (pv 0)))
      pss_nil)
    (pss_one (ps_ret (pe_join pe_str (pe_lc (own := [("item", 1)]) (g := gName 1) (tt := tYes) rfl sc_act_line.nd (pi_tup (pv 0)) (blkOk_by (N := ["act", "item"]) (sc := defScope s_act_line) (by decide +kernel)) (fun _ _ _ _ _ => pg_name (i := 1) sc_act_line.nd rfl (Or.inl rfl)) (fun _ _ _ _ _ => pts_nil) (fun _ _ _ _ _ => (pe_callTy call_strA (by rfl) T.n_str (by decide +kernel) (pa_cons (pv 1) pa_nil)))))))), ?_⟩
  walk_at "rd"
  refine ⟨d, hd, hl, fun H1 S1 => ?_⟩
  cases e : actB d with
  | false =>
    walk_at "rd"
    intro dd hdd
    exact k2 e dd _ (none_of S1 hdd) (S1.trans (Same.new hdd)) upd_same
  | true =>
    walk_at "rd"
    cases hd with
    | @tup a xs ds ha hxs =>
      obtain ⟨l4, fl⟩ := act_flat e
      refine ⟨⟨_, rfl⟩, _, rfl, a, rfl, ⟨xs, SqT.of (S1 _ _ ha)⟩, fun D hD => ?_⟩
      have lx := hxs.len
      refine lc_flat walk_tup (ds.map fun d => V.str (txtD d)) hD (by simp; omega) (by omega) (fun H' S => SqT.of (S _ _ (S1 _ _ ha))) ?_ ?_
      · rintro i x y Ha Hb R hy S ⟨rfl, hx⟩ kR
        obtain ⟨d, hd, dv⟩ := dvs_get hxs hx
        rw [List.getElem?_map, hd] at hy
        cases hy
        refine ⟨rfl, ?_⟩
        walk_at "rd"
        rcases flat_txt dv (fl d (List.mem_of_getElem? hd)) with ⟨z, rfl, rfl⟩ | ⟨n, rfl, rfl, n0⟩
        · exact .inl ⟨z, rfl, kR _ (Same.refl _)⟩
        · exact .inr ⟨n, rfl, big_log (hb _ rfl n (List.mem_of_getElem? hd)), kR _ (Same.refl _)⟩
      · intro H' S f
        refine ⟨D, rfl, ds.map txtD, .inl (.of (by rw [f, List.map_map]; rfl)), ?_, k1 e _ (S1.trans S)⟩
        have : ∀ m : List PyData, (∀ d ∈ m, flat2 d = true ∧ (txtD d).length ≤ 100000) → ((m.map txtD).map (·.length)).sum ≤ 100000 * m.length := by
          intro m
          induction m with
          | nil => simp
          | cons d r ih =>
            intro h
            have h1 := ih fun x hx => h x (by simp [hx])
            have h2 := (h d (by simp)).2
            simp only [List.map_cons, List.sum_cons, List.length_cons]
            omega
        have := this ds fun d hd => ⟨fl d hd, ?_⟩
        · have one : (Str.ofString " ").length = 1 := by decide +kernel
          rw [one, List.length_map]
          omega
        · have f2 := fl d hd
          cases d with
          | str z => exact hl.t _ rfl z hd
          | int n =>
            have := big_len (hb _ rfl n hd)
            show (Str.ofString (toString n)).length ≤ _
            omega
          | _ => cases f2
    | _ => cases e
theorem ok_item_in (T : Tx K mg w.params) : FnG P w K mg base 2 T.d_item_in.f T.d_item_in.fd ["kind", "word"] (fun vs H Q _ => ∃ k p, vs = [.str k, .str p] ∧ p.length ≤ 600 ∧ ∀ H', Same H H' → Q (vItem (k3 k) p) H') := by
  refine okG0 T.d_item_in.F sc_item_in (fun vs H Q E h => ?_) (fun cdv A outer s H vs Q E hg hr h => ?_)
  · obtain ⟨k, p, rfl, _⟩ := h
    rfl
  obtain ⟨k, p, rfl, lp, kk⟩ := h
  refine ⟨_, (pss_cons (ps_if (pt_cmpR op_in_seq (pv 0) (pe_tup (pa_cons pe_str (pa_cons pe_str pa_nil))) (by rfl))
      (pss_one (ps_ret (pv 1)))
      pss_nil)
    (pss_one (ps_ret (pe_ifExp (pt_val (pe_cG (ok_is_numeral T) T.d_is_numeral.b takes0 hg (hr.mono (by decide)) T.d_is_numeral.m T.d_is_numeral.F.kp (pa_cons (pv 1) pa_nil))) (pe_callTy call_int_str (by rfl) T.n_int (by decide +kernel) (pa_cons (pv 1) pa_nil)) pe_non)))), ?_⟩
  walk_at "rd"
  refine ⟨by decide, fun q hq => ⟨q, _, rfl, .inr (SqT.of upd_same), rfl, rfl, ?_⟩⟩
  have S := Same.new (o := .tup [V.str (Str.ofString "cell"), V.str (Str.ofString "text")]) hq
  have ei : inV (V.str k) [V.str (Str.ofString "cell"), V.str (Str.ofString "text")] = (("cell" : Str) == k || ("text" : Str) == k) := by
    simp [inV, eqV]
  rw [ei]
  walk_at "rd"
  unfold k3 at kk
  by_cases e1 : k = "cell"
  · rw [if_pos e1] at kk
    rw [if_pos (by rw [e1]; decide +kernel)]
    exact kk _ S
  rw [if_neg e1] at kk
  by_cases e2 : k = "text"
  · rw [if_pos e2] at kk
    rw [if_pos (by rw [e2]; decide +kernel)]
    exact kk _ S
  rw [if_neg e2] at kk
  rw [if_neg (by simp; exact ⟨fun z => e1 z.symm, fun z => e2 z.symm⟩)]
  have kk := kk _ S
  by_cases n : numS p = true
  · rw [if_pos n]
    have e : vItem .num p = .int ((Fr.num (sg p) : Nat) : Int) := if_pos n
    rw [e] at kk
    exact ⟨_, num_int n (by omega), by omega, kk⟩
  · rw [if_neg n]
    have e : vItem .num p = .non := if_neg n
    rw [e] at kk
    exact kk
theorem ok_act_in (T : Tx K mg w.params) : FnG P w K mg base 5 T.d_act_in.f T.d_act_in.fd ["value"] spIn := by
  refine okG0 T.d_act_in.F sc_act_in (fun vs H Q E h => ?_) (fun cdv A outer s H vs Q E hg hr h => ?_)
  · obtain ⟨v, d, rfl, _⟩ := h
    rfl
  obtain ⟨v, d, rfl, hd, hz, k1, k2⟩ := h
  have sz : sizeLine = 16777216 := sizeLine_eq
  refine ⟨_, (pss_cons (ps_if (pt_not (pt_val (pe_callB call_isiA (by rfl) T.n_isinstance (by decide +kernel) (pa_cons (pv 0) (pa_cons (pe_bltn (v := .ty "str") (by rfl) T.n_str (by decide +kernel) rfl) pa_nil)))))
      (pss_one (ps_ret pe_non))
      pss_nil)
    (pss_cons (ps_set (i := 1) sc_act_in.nd rfl (Or.inl rfl) (pe_bm PySem.F.plainAttrs_str PySem.F.slot_str_split PySem.F.type_str_split mt_splitMax (pv 0) (pa_cons pe_str (pa_cons pe_int pa_nil))))
    (pss_cons (ps_set (i := 2) sc_act_in.nd rfl (Or.inl rfl) (pe_cG (ok_form_of T) T.d_form_of.b takes0 hg (hr.mono (by decide)) T.d_form_of.m T.d_form_of.F.kp (pa_cons (pe_ix ix_list (pv 1) pe_int (fun _ _ => rfl)) pa_nil)))
    (pss_cons (ps_if (PW.pt (pw_or (pt_cmpR op_isN (pv 2) pe_non (nomark _)) (pw_or1 (pt_cmpR op_ne (pe_callB call_len_seq (by rfl) T.n_len (by decide +kernel) (pa_cons (pv 1) pa_nil)) (pe_op op_add pe_int (pe_callB call_len_seq (by rfl) T.n_len (by decide +kernel) (pa_cons (pv 2) pa_nil))) (nomark _)))))
      (pss_one (ps_ret pe_non))
      pss_nil)
    (pss_cons (ps_set (i := 3) sc_act_in.nd rfl (Or.inl rfl) (pe_callTy call_tuple_of (by rfl) T.n_tuple (by decide +kernel) (pa_cons (pe_op op_cat (pe_slice sl_list (pv 1) po_none (po_some pe_int)) (pe_lc (own := [("kind", 4), ("word", 5)]) (g := (gTup K 2 (gCons (gName 4) (gCons (gName 5) gNil)))) (tt := tYes) rfl sc_act_in.nd (pi_zipT (by rfl) T.n_zip (pa_cons (pv 2) (pa_cons (pe_slice sl_list (pv 1) (po_some pe_int) po_none) pa_nil))) (blkOk_by (N := ["value", "words", "form", "act", "kind", "word"]) (sc := defScope s_act_in) (by decide +kernel)) (fun _ _ _ _ _ => (pg_tup rfl (pgs_cons (pg_name (i := 4) sc_act_in.nd rfl (Or.inl rfl)) (pgs_cons (pg_name (i := 5) sc_act_in.nd rfl (Or.inl rfl)) pgs_nil)))) (fun _ _ _ _ _ => pts_nil) (fun _ _ _ _ _ => (pe_cG (ok_item_in T) T.d_item_in.b takes0 hg (hr.mono (by decide)) T.d_item_in.m T.d_item_in.F.kp (pa_cons (pv 4) (pa_cons (pv 5) pa_nil)))))) pa_nil)))
    (pss_one (ps_ret (pe_ifExp (pt_val (pe_cG (ok_is_act T) T.d_is_act.b takes0 hg (hr.mono (by decide)) T.d_is_act.m T.d_is_act.F.kp (pa_cons (pv 3) pa_nil))) (pv 3) pe_non)))))))), ?_⟩
  walk_at "rd"
  refine r_isiD hd (kit_str d) ?_
  cases hd with
  | str z =>
    have lz := hz z rfl
    simp only [isS]
    walk_at "rd"
    refine ⟨rfl, _, _, ⟨rfl, rfl⟩, by decide +kernel, by decide, by decide, by omega, fun l hl => ?_⟩
    obtain ⟨k, ps, hps⟩ := splitMax_ne z 3
    have hps : Txt.splitMax z (Str.ofString " ") 3 = k :: ps := hps
    have sub : ∀ p ∈ k :: ps, p.length ≤ 500 := fun p hp => by
      have := (splitMax_sub (x := z) (p := p) (k := 3) (by rw [hps]; exact hp)).1
      omega
    have l4 := splitMax_len z
    rw [hps] at l4 ⊢
    rw [List.length_cons] at l4
    obtain ⟨H1, e1, S1, f1⟩ := gen_new (.lst ((k :: ps).map V.str)) hl
    rw [e1]
    have er : readD (.str z) = match formL k with
      | none => none
      | some ws => if ps.length = ws.length ∧ actB (.tuple (.str k :: (ws.zip ps).map fun p => dItem (k3 p.1) p.2)) = true then some (.tuple (.str k :: (ws.zip ps).map fun p => dItem (k3 p.1) p.2)) else none := by
      show readP z = _
      unfold readP
      rw [hps]
    refine r_ixL (.of f1) (at0 rfl) ⟨_, .str k, rfl, .str k, fun ws b hf hb => ?_, fun hf => ?_⟩
    · have hf : formL k = some ws := hf
      rw [hf] at er
      simp only at er
      have lw := formL_len hf
      dsimp only
      rw [if_neg (by intro q; cases q)]
      refine ⟨l, rfl, _, .inl (.of f1), b, rfl, _, .inr (hb.sq _), rfl, ?_⟩
      by_cases el : ps.length = ws.length
      · rw [if_neg (by rw [List.length_map, List.length_map, List.length_cons]; simp; omega)]
        refine ⟨l, _, rfl, .of f1, fun q hq => ?_⟩
        rw [List.map_cons, cutV_head]
        obtain ⟨H2, e2, S2, f2⟩ := gen_new (.lst [V.str k]) hq
        rw [e2]
        refine ⟨_, rfl, _, rfl, 1, rfl, l, _, rfl, .of (S2 _ _ f1), fun q2 hq2 => ?_⟩
        rw [List.map_cons, cutV_tail]
        obtain ⟨H3, e3, S3, f3⟩ := gen_new (.lst (ps.map V.str)) hq2
        rw [e3]
        refine ⟨b, q2, _, _, rfl, hb.sq _, .inl ⟨.of f3, fun D hD => ?_⟩⟩
        refine lc_flat (walk_zipM (n := ws.length) (by rw [List.length_map, List.length_map]; omega)) ((ws.zip ps).map fun p => vItem (k3 p.1) p.2) hD (by simp; omega) (by omega) (fun H' S => ⟨hb.sq _, .of (S _ _ f3)⟩) ?_ ?_
        · rintro i y u Ha Hb R hu S ⟨t, y1, y2, rfl, ht, rfl, h1, h2⟩ kR
          refine r_unp (.of upd_same) rfl ?_
          walk_at "rd"
          obtain ⟨z1, hz1, rfl⟩ : ∃ z1, ws[i]? = some z1 ∧ V.str z1 = y1 := by
            have h1 : (ws.map V.str)[i]? = some y1 := h1
            rw [List.getElem?_map] at h1
            exact Option.map_eq_some_iff.mp h1
          obtain ⟨z2, hz2, rfl⟩ : ∃ z2, ps[i]? = some z2 ∧ V.str z2 = y2 := by
            have h2 : (ps.map V.str)[i]? = some y2 := h2
            rw [List.getElem?_map] at h2
            exact Option.map_eq_some_iff.mp h2
          have eu : u = vItem (k3 z1) z2 := by
            rw [List.getElem?_map, List.getElem?_zip_eq_some (z := (z1, z2)) |>.mpr ⟨hz1, hz2⟩] at hu
            exact (Option.some.inj hu).symm
          refine ⟨z1, z2, ⟨rfl, rfl⟩, ?_, fun H' S' => ?_⟩
          · have := sub z2 (List.mem_cons_of_mem _ (List.mem_of_getElem? hz2))
            omega
          · rw [← eu]
            exact kR _ ((Same.new ht).trans S')
        · intro H' S f
          refine ⟨q, D, _, _, rfl, rfl, S _ _ (S3 _ _ f2), f, ?_, fun p hp => ⟨p, rfl, _, .inl ⟨.of upd_same, fun t ht => ?_⟩⟩⟩
          · rw [List.length_map, List.length_zip]
            simp
            omega
          · obtain ⟨d, ed⟩ : ∃ d, d = PyData.tuple (.str k :: (ws.zip ps).map fun p => dItem (k3 p.1) p.2) := ⟨_, rfl⟩
            have S03 := (S1.trans S2).trans S3
            have Sp : Same H (upd H' p (.lst ([V.str k] ++ (ws.zip ps).map fun p => vItem (k3 p.1) p.2))) := (S03.trans S).trans (Same.new hp)
            have St := Sp.trans (Same.new (o := .tup ([V.str k] ++ (ws.zip ps).map fun p => vItem (k3 p.1) p.2)) ht)
            have items : ∀ (Hx : Hp) (l : List (Str × Str)), DVs Hx (l.map fun p => vItem (k3 p.1) p.2) (l.map fun p => dItem (k3 p.1) p.2) := by
              intro Hx l
              induction l with
              | nil => exact .nil
              | cons x r ih => exact .cons (item_dv _ _) ih
            have dv : ∀ Hx, Same (upd (upd H' p (.lst ([V.str k] ++ (ws.zip ps).map fun p => vItem (k3 p.1) p.2))) t (.tup ([V.str k] ++ (ws.zip ps).map fun p => vItem (k3 p.1) p.2))) Hx → DV Hx (.ref t) d := fun Hx Sx => by
              rw [ed]
              exact .tup (Sx _ _ upd_same) (.cons (.str k) (items _ _))
            refine ⟨d, dv _ (Same.refl _), ⟨fun y e => (by rw [ed] at e; cases e), fun es e y m => ?_⟩, fun Hx Sx => ?_⟩
            · rw [ed] at e
              cases e
              rcases List.mem_cons.mp m with e | m
              · cases e
                have := sub k (by simp)
                omega
              · obtain ⟨x, hx, ex⟩ := List.mem_map.mp m
                have hz2 : x.2 ∈ ps := (List.of_mem_zip hx).2
                have : y = x.2 := by
                  unfold dItem at ex
                  split at ex
                  · split at ex <;> cases ex
                  · cases ex
                    rfl
                rw [this]
                have := sub x.2 (by simp [hz2])
                omega
            · rw [ed] at *
              cases ea : actB (.tuple (.str k :: (ws.zip ps).map fun p => dItem (k3 p.1) p.2)) with
              | true =>
                rw [if_pos rfl]
                exact k2 _ (by rw [er, if_pos ⟨el, ea⟩]) t Hx (none_of Sp ht) (St.trans Sx) (dv Hx Sx)
              | false =>
                rw [if_neg (by decide)]
                exact k1 (by rw [er, if_neg (by rw [ea]; simp)]) Hx (St.trans Sx)
      · rw [if_pos (by rw [List.length_map, List.length_map, List.length_cons]; simp; omega)]
        exact k1 (by rw [er, if_neg fun q => el q.1]) _ S1
    · dsimp only
      rw [if_pos rfl]
      have hf : formL k = none := hf
      rw [hf] at er
      exact k1 er _ S1
  | _ =>
    simp only [isS]
    walk_at "rd"
    exact k1 rfl H (Same.refl H)
theorem ok_read_act (T : Tx K mg w.params) : FnG P w K mg base 6 T.d_read_act.f T.d_read_act.fd ["line"] (spReadA T.C_InvalidLine) := by
  refine okG T.d_read_act.F sc_read_act (fun vs H Q E h => ?_) (fun cdv A outer s H vs Q E hg hr h => ?_)
  · obtain ⟨v, d, rfl, _⟩ := h
    rfl
  obtain ⟨v, d, rfl, hd, hz, k1, k2⟩ := h
  refine ⟨_, (pss_cons (ps_set (i := 1) sc_read_act.nd rfl (Or.inl rfl) (pe_cG (ok_act_in T) T.d_act_in.b (takes_of rfl rfl rfl rfl) hg (hr.mono (by decide)) T.d_act_in.m T.d_act_in.F.kp (pa_cons (pv 0) pa_nil)))
    (pss_cons (ps_if (pt_cmpR op_isN (pv 1) pe_non (nomark _))
      (pss_one (ps_err rfl (takes_of rfl rfl rfl rfl) T.e_InvalidLine (okx_InvalidLine T) T.x_InvalidLine.bi (hr.mono (by decide)) (pv 0)))
      pss_nil)
    (pss_one (ps_ret (pv 1))))), ?_⟩
  walk_at "rd"
  refine ⟨v, d, rfl, hd, hz, fun e H' S => ?_, fun r e p H' hp S hH => ?_⟩
  · walk_at "rd"
    intro dd hdd
    exact k1 e dd _ (none_of S hdd) (S.trans (Same.new hdd)) upd_same
  · walk_at "rd"
    rw [if_neg (fun q => by cases q)]
    exact k2 r e p H' hp S hH
end
end K57


namespace K57
open PySem L2 Nv

/-! the law's own judges -/
def nm3 : K3 → Str
  | .num => "number"
  | .cel => "cell"
  | .txt => "text"
def lawK (z : Str) : List Str := match formL z with
  | none => []
  | some ws => ws.map fun w => nm3 (k3 w)
theorem lawK_eq (z : Str) : lawK z = if z = "write" then ([("number" : Str), "cell", "text"] : List Str) else if z = "stop" ∨ z = "cut" then [("number" : Str), "number"] else if z = "tick" ∨ z = "carry" ∨ z = "drop" ∨ z = "double" ∨ z = "rise" then [("number" : Str)] else ([] : List Str) := by
  by_cases h1 : z = "write"
  · subst h1
    decide +kernel
  by_cases h2 : z = "stop"
  · subst h2
    decide +kernel
  by_cases h3 : z = "cut"
  · subst h3
    decide +kernel
  by_cases h4 : z = "tick"
  · subst h4
    decide +kernel
  by_cases h5 : z = "carry"
  · subst h5
    decide +kernel
  by_cases h6 : z = "drop"
  · subst h6
    decide +kernel
  by_cases h7 : z = "double"
  · subst h7
    decide +kernel
  by_cases h8 : z = "rise"
  · subst h8
    decide +kernel
  rw [if_neg h1, if_neg (by simp [h2, h3]), if_neg (by simp [h4, h5, h6, h7, h8])]
  have : formL z = none := by
    unfold formL forms
    rw [List.find?_eq_none.mpr]
    · rfl
    · simp only [List.mem_cons, List.not_mem_nil, or_false, forall_eq_or_imp, forall_eq, beq_iff_eq]
      exact ⟨Ne.symm h4, Ne.symm h1, Ne.symm h5, Ne.symm h6, Ne.symm h7, Ne.symm h2, Ne.symm h3, Ne.symm h8⟩
  unfold lawK
  rw [this]
def spKinds : Sp := fun vs H Q _ => ∃ z, vs = [.str z] ∧ ∀ p H', H p = none → p ≠ sysModules → Same H H' → H' p = some (.lst ((lawK z).map V.str)) → Q (.ref p) H'
/-- texts in it are of few signs -/
structure LensA (d : PyData) : Prop where
  s : ∀ z, d = .str z → Asc z ∧ z.length ≤ 100000
  t : ∀ ds, d = .tuple ds → ∀ z, PyData.str z ∈ ds → Asc z ∧ z.length ≤ 100000
theorem LensA.lens {d : PyData} (h : LensA d) : Lens d := ⟨fun z e => (h.s z e).2, fun ds e z m => (h.t ds e z m).2⟩
def spJX (g : PyData → Bool) : Sp := fun vs H Q _ => ∃ v d, vs = [v] ∧ DV H v d ∧ LensA d ∧ ∀ H', Same H H' → Q (.bl (g d)) H'
section
variable {P : Program} {w : World} {K : PySem.W.Frag} {mg : Str → Option Value} {base : Heap}
theorem ok_l_kinds (T : Tx K mg w.params) : FnG P w K mg base 1 T.d_l_kinds.f T.d_l_kinds.fd ["_law_kind"] spKinds := by
  refine okG0 T.d_l_kinds.F sc_l_kinds (fun vs H Q E h => ?_) (fun cdv A outer s H vs Q E hg hr h => ?_)
  · obtain ⟨z, rfl, _⟩ := h
    rfl
  obtain ⟨z, rfl, k⟩ := h
  rw [lawK_eq] at k
  refine ⟨_, (pss_cons (ps_if (pt_cmpR op_eq (pv 0) pe_str (nomark _))
      (pss_one (ps_ret (pe_lst1 (pa_cons pe_str (pa_cons pe_str (pa_cons pe_str pa_nil))))))
      pss_nil)
    (pss_cons (ps_if (pt_cmpR op_in_seq (pv 0) (pe_lst1 (pa_cons pe_str (pa_cons pe_str pa_nil))) (by rfl))
      (pss_one (ps_ret (pe_lst1 (pa_cons pe_str (pa_cons pe_str pa_nil)))))
      pss_nil)
    (pss_one (ps_ret (pe_ifExp (pt_cmpR op_in_seq (pv 0) (pe_lst1 (pa_cons pe_str (pa_cons pe_str (pa_cons pe_str (pa_cons pe_str (pa_cons pe_str pa_nil)))))) (by rfl)) (pe_lst1 (pa_cons pe_str pa_nil)) (pe_lst1 pa_nil)))))), ?_⟩
  walk_at "rd"
  refine ⟨rfl, ?_⟩
  by_cases h1 : z = "write"
  · rw [if_pos h1] at k ⊢
    exact ⟨by decide, fun p hp np => k p _ hp np (Same.new hp) upd_same⟩
  rw [if_neg h1] at k ⊢
  refine ⟨by decide, fun p hp np => r_inS (l := ["stop", "cut"]) (.inl (.of upd_same)) ⟨_, rfl, ?_⟩⟩
  have S1 := Same.new (o := .lst [V.str (Str.ofString "stop"), V.str (Str.ofString "cut")]) hp
  by_cases h2 : z = "stop" ∨ z = "cut"
  · rw [if_pos h2] at k
    rw [if_pos (by simpa using h2)]
    exact ⟨by decide, fun p2 hp2 np2 => k p2 _ (none_of S1 hp2) np2 (S1.trans (Same.new hp2)) upd_same⟩
  rw [if_neg h2] at k
  rw [if_neg (by simpa using h2)]
  refine ⟨by decide, fun p2 hp2 np2 => r_inS (l := ["tick", "carry", "drop", "double", "rise"]) (.inl (.of upd_same)) ⟨_, rfl, ?_⟩⟩
  have S2 := S1.trans (Same.new (o := .lst [V.str (Str.ofString "tick"), V.str (Str.ofString "carry"), V.str (Str.ofString "drop"), V.str (Str.ofString "double"), V.str (Str.ofString "rise")]) hp2)
  by_cases h3 : z = "tick" ∨ z = "carry" ∨ z = "drop" ∨ z = "double" ∨ z = "rise"
  · rw [if_pos h3] at k
    rw [if_pos (by simpa using h3)]
    exact ⟨by decide, fun p3 hp3 np3 => k p3 _ (none_of S2 hp3) np3 (S2.trans (Same.new hp3)) upd_same⟩
  · rw [if_neg h3] at k
    rw [if_neg (by simpa using h3)]
    exact ⟨by decide, fun p3 hp3 np3 => k p3 _ (none_of S2 hp3) np3 (S2.trans (Same.new hp3)) upd_same⟩
theorem ok_l_signs (T : Tx K mg w.params) : FnG P w K mg base 1 T.d_l_signs.f T.d_l_signs.fd [] (fun vs H Q _ => vs = [] ∧ ∀ z : Str, z.length = 94 → (∀ c ∈ sg z, pc c = true) → Q (.str z) H) := by
  refine okG0 T.d_l_signs.F sc_l_signs (fun vs H Q E h => ?_) (fun cdv A outer s H vs Q E hg hr h => ?_)
  · rw [h.1]
    rfl
  obtain ⟨rfl, k⟩ := h
  refine ⟨_, (pss_one (ps_ret pe_str)), ?_⟩
  walk_at "rd"
  exact k _ (by decide +kernel) (by decide +kernel)
theorem ok_l_is_number (T : Tx K mg w.params) : FnG P w K mg base 1 T.d_l_is_number.f T.d_l_is_number.fd ["_law_value"] (spJ cntB) := by
  refine okG0 T.d_l_is_number.F sc_l_is_number (fun vs H Q E h => ?_) (fun cdv A outer s H vs Q E hg hr h => ?_)
  · obtain ⟨v, d, rfl, _⟩ := h
    rfl
  obtain ⟨v, d, rfl, hd, k⟩ := h
  refine ⟨_, (pss_one (ps_ret (pe_and (pe_callB call_isiA (by rfl) T.n_isinstance (by decide +kernel) (pa_cons (pv 0) (pa_cons (pe_bltn (v := .ty "int") (by rfl) T.n_int (by decide +kernel) rfl) pa_nil))) (pe_and (pe_not (pe_callB call_isiA (by rfl) T.n_isinstance (by decide +kernel) (pa_cons (pv 0) (pa_cons (pe_bltn (v := .ty "bool") (by rfl) T.n_bool (by decide +kernel) rfl) pa_nil)))) (pe_one (pe_cmpR op_ge (pv 0) pe_int (nomark _))))))), ?_⟩
  walk_at "rd"
  refine r_isiD hd (kit_int d) ?_
  walk_at "rd"
  cases hd with
  | int i =>
    simp only [isI, isB, Bool.or_false]
    walk_at "rd"
    refine r_isiD (DV.int i) (kit_bool _) ?_
    simp only [isB]
    walk_at "rd"
    simpa only [cntB] using k
  | bl b =>
    simp only [isI, isB, Bool.or_true]
    walk_at "rd"
    refine r_isiD (DV.bl b) (kit_bool _) ?_
    simp only [isB]
    walk_at "rd"
    exact k
  | _ =>
    simp only [isI, isB, Bool.or_false]
    walk_at "rd"
    exact k
theorem ok_l_is_cell (T : Tx K mg w.params) : FnG P w K mg base 1 T.d_l_is_cell.f T.d_l_is_cell.fd ["_law_value"] (spJW cellB) := by
  refine okG0 T.d_l_is_cell.F sc_l_is_cell (fun vs H Q E h => ?_) (fun cdv A outer s H vs Q E hg hr h => ?_)
  · obtain ⟨v, d, rfl, _⟩ := h
    rfl
  obtain ⟨v, d, rfl, hd, hz, k⟩ := h
  have sz : sizeLine = 16777216 := sizeLine_eq
  refine ⟨_, (pss_cons (ps_if (PW.pt (pw_or (pt_not (pt_val (pe_callB call_isiA (by rfl) T.n_isinstance (by decide +kernel) (pa_cons (pv 0) (pa_cons (pe_bltn (v := .ty "str") (by rfl) T.n_str (by decide +kernel) rfl) pa_nil))))) (pw_or1 (pt_cmpR op_notIn_rng (pe_callB call_len_str (by rfl) T.n_len (by decide +kernel) (pa_cons (pv 0) pa_nil)) (pe_callTy cr_range2 (by rfl) T.n_range (by decide +kernel) (pa_cons pe_int (pa_cons pe_int pa_nil))) (by rfl)))))
      (pss_one (ps_ret pe_bl))
      pss_nil)
    (pss_one (ps_ret (pe_cmpR (op_eqD hr.units) (pe_lc (own := [("_law_letter", 1)]) (g := gName 1) rfl sc_l_is_cell.nd (pi_str (pv 0)) (blkOk_by (N := ["_law_value", "_law_letter"]) (sc := defScope s_l_is_cell) (by decide +kernel)) (fun _ _ _ _ _ => pg_name (i := 1) sc_l_is_cell.nd rfl (Or.inl rfl)) (fun _ _ _ _ _ => (pts_one (pt_cmpR op_notIn_sign (pv 1) pe_str (by rfl)))) (fun _ _ _ _ _ => (pv 1))) (pe_lst1 pa_nil) (nomark _))))), ?_⟩
  walk_at "rd"
  refine r_isiD hd (kit_str d) ?_
  cases hd with
  | str z =>
    obtain ⟨az, lz⟩ := hz z rfl
    simp only [isS]
    walk_at "rd"
    refine ⟨by omega, 1, 9, ⟨rfl, rfl⟩, fun q hq => ?_⟩
    obtain ⟨H1, e1, S1, f1⟩ := gen_new (.rng 1 9) hq
    rw [e1]
    refine ⟨1, 9, rfl, ?_⟩
    have ce : cellB (PyData.str z) = (decide (z.length ≤ 8) && (decide (0 < z.length) && (sg z).all low)) := by
      show celS z = _
      unfold celS
      rw [alow]
    rw [ce] at k
    walk_at "rd"
    by_cases h18 : 1 ≤ (z.length : Int) ∧ (z.length : Int) < 9
    · rw [if_neg (by simpa using h18)]
      have g1 : decide (0 < z.length) = true := by simp; omega
      have g8 : decide (z.length ≤ 8) = true := by simp; omega
      rw [g1, g8] at k
      refine ⟨V.str z, rfl, z, rfl, fun D hD => ?_⟩
      refine lc_it walk_str (fun i H' => H' D = some (.lst ((((sg z).take i).filter fun c => !low c).map fun c => V.str ⟨#[c]⟩)) ∧ Same H1 H') ⟨upd_same, Same.new hD⟩ (fun _ _ _ _ => trivial) ?_ ?_
      · rintro j x H2 H3 hj ⟨f, S⟩ ⟨rfl, c, hc, rfl⟩
        have hc' : (sg z)[j]? = some c := by
          show z.cps.toList[j]? = _
          rw [Array.getElem?_toList]
          exact hc
        refine ⟨rfl, ?_⟩
        walk_at "rd"
        refine ⟨c, rfl, ?_⟩
        rw [alph_in]
        rw [take_filter hc']
        have hlen : ((((sg z).take j).filter fun c => !low c).map fun c => V.str ⟨#[c]⟩).length < sizeLine := by
          rw [List.length_map, sz]
          have h1 := List.length_filter_le (fun c => !low c) ((sg z).take j)
          have h2 : ((sg z).take j).length ≤ (sg z).length := by
            rw [List.length_take]
            omega
          rw [sg_len] at h2
          omega
        cases hd : low c with
        | true =>
          simp only [Bool.not_true, Bool.false_eq_true, ↓reduceIte, List.append_nil]
          exact ⟨f, S⟩
        | false =>
          simp only [Bool.not_false, ↓reduceIte]
          refine ⟨_, f, hlen, ?_, fun a u ha => by rw [upd_ne (ne_of_none ha hD)]; exact S a u ha⟩
          rw [List.map_append]
          rfl
      · rintro H2 ⟨f, S⟩
        refine ⟨by decide, fun p hp np => ?_⟩
        have e : (sg z).take z.cps.size = sg z := by
          apply List.take_of_length_le
          rw [sg_len]
          exact Nat.le_refl _
        rw [e] at f
        have npD : D ≠ p := ne_of_none f hp
        have S3 : Same H1 (upd H2 p (.lst [])) := Same.trans S (Same.new hp)
        obtain ⟨H3, e3⟩ : ∃ H3, upd H2 p (.lst []) = H3 := ⟨_, rfl⟩
        have f3 : H3 D = some (.lst (((sg z).filter fun c => !low c).map fun c => V.str ⟨#[c]⟩)) := by
          rw [← e3, upd_ne npD]
          exact f
        have p3 : H3 p = some (.lst []) := by
          rw [← e3]
          exact upd_same
        rw [e3] at S3 ⊢
        refine r_eq_ones (fun c hc => az c (List.mem_filter.mp hc).1) f3 p3 ?_
        rw [filt_all]
        exact k H3 (S1.trans S3)
    · rw [if_pos (by simpa using h18)]
      have : (decide (z.length ≤ 8) && (decide (0 < z.length) && (sg z).all low)) = false := by
        by_cases g : z.length ≤ 8
        · have : decide (0 < z.length) = false := by simp; omega
          rw [this]
          simp
        · simp [g]
      rw [this] at k
      exact k H1 S1
  | _ =>
    simp only [isS]
    walk_at "rd"
    exact k H (Same.refl H)
theorem ok_l_is_text (T : Tx K mg w.params) : FnG P w K mg base 1 T.d_l_is_text.f T.d_l_is_text.fd ["_law_value"] (spJW textB) := by
  refine okG0 T.d_l_is_text.F sc_l_is_text (fun vs H Q E h => ?_) (fun cdv A outer s H vs Q E hg hr h => ?_)
  · obtain ⟨v, d, rfl, _⟩ := h
    rfl
  obtain ⟨v, d, rfl, hd, hz, k⟩ := h
  have sz : sizeLine = 16777216 := sizeLine_eq
  refine ⟨_, (pss_cons (ps_if (PW.pt (pw_or (pt_not (pt_val (pe_callB call_isiA (by rfl) T.n_isinstance (by decide +kernel) (pa_cons (pv 0) (pa_cons (pe_bltn (v := .ty "str") (by rfl) T.n_str (by decide +kernel) rfl) pa_nil))))) (pw_or1 (pt_cmpR op_gt (pe_callB call_len_str (by rfl) T.n_len (by decide +kernel) (pa_cons (pv 0) pa_nil)) pe_int (nomark _)))))
      (pss_one (ps_ret pe_bl))
      pss_nil)
    (pss_one (ps_ret (pe_cmpR (op_eqD hr.units) (pe_lc (own := [("_law_sign", 1)]) (g := gName 1) rfl sc_l_is_text.nd (pi_str (pv 0)) (blkOk_by (N := ["_law_value", "_law_sign"]) (sc := defScope s_l_is_text) (by decide +kernel)) (fun _ _ _ _ _ => pg_name (i := 1) sc_l_is_text.nd rfl (Or.inl rfl)) (fun _ _ _ _ _ => (pts_one (pt_not (pt_chain op_le_str op_le_str pe_str (pv 1) pe_str)))) (fun _ _ _ _ _ => (pv 1))) (pe_lst1 pa_nil) (nomark _))))), ?_⟩
  walk_at "rd"
  refine r_isiD hd (kit_str d) ?_
  cases hd with
  | str z =>
    obtain ⟨az, lz⟩ := hz z rfl
    simp only [isS]
    walk_at "rd"
    refine ⟨by omega, ?_⟩
    have ce : textB (PyData.str z) = ((sg z).all pc && decide (z.length ≤ 40)) := by
      show (okS z && _) = _
      rw [okS_all]
    rw [ce] at k
    by_cases h4 : (40 : Int) < (z.length : Int)
    · rw [if_pos h4]
      have g4 : decide (z.length ≤ 40) = false := by simp; omega
      rw [g4, Bool.and_false] at k
      exact k H (Same.refl H)
    · rw [if_neg h4]
      have g4 : decide (z.length ≤ 40) = true := by simp; omega
      rw [g4, Bool.and_true] at k
      refine ⟨V.str z, rfl, z, rfl, fun D hD => ?_⟩
      refine lc_it walk_str (fun i H' => H' D = some (.lst ((((sg z).take i).filter fun c => !pc c).map fun c => V.str ⟨#[c]⟩)) ∧ Same H H') ⟨upd_same, Same.new hD⟩ (fun _ _ _ _ => trivial) ?_ ?_
      · rintro j x H2 H3 hj ⟨f, S⟩ ⟨rfl, c, hc, rfl⟩
        have hc' : (sg z)[j]? = some c := by
          show z.cps.toList[j]? = _
          rw [Array.getElem?_toList]
          exact hc
        refine ⟨rfl, ?_⟩
        walk_at "rd"
        have l1 : decide ([c] < (Str.ofString " ").cps.toList) = decide (c < 32) := by
          have : (Str.ofString " ").cps.toList = [32] := by decide +kernel
          rw [this]
          congr 1
          simp [List.cons_lt_cons_iff]
        have l2 : decide ((Str.ofString "~").cps.toList < [c]) = decide (126 < c) := by
          have : (Str.ofString "~").cps.toList = [126] := by decide +kernel
          rw [this]
          congr 1
          simp [List.cons_lt_cons_iff]
        rw [l1, l2]
        rw [take_filter hc']
        have hlen : ((((sg z).take j).filter fun c => !pc c).map fun c => V.str ⟨#[c]⟩).length < sizeLine := by
          rw [List.length_map, sz]
          have h1 := List.length_filter_le (fun c => !pc c) ((sg z).take j)
          have h2 : ((sg z).take j).length ≤ (sg z).length := by
            rw [List.length_take]
            omega
          rw [sg_len] at h2
          omega
        have bad : pc c = false → ∃ acc, H3 D = some (HO.lst acc) ∧ acc.length < sizeLine ∧ HO.lst (acc ++ [V.str { cps := #[c] }]) = HO.lst (List.map (fun c => V.str { cps := #[c] }) (List.filter (fun c => !pc c) (List.take j (sg z)) ++ if (!pc c) = true then [c] else [])) ∧ Same H (upd H3 D (HO.lst (acc ++ [V.str { cps := #[c] }]))) := fun hd => by
          rw [hd]
          simp only [Bool.not_false, ↓reduceIte]
          refine ⟨_, f, hlen, ?_, fun a u ha => by rw [upd_ne (ne_of_none ha hD)]; exact S a u ha⟩
          rw [List.map_append]
          rfl
        by_cases c1 : c < 32
        · have hd : pc c = false := by unfold pc; simp; omega
          rw [if_neg (by simpa using c1)]
          exact bad hd
        · rw [if_pos (by simpa using c1)]
          by_cases c2 : 126 < c
          · have hd : pc c = false := by unfold pc; simp; omega
            rw [if_pos (by simpa using c2)]
            exact bad hd
          · have hd : pc c = true := by unfold pc; simp; omega
            rw [if_neg (by simpa using c2), hd]
            simp only [Bool.not_true, Bool.false_eq_true, ↓reduceIte, List.append_nil]
            exact ⟨f, S⟩
      · rintro H2 ⟨f, S⟩
        refine ⟨by decide, fun p hp np => ?_⟩
        have e : (sg z).take z.cps.size = sg z := by
          apply List.take_of_length_le
          rw [sg_len]
          exact Nat.le_refl _
        rw [e] at f
        have npD : D ≠ p := ne_of_none f hp
        have S3 : Same H (upd H2 p (.lst [])) := Same.trans S (Same.new hp)
        obtain ⟨H3, e3⟩ : ∃ H3, upd H2 p (.lst []) = H3 := ⟨_, rfl⟩
        have f3 : H3 D = some (.lst (((sg z).filter fun c => !pc c).map fun c => V.str ⟨#[c]⟩)) := by
          rw [← e3, upd_ne npD]
          exact f
        have p3 : H3 p = some (.lst []) := by
          rw [← e3]
          exact upd_same
        rw [e3] at S3 ⊢
        refine r_eq_ones (fun c hc => az c (List.mem_filter.mp hc).1) f3 p3 ?_
        rw [filt_all]
        exact k H3 S3
  | _ =>
    simp only [isS]
    walk_at "rd"
    exact k H (Same.refl H)
end
end K57


namespace K57
open PySem L2 Nv

theorem n1 : ((Str.ofString "cell" : Str) = Str.ofString "number") = False := by simp; decide +kernel
theorem n2 : ((Str.ofString "text" : Str) = Str.ofString "number") = False := by simp; decide +kernel
theorem n3 : ((Str.ofString "number" : Str) = Str.ofString "cell") = False := by simp; decide +kernel
theorem n4 : ((Str.ofString "text" : Str) = Str.ofString "cell") = False := by simp; decide +kernel
theorem n5 : ((Str.ofString "number" : Str) = Str.ofString "text") = False := by simp; decide +kernel
theorem n6 : ((Str.ofString "cell" : Str) = Str.ofString "text") = False := by simp; decide +kernel
theorem at_succ {xs : List V} {x v : V} {i : Nat} (h : xs[i]? = some v) : atI (x :: xs) ((i : Int) + 1) = some v := by
  have := atI_nat (j := i + 1) (xs := x :: xs) (v := v) (by simpa using h)
  have e : ((i + 1 : Nat) : Int) = (i : Int) + 1 := by omega
  rw [e] at this
  exact this
theorem joinL_snoc : ∀ (l : List (List Nat)) (b : List Nat), l ≠ [] → joinL (l ++ [b]) = joinL l ++ 32 :: b
  | [], _, h => absurd rfl h
  | [a], b, _ => rfl
  | a :: c :: r, b, _ => by
    have ih := joinL_snoc (c :: r) b (by simp)
    show a ++ 32 :: joinL (c :: r ++ [b]) = (a ++ 32 :: joinL (c :: r)) ++ 32 :: b
    rw [ih]
    simp
theorem join_snoc {l : List Str} {b : Str} (h : l ≠ []) : Txt.join (Str.ofString " ") (l ++ [b]) = Txt.join (Str.ofString " ") l ++ Str.ofString " " ++ b := by
  apply sg_inj
  rw [joinL_sg, List.map_append, sg_app, sg_app, joinL_sg]
  have : sg (Str.ofString " ") = [32] := by decide +kernel
  rw [this]
  show joinL (l.map sg ++ [sg b]) = _
  rw [joinL_snoc _ _ (by simpa using h)]
  simp
def spWr : Sp := fun vs H Q _ => ∃ v ds, vs = [v] ∧ DV H v (.tuple ds) ∧ Lens (.tuple ds) ∧ Bigs (.tuple ds) ∧ actB (.tuple ds) = true ∧ ∀ H', Same H H' → Q (.str (actT (.tuple ds))) H'
def spNum : Sp := fun vs H Q _ => ∃ z, vs = [.str z] ∧ Asc z ∧ z.length ≤ 600 ∧ ∀ H', Same H H' → Q (vItem .num z) H'
section
variable {P : Program} {w : World} {K : PySem.W.Frag} {mg : Str → Option Value} {base : Heap}
theorem ok_l_is_act (T : Tx K mg w.params) : FnG P w K mg base 2 T.d_l_is_act.f T.d_l_is_act.fd ["_law_value"] (spJX actB) := by
  refine okG0 T.d_l_is_act.F sc_l_is_act (fun vs H Q E h => ?_) (fun cdv A outer s H vs Q E hg hr h => ?_)
  · obtain ⟨v, d, rfl, _⟩ := h
    rfl
  obtain ⟨v, d, rfl, hd, hl, k⟩ := h
  have sz : sizeLine = 16777216 := sizeLine_eq
  refine ⟨_, (pss_cons (ps_if (PW.pt (pw_or (pt_not (pt_val (pe_callB call_isiA (by rfl) T.n_isinstance (by decide +kernel) (pa_cons (pv 0) (pa_cons (pe_bltn (v := .ty "tuple") (by rfl) T.n_tuple (by decide +kernel) rfl) pa_nil))))) (pw_or (pt_cmpR op_lt (pe_callB call_len_seq (by rfl) T.n_len (by decide +kernel) (pa_cons (pv 0) pa_nil)) pe_int (nomark _)) (pw_or1 (pt_not (pt_val (pe_callB call_isiA (by rfl) T.n_isinstance (by decide +kernel) (pa_cons (pe_ix ix_tup (pv 0) pe_int (fun _ _ => rfl)) (pa_cons (pe_bltn (v := .ty "str") (by rfl) T.n_str (by decide +kernel) rfl) pa_nil)))))))))
      (pss_one (ps_ret pe_bl))
      pss_nil)
    (pss_cons (ps_set (i := 1) sc_l_is_act.nd rfl (Or.inl rfl) (pe_cG (ok_l_kinds T) T.d_l_kinds.b takes0 hg (hr.mono (by decide)) T.d_l_kinds.m T.d_l_kinds.F.kp (pa_cons (pe_ix ix_tup (pv 0) pe_int (fun _ _ => rfl)) pa_nil)))
    (pss_cons (ps_if (pt_cmpR op_ne (pe_callB call_len_seq (by rfl) T.n_len (by decide +kernel) (pa_cons (pv 1) pa_nil)) (pe_op op_sub (pe_callB call_len_seq (by rfl) T.n_len (by decide +kernel) (pa_cons (pv 0) pa_nil)) pe_int) (nomark _))
      (pss_one (ps_ret pe_bl))
      pss_nil)
    (pss_cons (ps_for PassesOwn.never rfl (pi_range1 (by rfl) T.n_range (pa_cons (pe_callB call_len_seq (by rfl) T.n_len (by decide +kernel) (pa_cons (pv 1) pa_nil)) pa_nil)) (pg_name (i := 2) sc_l_is_act.nd rfl (Or.inl rfl))
      (pss_cons (ps_set (i := 3) sc_l_is_act.nd rfl (Or.inl rfl) (pe_ix ix_tup (pv 0) (pe_op op_add (pv 2) pe_int) (fun _ _ => rfl)))
      (pss_cons (ps_if (PW.pt (pw_or (PW.pt (pw_and (pt_cmpR op_eq (pe_ix ix_list (pv 1) (pv 2) (fun _ _ => rfl)) pe_str (nomark _)) (pw_and1 (pt_not (pt_val (pe_cG (ok_l_is_number T) T.d_l_is_number.b takes0 hg (hr.mono (by decide)) T.d_l_is_number.m T.d_l_is_number.F.kp (pa_cons (pv 3) pa_nil))))))) (pw_or1 (PW.pt (pw_and (pt_cmpR op_eq (pe_ix ix_list (pv 1) (pv 2) (fun _ _ => rfl)) pe_str (nomark _)) (pw_and1 (pt_not (pt_val (pe_cG (ok_l_is_cell T) T.d_l_is_cell.b takes0 hg (hr.mono (by decide)) T.d_l_is_cell.m T.d_l_is_cell.F.kp (pa_cons (pv 3) pa_nil))))))))))
        (pss_one (ps_ret pe_bl))
        pss_nil)
      (pss_one (ps_if (PW.pt (pw_and (pt_cmpR op_eq (pe_ix ix_list (pv 1) (pv 2) (fun _ _ => rfl)) pe_str (nomark _)) (pw_and1 (pt_not (pt_val (pe_cG (ok_l_is_text T) T.d_l_is_text.b takes0 hg (hr.mono (by decide)) T.d_l_is_text.m T.d_l_is_text.F.kp (pa_cons (pv 3) pa_nil)))))))
        (pss_one (ps_ret pe_bl))
        pss_nil)))))
    (pss_one (ps_ret pe_bl)))))), ?_⟩
  walk_at "rd"
  refine r_isiD hd (kit_tuple d) ?_
  cases hd with
  | @tup a xs ds ha hxs =>
    simp only [isT]
    walk_at "rd"
    refine ⟨xs, .inr (SqT.of ha), ?_⟩
    have lx := hxs.len
    by_cases h2 : (xs.length : Int) < 2
    · rw [if_pos h2]
      have : actB (.tuple ds) = false := by
        cases e : actB (.tuple ds) with
        | false => rfl
        | true =>
          obtain ⟨z, ds', ws, e1, e2, e3⟩ := act_of e
          cases e1
          have := formL_len e2
          simp only [itemsB, Bool.and_eq_true, decide_eq_true_eq] at e3
          rw [List.length_cons] at lx
          omega
      rw [this] at k
      exact k H (Same.refl H)
    rw [if_neg h2]
    cases hxs with
    | nil => exact absurd (show (0 : Int) < 2 by decide) h2
    | @cons x xs d ds hx hxs =>
      refine r_ixT (SqT.of ha) (at0 rfl) ?_
      refine r_isiD hx (kit_str d) ?_
      cases hx with
      | str z =>
        simp only [isS]
        walk_at "rd"
        refine r_ixT (SqT.of ha) (at0 rfl) ⟨z, rfl, fun p H1 hp np S1 f1 => ?_⟩
        have ea : actB (.tuple (.str z :: ds)) = match formL z with | some ws => itemsB ws ds | none => false := rfl
        have lx := hxs.len
        refine ⟨p, rfl, _, .inl (.of f1), _, .inr (SqT.of (S1 _ _ ha)), rfl, ?_⟩
        cases hf : formL z with
        | none =>
          rw [hf] at ea
          rw [ea] at k
          rw [if_pos (by unfold lawK; rw [hf]; simp only [List.map_nil, List.length_nil, List.length_cons] at h2 ⊢; simp; omega)]
          exact k H1 S1
        | some ws =>
          rw [hf] at ea
          simp only at ea
          rw [ea] at k
          have lw := formL_len hf
          have lk : lawK z = ws.map fun w => nm3 (k3 w) := by
            unfold lawK
            rw [hf]
          rw [lk] at f1
          by_cases el : ds.length = ws.length
          · rw [if_neg (by rw [lk]; simp; omega)]
            unfold itemsB at k
            rw [decide_eq_true el, Bool.true_and] at k
            refine ⟨_, rfl, p, rfl, _, .inl (.of f1), _, rfl, by simp, by simp; omega, ?_⟩
            refine for_range (fun i σ H' => ∃ y2 y3, σ = [some (.ref a), some (.ref p), y2, y3] ∧ Same H1 H' ∧ ((ws.zip ds).take i).all (fun p => itemB (k3 p.1) p.2) = true) ⟨_, _, rfl, Same.refl H1, rfl⟩ ?_ ?_
            · rintro i σ H2 hi ⟨y2, y3, rfl, S2, g⟩
              have hi : i < ws.length := by simpa using hi
              obtain ⟨w1, hw1⟩ : ∃ w1, ws[i]? = some w1 := ⟨_, List.getElem?_eq_getElem hi⟩
              obtain ⟨x1, hx1⟩ : ∃ x1, xs[i]? = some x1 := ⟨_, List.getElem?_eq_getElem (by omega)⟩
              obtain ⟨d1, hd1, dv1⟩ := dvs_get hxs hx1
              have fs : SqL K H2 p (ws.map (fun w => V.str (nm3 (k3 w)))) := .of (by rw [S2 _ _ f1, List.map_map]; rfl)
              have hs : atI (ws.map (fun w => V.str (nm3 (k3 w)))) (i : Int) = some (V.str (nm3 (k3 w1))) := atI_nat (by rw [List.getElem?_map, hw1]; rfl)
              have hz : (ws.zip ds)[i]? = some (w1, d1) := List.getElem?_zip_eq_some (z := (w1, d1)) |>.mpr ⟨hw1, hd1⟩
              have bad : itemB (k3 w1) d1 = false → ∀ H', Same H1 H' → Q (.bl false) H' := fun e H' S => by
                have : ((ws.zip ds).all fun p => itemB (k3 p.1) p.2) = false := by
                  rw [List.all_eq_false]
                  exact ⟨_, List.mem_of_getElem? hz, by rw [e]; decide⟩
                rw [this] at k
                exact k H' (S1.trans S)
              have good : itemB (k3 w1) d1 = true → ((ws.zip ds).take (i + 1)).all (fun p => itemB (k3 p.1) p.2) = true := fun e => by
                rw [List.take_add_one, hz, List.all_append, g]
                simp [e]
              have ld := fun y (e : d1 = PyData.str y) => hl.t _ rfl y (List.mem_cons_of_mem _ (by rw [← e]; exact List.mem_of_getElem? hd1))
              have fsx : ∀ Hx, Same H2 Hx → SqL K Hx p (ws.map (fun w => V.str (nm3 (k3 w)))) := fun Hx Sx => .of (by rw [Sx _ _ (S2 _ _ f1), List.map_map]; rfl)
              have dv := (dv1.mono S1).mono S2
              clear k hl
              walk_at "rd"
              rw [Int.zero_add]
              refine r_ixT (SqT.of (S2 _ _ (S1 _ _ ha))) (at_succ hx1) ?_
              refine r_ixL fs hs ⟨rfl, ?_⟩
              generalize hc : k3 w1 = c at hs good bad
              cases c with
              | num =>
                simp only [nm3, V.str.injEq, n1, n2, n3, n4, n5, n6, ↓reduceIte]
                refine ⟨_, d1, rfl, dv, _, rfl, ?_⟩
                have ei : itemB .num d1 = cntB d1 := rfl
                rw [ei] at good bad
                cases ec : cntB d1 with
                | false =>
                  walk_at "rd"
                  exact bad ec H2 S2
                | true =>
                  walk_at "rd"
                  refine r_ixL fs hs ⟨rfl, ?_⟩
                  simp only [nm3, V.str.injEq, n1, n2, n3, n4, n5, n6, ↓reduceIte]
                  refine r_ixL fs hs ⟨rfl, ?_⟩
                  simp only [nm3, V.str.injEq, n1, n2, n3, n4, n5, n6, ↓reduceIte]
                  exact ⟨⟨_, rfl⟩, S2, good ec⟩
              | cel =>
                simp only [nm3, V.str.injEq, n1, n2, n3, n4, n5, n6, ↓reduceIte]
                refine r_ixL fs hs ⟨rfl, ?_⟩
                simp only [nm3, V.str.injEq, n1, n2, n3, n4, n5, n6, ↓reduceIte]
                refine ⟨_, d1, rfl, dv, ld, fun H3 S3 => ⟨_, rfl, ?_⟩⟩
                have ei : itemB .cel d1 = cellB d1 := rfl
                rw [ei] at good bad
                cases ec : cellB d1 with
                | false =>
                  walk_at "rd"
                  exact bad ec H3 (S2.trans S3)
                | true =>
                  walk_at "rd"
                  refine r_ixL (fsx _ S3) hs ⟨rfl, ?_⟩
                  simp only [nm3, V.str.injEq, n1, n2, n3, n4, n5, n6, ↓reduceIte]
                  exact ⟨⟨_, rfl⟩, S2.trans S3, good ec⟩
              | txt =>
                simp only [nm3, V.str.injEq, n1, n2, n3, n4, n5, n6, ↓reduceIte]
                refine r_ixL fs hs ⟨rfl, ?_⟩
                simp only [nm3, V.str.injEq, n1, n2, n3, n4, n5, n6, ↓reduceIte]
                refine r_ixL fs hs ⟨rfl, ?_⟩
                simp only [nm3, V.str.injEq, n1, n2, n3, n4, n5, n6, ↓reduceIte]
                refine ⟨_, d1, rfl, dv, ld, fun H3 S3 => ⟨_, rfl, ?_⟩⟩
                have ei : itemB .txt d1 = textB d1 := rfl
                rw [ei] at good bad
                cases ec : textB d1 with
                | false =>
                  walk_at "rd"
                  exact bad ec H3 (S2.trans S3)
                | true =>
                  walk_at "rd"
                  exact ⟨⟨_, rfl⟩, S2.trans S3, good ec⟩
            · rintro σ H2 ⟨y2, y3, rfl, S2, g⟩
              walk_at "rd"
              have : ((ws.zip ds).take (Int.toNat ((ws.map V.str).length : Int))) = ws.zip ds := List.take_of_length_le (by simp; omega)
              have g2 : ((ws.zip ds).all fun p => itemB (k3 p.1) p.2) = true := by
                rw [List.take_of_length_le (by simp; omega)] at g
                exact g
              rw [g2] at k
              exact k H2 (S1.trans S2)
          · rw [if_pos (by rw [lk]; simp; omega)]
            unfold itemsB at k
            rw [decide_eq_false el, Bool.false_and] at k
            exact k H1 S1
      | _ =>
        simp only [isS]
        walk_at "rd"
        exact k H (Same.refl H)
  | _ =>
    simp only [isT]
    walk_at "rd"
    exact k H (Same.refl H)
theorem ok_l_written (T : Tx K mg w.params) : FnG P w K mg base 1 T.d_l_written.f T.d_l_written.fd ["_law_act_here"] spWr := by
  refine okG0 T.d_l_written.F sc_l_written (fun vs H Q E h => ?_) (fun cdv A outer s H vs Q E hg hr h => ?_)
  · obtain ⟨v, ds, rfl, _⟩ := h
    rfl
  obtain ⟨v, ds, rfl, hd, hl, hb, ea, k⟩ := h
  have sz : sizeLine = 16777216 := sizeLine_eq
  refine ⟨_, (pss_cons (ps_set (i := 1) sc_l_written.nd rfl (Or.inl rfl) (pe_ix ix_tup (pv 0) pe_int (fun _ _ => rfl)))
    (pss_cons (ps_for PassesOwn.never rfl (pi_tup (pe_slice sl_tup (pv 0) (po_some pe_int) po_none)) (pg_name (i := 2) sc_l_written.nd rfl (Or.inl rfl))
      (pss_one (ps_set (i := 1) sc_l_written.nd rfl (Or.inl rfl) (pe_op op_add_str (pe_op op_add_str (pv 1) pe_str) (pe_ifExp (pt_val (pe_callB call_isiA (by rfl) T.n_isinstance (by decide +kernel) (pa_cons (pv 2) (pa_cons (pe_bltn (v := .ty "str") (by rfl) T.n_str (by decide +kernel) rfl) pa_nil)))) (pv 2) (pe_callTy call_strA (by rfl) T.n_str (by decide +kernel) (pa_cons (pv 2) pa_nil)))))))
    (pss_one (ps_ret (pv 1))))), ?_⟩
  walk_at "rd"
  obtain ⟨z, ds', ws, e1, hf, hi⟩ := act_of ea
  cases e1
  have fl := act_flat ea
  cases hd with
  | @tup a xs _ ha hxs =>
    cases hxs with
    | @cons x xs _ _ hx hxs =>
      cases hx
      have lx := hxs.len
      refine r_ixT (SqT.of ha) (at0 rfl) ?_
      refine ⟨_, rfl, 1, rfl, a, _, rfl, SqT.of ha, sIx_tail, fun q hq => ?_⟩
      rw [cutV_tail]
      obtain ⟨H1, e1, S1, f1⟩ := gen_new (.tup xs) hq
      rw [e1]
      have lz : ∀ d ∈ (PyData.str z :: ds'), (txtD d).length ≤ 100000 := fun d hd => by
        have f2 := fl.2 d hd
        cases d with
        | str y => exact hl.t _ rfl y hd
        | int n =>
          have := big_len (hb _ rfl n hd)
          show (Str.ofString (toString n)).length ≤ _
          omega
        | _ => cases f2
      have sp1 : (Str.ofString " ").length = 1 := by decide +kernel
      refine ⟨q, rfl, ⟨xs, SqT.of f1⟩, ?_⟩
      refine for_tup (K := K) (a := q) (xs := xs) (fun i σ H' => ∃ y2 acc, σ = [some (.ref a), some (.str acc), y2] ∧ Same H1 H' ∧ acc = Txt.join (Str.ofString " ") (((PyData.str z :: ds').take (i + 1)).map txtD) ∧ acc.length ≤ 100000 + i * 100001) ⟨_, _, rfl, Same.refl H1, ?_, ?_⟩ (fun i σ H' _ ⟨_, _, _, S, _⟩ => SqT.of (S _ _ f1)) ?_ ?_
      · show z = _
        rfl
      · have := lz (.str z) (by simp)
        show z.length ≤ _
        have : z.length ≤ 100000 := this
        omega
      · rintro i x1 σ H2 hx1 ⟨y2, acc, rfl, S2, ej, la⟩
        obtain ⟨d1, hd1, dv1⟩ := dvs_get hxs hx1
        have m1 : d1 ∈ (PyData.str z :: ds') := List.mem_cons_of_mem _ (List.mem_of_getElem? hd1)
        have l1 := lz d1 m1
        have i3 : i < 3 := by
          have := (List.getElem?_eq_some_iff.mp hd1).1
          have := fl.1
          simp only [List.length_cons] at this
          omega
        have ej2 : acc ++ Str.ofString " " ++ txtD d1 = Txt.join (Str.ofString " ") (((PyData.str z :: ds').take (i + 1 + 1)).map txtD) := by
          rw [ej]
          have : (PyData.str z :: ds').take (i + 1 + 1) = (PyData.str z :: ds').take (i + 1) ++ [d1] := by
            rw [List.take_add_one, List.getElem?_cons_succ, hd1]
            rfl
          rw [this, List.map_append]
          exact (join_snoc (by simp)).symm
        walk_at "rd"
        refine ⟨by rw [sp1]; omega, ?_⟩
        have fin : (acc ++ Str.ofString " ").length + (txtD d1).length ≤ sizeLine ∧ Same H1 H2 ∧ acc ++ Str.ofString " " ++ txtD d1 = Txt.join (Str.ofString " ") (((PyData.str z :: ds').take (i + 1 + 1)).map txtD) ∧ (acc ++ Str.ofString " " ++ txtD d1).length ≤ 100000 + (i + 1) * 100001 := by
          refine ⟨?_, S2, ej2, ?_⟩
          · rw [append_len, sp1]; omega
          · rw [append_len, append_len, sp1]; omega
        rcases flat_txt dv1 (fl.2 d1 m1) with ⟨y, rfl, rfl⟩ | ⟨n, rfl, rfl, n0⟩
        · refine r_isiD (DV.str y) (kit_str _) ⟨_, rfl, ?_⟩
          simp only [isS]
          walk_at "rd"
          exact ⟨fin.1, _, _, ⟨rfl, rfl⟩, fin.2⟩
        · refine r_isiD (DV.int n) (kit_str _) ⟨_, rfl, ?_⟩
          simp only [isS]
          walk_at "rd"
          exact .inr ⟨big_log (hb _ rfl n m1), fin.1, _, _, ⟨rfl, rfl⟩, fin.2⟩
      · rintro σ H2 ⟨y2, acc, rfl, S2, ej, la⟩
        walk_at "rd"
        rw [lx, List.take_of_length_le (by simp)] at ej
        rw [ej]
        exact k H2 (S1.trans S2)
theorem ok_l_number (T : Tx K mg w.params) : FnG P w K mg base 1 T.d_l_number.f T.d_l_number.fd ["_law_word"] spNum := by
  refine okG0 T.d_l_number.F sc_l_number (fun vs H Q E h => ?_) (fun cdv A outer s H vs Q E hg hr h => ?_)
  · obtain ⟨z, rfl, _⟩ := h
    rfl
  obtain ⟨z, rfl, az, lz, k⟩ := h
  have sz : sizeLine = 16777216 := sizeLine_eq
  refine ⟨_, (pss_cons (ps_if (PW.pt (pw_or (pt_cmpR op_eq (pv 0) pe_str (nomark _)) (pw_or (pt_cmpR (op_neD hr.units) (pe_lc (own := [("_law_sign", 1)]) (g := gName 1) rfl sc_l_number.nd (pi_str (pv 0)) (blkOk_by (N := ["_law_word", "_law_sign"]) (sc := defScope s_l_number) (by decide +kernel)) (fun _ _ _ _ _ => pg_name (i := 1) sc_l_number.nd rfl (Or.inl rfl)) (fun _ _ _ _ _ => (pts_one (pt_cmpR op_notIn_sign (pv 1) pe_str (by rfl)))) (fun _ _ _ _ _ => (pv 1))) (pe_lst1 pa_nil) (nomark _)) (pw_or1 (PW.pt (pw_and (pt_cmpR op_eq (pe_ix ix_str (pv 0) pe_int (fun _ _ => rfl)) pe_str (nomark _)) (pw_and1 (pt_cmpR op_ne (pv 0) pe_str (nomark _)))))))))
      (pss_one (ps_ret pe_non))
      pss_nil)
    (pss_one (ps_ret (pe_callTy call_int_str (by rfl) T.n_int (by decide +kernel) (pa_cons (pv 0) pa_nil))))), ?_⟩
  walk_at "rd"
  refine ⟨rfl, ?_⟩
  by_cases e0 : z = Str.ofString ""
  · rw [if_pos e0]
    have e : vItem .num z = .non := if_neg (by rw [e0]; decide +kernel)
    rw [e] at k
    exact k H (Same.refl H)
  · rw [if_neg e0]
    have l0 : 0 < (sg z).length := List.length_pos_iff.mpr fun e => e0 (sg_inj (by rw [e]; decide +kernel))
    refine ⟨V.str z, rfl, z, rfl, fun D hD => ?_⟩
    refine lc_it walk_str (fun i H' => H' D = some (.lst ((((sg z).take i).filter fun c => !Fr.dig c).map fun c => V.str ⟨#[c]⟩)) ∧ Same H H') ⟨upd_same, Same.new hD⟩ (fun _ _ _ _ => trivial) ?_ ?_
    · rintro j x H2 H3 hj ⟨f, S⟩ ⟨rfl, c, hc, rfl⟩
      have hc' : (sg z)[j]? = some c := by
        show z.cps.toList[j]? = _
        rw [Array.getElem?_toList]
        exact hc
      refine ⟨rfl, ?_⟩
      walk_at "rd"
      refine ⟨c, rfl, ?_⟩
      rw [figs_in]
      rw [take_filter hc']
      have hlen : ((((sg z).take j).filter fun c => !Fr.dig c).map fun c => V.str ⟨#[c]⟩).length < sizeLine := by
        rw [List.length_map, sz]
        have h1 := List.length_filter_le (fun c => !Fr.dig c) ((sg z).take j)
        have h2 : ((sg z).take j).length ≤ (sg z).length := by
          rw [List.length_take]
          omega
        rw [sg_len] at h2
        omega
      cases hd : Fr.dig c with
      | true =>
        simp only [Bool.not_true, Bool.false_eq_true, ↓reduceIte, List.append_nil]
        exact ⟨f, S⟩
      | false =>
        simp only [Bool.not_false, ↓reduceIte]
        refine ⟨_, f, hlen, ?_, fun a u ha => by rw [upd_ne (ne_of_none ha hD)]; exact S a u ha⟩
        rw [List.map_append]
        rfl
    · rintro H2 ⟨f, S⟩
      refine ⟨by decide, fun p hp np => ?_⟩
      have e : (sg z).take z.cps.size = sg z := by
        apply List.take_of_length_le
        rw [sg_len]
        exact Nat.le_refl _
      rw [e] at f
      have npD : D ≠ p := ne_of_none f hp
      have S3 : Same H (upd H2 p (.lst [])) := Same.trans S (Same.new hp)
      obtain ⟨H3, e3⟩ : ∃ H3, upd H2 p (.lst []) = H3 := ⟨_, rfl⟩
      have f3 : H3 D = some (.lst (((sg z).filter fun c => !Fr.dig c).map fun c => V.str ⟨#[c]⟩)) := by
        rw [← e3, upd_ne npD]
        exact f
      have p3 : H3 p = some (.lst []) := by
        rw [← e3]
        exact upd_same
      rw [e3] at S3 ⊢
      refine r_ne_ones (fun c hc => az c (List.mem_filter.mp hc).1) f3 p3 ?_
      rw [filt_all]
      refine ⟨_, rfl, ?_⟩
      have kk := k H3 S3
      have ns : numS z = numL (sg z) := numS_eq z
      have ed' : z.cps.toList.all Fr.dig = (sg z).all Fr.dig := rfl
      rw [ed']
      cases ed : (sg z).all Fr.dig with
      | false =>
        simp only [Bool.not_false, ↓reduceIte]
        have : numS z = false := by
          rw [ns]
          unfold numL
          rw [ed]
          simp
        have e : vItem .num z = .non := if_neg (by rw [this]; decide)
        rw [e] at kk
        exact kk
      | true =>
        simp only [Bool.not_true, Bool.false_eq_true, ↓reduceIte]
        have it := int_dig (z := z) ed (by rw [sg_len] at l0; omega) (by omega)
        obtain ⟨c, r, ec⟩ : ∃ c r, sg z = c :: r := by
          match h : sg z, l0 with
          | c :: r, _ => exact ⟨c, r, rfl⟩
        have zl : z.length = r.length + 1 := by rw [← sg_len, ec]; rfl
        have n0 : numS z = (decide (c :: r = [48]) || !decide (c = 48)) := by
          rw [ns]
          unfold numL
          rw [ed, ec]
          simp
        refine ⟨z, 0, c, rfl, rfl, by omega, ?_, ?_⟩
        · have : z.cps.toList = c :: r := ec
          rw [this]
          exact atI_nat (j := 0) rfl
        · have z0 : Str.ofString "0" = ⟨#[48]⟩ := by decide +kernel
          have cz : (V.str ⟨#[c]⟩ = V.str (Str.ofString "0")) ↔ c = 48 := by
            rw [z0]
            constructor
            · intro q
              injection q with q
              injection q with q
              simpa using q
            · rintro rfl
              rfl
          have zz : z = Str.ofString "0" ↔ c :: r = [48] := by
            rw [z0]
            constructor
            · rintro rfl
              exact ec.symm
            · intro q
              apply sg_inj
              rw [ec, q]
              rfl
          refine ⟨rfl, ?_⟩
          by_cases hc : c = 48
          · rw [if_pos (cz.mpr hc)]
            refine ⟨rfl, ?_⟩
            by_cases hz : c :: r = [48]
            · rw [if_neg (by simpa using zz.mpr hz)]
              have e : vItem .num z = .int _ := if_pos (by rw [n0]; simp [hz])
              rw [e] at kk
              exact ⟨_, it, by omega, kk⟩
            · rw [if_pos (by simpa using fun q => hz (zz.mp q))]
              have e : vItem .num z = .non := if_neg (by rw [n0]; simp only [hc, decide_true, Bool.not_true, Bool.or_false, decide_eq_true_eq]; exact fun q => hz (by rw [hc]; exact q))
              rw [e] at kk
              exact kk
          · rw [if_neg (fun q => hc (cz.mp q))]
            have e : vItem .num z = .int _ := if_pos (by rw [n0]; simp [hc])
            rw [e] at kk
            exact ⟨_, it, by omega, kk⟩
end
end K57


namespace K57
open PySem L2 Nv

def fv : PyData → V
  | .str z => .str z
  | .int i => .int i
  | .bool b => .bl b
  | _ => .non
theorem fv_dv {H : Hp} {d : PyData} (h : flat2 d = true) : DV H (fv d) d := by
  cases d with
  | str z => exact .str z
  | int i => exact .int i
  | _ => cases h
def smallI (d : PyData) : Prop := ∀ i, d = .int i → 0 ≤ i ∧ i < 10 ^ 9
def spItem : Sp := fun vs H Q _ => ∃ p c N, vs = [.ref p, .str (nm3 c)] ∧ BoxAt H p N ∧ N ≤ 800000 ∧ ∀ d H', itemB c d = true → smallI d → BoxAt H' p (N + 60) → Ext1 p H H' → Q (fv d) H'
section
variable {P : Program} {w : World} {K : PySem.W.Frag} {mg : Str → Option Value} {base : Heap}
theorem ok_l_item (T : Tx K mg w.params) : FnG P w K mg base 2 T.d_l_item.f T.d_l_item.fd ["_law_box_here", "_law_sort"] spItem := by
  refine okG0 T.d_l_item.F sc_l_item (fun vs H Q E h => ?_) (fun cdv A outer s H vs Q E hg hr h => ?_)
  · obtain ⟨p, c, N, rfl, _⟩ := h
    rfl
  obtain ⟨p, c, N, rfl, hB, hN, k⟩ := h
  have sz : sizeLine = 16777216 := sizeLine_eq
  refine ⟨_, (pss_cons (ps_asg (pe_tup (pa_cons pe_str (pa_cons (pe_cG0 (ok_l_signs T) T.d_l_signs.b takes0 hg (hr.mono (by decide)) T.d_l_signs.m T.d_l_signs.F.kp) pa_nil))) (pg_tup rfl (pgs_cons (pg_name (i := 2) sc_l_item.nd rfl (Or.inr rfl)) (pgs_cons (pg_name (i := 3) sc_l_item.nd rfl (Or.inr rfl)) pgs_nil))))
    (pss_cons (ps_if (pt_cmpR op_eq (pv 1) pe_str (nomark _))
      (pss_cons (ps_set (i := 4) sc_l_item.nd rfl (Or.inl rfl) (pe_ix ix_list (pe_lst1 (pa_cons pe_int (pa_cons pe_int (pa_cons pe_int (pa_cons pe_int (pa_cons pe_int (pa_cons (pe_op op_pow pe_int pe_int) (pa_cons pe_int (pa_cons (pe_op op_pow pe_int pe_int) pa_nil))))))))) (pe_cG (ok_l_take T) T.d_l_take.b takes0 hg (hr.mono (by decide)) T.d_l_take.m T.d_l_take.F.kp (pa_cons (pv 0) (pa_cons pe_int pa_nil))) (fun _ _ => rfl)))
      (pss_one (ps_ret (pe_cG (ok_l_take T) T.d_l_take.b takes0 hg (hr.mono (by decide)) T.d_l_take.m T.d_l_take.F.kp (pa_cons (pv 0) (pa_cons (pv 4) pa_nil))))))
      pss_nil)
    (pss_cons (ps_if (pt_cmpR op_eq (pv 1) pe_str (nomark _))
      (pss_one (ps_ret (pe_join pe_str (pe_lc (own := [("_law_k", 5)]) (g := gName 5) (tt := tYes) rfl sc_l_item.nd (pi_range1 (by rfl) T.n_range (pa_cons (pe_op op_add pe_int (pe_cG (ok_l_take T) T.d_l_take.b takes0 hg (hr.mono (by decide)) T.d_l_take.m T.d_l_take.F.kp (pa_cons (pv 0) (pa_cons pe_int pa_nil)))) pa_nil)) (blkOk_by (N := ["_law_box_here", "_law_sort", "_law_letters", "_law_signs_here", "_law_most", "_law_k", "_law_many", "_law_text", "_law_ends"]) (sc := defScope s_l_item) (by decide +kernel)) (fun _ _ _ _ _ => pg_name (i := 5) sc_l_item.nd rfl (Or.inl rfl)) (fun _ _ _ _ _ => pts_nil) (fun _ _ _ _ _ => (pe_ix ix_str (pv 2) (pe_cG (ok_l_take T) T.d_l_take.b takes0 hg (hr.mono (by decide)) T.d_l_take.m T.d_l_take.F.kp (pa_cons (pv 0) (pa_cons pe_int pa_nil))) (fun _ _ => rfl)))))))
      pss_nil)
    (pss_cons (ps_set (i := 6) sc_l_item.nd rfl (Or.inl rfl) (pe_ix ix_list (pe_lst1 (pa_cons pe_int (pa_cons pe_int (pa_cons pe_int (pa_cons pe_int (pa_cons pe_int (pa_cons pe_int (pa_cons pe_int (pa_cons pe_int pa_nil))))))))) (pe_cG (ok_l_take T) T.d_l_take.b takes0 hg (hr.mono (by decide)) T.d_l_take.m T.d_l_take.F.kp (pa_cons (pv 0) (pa_cons pe_int pa_nil))) (fun _ _ => rfl)))
    (pss_cons (ps_set (i := 7) sc_l_item.nd rfl (Or.inl rfl) (pe_join pe_str (pe_lc (own := [("_law_k", 5)]) (g := gName 5) (tt := tYes) rfl sc_l_item.nd (pi_range1 (by rfl) T.n_range (pa_cons (pv 6) pa_nil)) (blkOk_by (N := ["_law_box_here", "_law_sort", "_law_letters", "_law_signs_here", "_law_most", "_law_k", "_law_many", "_law_text", "_law_ends"]) (sc := defScope s_l_item) (by decide +kernel)) (fun _ _ _ _ _ => pg_name (i := 5) sc_l_item.nd rfl (Or.inl rfl)) (fun _ _ _ _ _ => pts_nil) (fun _ _ _ _ _ => (pe_ix ix_str (pv 3) (pe_cG (ok_l_take T) T.d_l_take.b takes0 hg (hr.mono (by decide)) T.d_l_take.m T.d_l_take.F.kp (pa_cons (pv 0) (pa_cons (pe_callB call_len_str (by rfl) T.n_len (by decide +kernel) (pa_cons (pv 3) pa_nil)) pa_nil))) (fun _ _ => rfl))))))
    (pss_cons (ps_set (i := 8) sc_l_item.nd rfl (Or.inl rfl) (pe_cG (ok_l_take T) T.d_l_take.b takes0 hg (hr.mono (by decide)) T.d_l_take.m T.d_l_take.F.kp (pa_cons (pv 0) (pa_cons pe_int pa_nil))))
    (pss_one (ps_ret (pe_ix ix_list (pe_lst1 (pa_cons (pe_op op_add_str pe_str (pe_slice sl_str (pv 7) po_none (po_some pe_int))) (pa_cons (pe_op op_add_str (pe_slice sl_str (pv 7) po_none (po_some pe_int)) pe_str) (pa_cons (pe_op op_add_str pe_str (pe_slice sl_str (pv 7) po_none (po_some pe_int))) (pa_cons (pv 7) (pa_cons (pv 7) (pa_cons (pv 7) pa_nil))))))) (pv 8) (fun _ _ => rfl)))))))))), ?_⟩
  walk_at "rd"
  obtain ⟨A1, hA1⟩ : ∃ A1, Str.ofString "abcdefghijklmnopqrstuvwxyz" = A1 := ⟨_, rfl⟩
  have a1l : A1.length = 26 := by rw [← hA1]; decide +kernel
  have a1p : (sg A1).all low = true := by rw [← hA1]; decide +kernel
  rw [hA1]
  refine fun A2 l2 p2 => ⟨by decide, fun q hq => r_unp (.of upd_same) rfl ?_⟩
  have hB0 : BoxAt (upd H q (.tup [V.str A1, V.str A2])) p N := hB.off hq
  have E0 : Ext1 p H (upd H q (.tup [V.str A1, V.str A2])) := ext_new _ hq
  generalize upd H q (.tup [V.str A1, V.str A2]) = H0 at hB0 E0 ⊢
  walk_at "rd"
  refine ⟨rfl, ?_⟩
  have p2' : (sg A2).all pc = true := List.all_eq_true.mpr p2
  cases c with
  | num =>
    simp only [nm3, ↓reduceIte]
    refine ⟨by unfold CPow; decide, by unfold CPow; decide, by decide, fun m hm nm => ?_⟩
    have hB1 := hB0.off (o := .lst [V.int 16, V.int 10, V.int 100, V.int 3, V.int 1000, V.int (10 ^ Int.toNat 9), V.int 12, V.int (10 ^ Int.toNat 7)]) hm
    refine ⟨p, 8, N, rfl, hB1, by omega, by decide, by decide, fun e H2 e0 e1 hB2 E2 => ?_⟩
    refine r_menu (E2 _ _ (hB0.ne hm) upd_same) e0 e1 fun v hv => ?_
    obtain ⟨i, rfl, i0, i1⟩ : ∃ i : Int, v = .int i ∧ 0 < i ∧ i ≤ 10 ^ 9 := by
      simp only [List.mem_cons, List.not_mem_nil, or_false] at hv
      rcases hv with rfl | rfl | rfl | rfl | rfl | rfl | rfl | rfl <;> exact ⟨_, rfl, by decide, by decide⟩
    refine ⟨p, i, _, rfl, hB2, by omega, i0, by omega, fun d H3 d0 d1 hB3 E3 => ?_⟩
    exact k (.int d) H3 (by show decide (0 ≤ d) = true; simpa using d0) (fun y e => by cases e; exact ⟨d0, by omega⟩) (hB3.le (by omega)) (ext_trans (ext_trans (ext_trans E0 (ext_new _ hm)) E2) E3)
  | cel =>
    simp only [nm3, n1, ↓reduceIte]
    refine ⟨rfl, ⟨_, rfl⟩, ?_⟩
    refine ⟨_, rfl, p, 8, N, rfl, hB0, by omega, by decide, by decide, fun e H2 e0 e1 hB2 E2 => ?_⟩
    refine ⟨1, e, rfl, rfl, 1 + e, rfl, by omega, by omega, fun D hD => ?_⟩
    have E02 := ext_trans E0 E2
    refine lc_box walk_range p (N + 1) 1 (fun _ v => ∃ c, low c = true ∧ v = V.str ⟨#[c]⟩) hB2 hD (by omega) (fun _ _ => trivial) ?_ ?_
    · rintro j x Ha Hb R hj hBa Ea ⟨rfl, rfl⟩ kR
      refine ⟨rfl, ?_⟩
      walk_at "rd"
      refine ⟨p, 26, _, rfl, hBa, by omega, by decide, by decide, fun d H5 d0 d1 hB5 e5 => ?_⟩
      obtain ⟨c2, hc2, hat2⟩ := sign_at a1p d0 (by omega)
      exact ⟨_, _, c2, rfl, rfl, by omega, hat2, kR _ _ ⟨c2, hc2, rfl⟩ (hB5.le (by omega)) e5⟩
    · rintro ws H5 lw pw f5 hB5 E5
      obtain ⟨l, lp, ll, rfl⟩ := ones_of ws pw
      rw [List.length_map] at lw
      have el : (Str.ofString "").length = 0 := by decide +kernel
      refine ⟨D, rfl, l.map fun c => ⟨#[c]⟩, .inl (.of (by rw [f5, List.map_map]; rfl)), by rw [el, ones_sum]; omega, ?_⟩
      rw [join_ones]
      refine k (.str (tx l)) H5 ?_ (fun i e => by cases e) (hB5.le (by omega)) (ext_trans E02 E5)
      show celS (tx l) = true
      unfold celS
      rw [alow, sg_tx, tx_len]
      simp only [Bool.and_eq_true, decide_eq_true_eq]
      exact ⟨by omega, by omega, List.all_eq_true.mpr lp⟩
  | txt =>
    simp only [nm3, n2, n4, ↓reduceIte]
    refine ⟨rfl, by decide, fun m hm nm => ?_⟩
    have hB1 := hB0.off (o := .lst [V.int 0, V.int 1, V.int 40, V.int 5, V.int 13, V.int 2, V.int 39, V.int 8]) hm
    refine ⟨p, 8, N, rfl, hB1, by omega, by decide, by decide, fun e H2 e0 e1 hB2 E2 => ?_⟩
    refine r_menu (E2 _ _ (hB0.ne hm) upd_same) e0 e1 fun v hv => ?_
    obtain ⟨i, rfl, i1⟩ : ∃ i : Nat, v = .int (i : Int) ∧ i ≤ 40 := by
      simp only [List.mem_cons, List.not_mem_nil, or_false] at hv
      rcases hv with rfl | rfl | rfl | rfl | rfl | rfl | rfl | rfl
      · exact ⟨0, rfl, by decide⟩
      · exact ⟨1, rfl, by decide⟩
      · exact ⟨40, rfl, by decide⟩
      · exact ⟨5, rfl, by decide⟩
      · exact ⟨13, rfl, by decide⟩
      · exact ⟨2, rfl, by decide⟩
      · exact ⟨39, rfl, by decide⟩
      · exact ⟨8, rfl, by decide⟩
    have E02 := ext_trans (ext_trans E0 (ext_new _ hm)) E2
    refine ⟨⟨_, rfl⟩, _, rfl, (i : Int), rfl, by omega, by omega, fun D hD => ?_⟩
    refine lc_box walk_range p (N + 1) 1 (fun _ v => ∃ c, pc c = true ∧ v = V.str ⟨#[c]⟩) hB2 hD (by omega) (fun _ _ => trivial) ?_ ?_
    · rintro j x Ha Hb R hj hBa Ea ⟨rfl, rfl⟩ kR
      refine ⟨rfl, ?_⟩
      walk_at "rd"
      refine ⟨by omega, p, _, _, rfl, hBa, by omega, by omega, by omega, fun d H5 d0 d1 hB5 e5 => ?_⟩
      obtain ⟨c2, hc2, hat2⟩ := sign_at p2' d0 d1
      exact ⟨_, _, c2, rfl, rfl, by omega, hat2, kR _ _ ⟨c2, hc2, rfl⟩ (hB5.le (by omega)) e5⟩
    · rintro ws H5 lw pw f5 hB5 E5
      obtain ⟨l, lp, ll, rfl⟩ := ones_of ws pw
      rw [List.length_map] at lw
      have l40 : l.length ≤ 40 := by omega
      have el : (Str.ofString "").length = 0 := by decide +kernel
      refine ⟨D, rfl, l.map fun c => ⟨#[c]⟩, .inl (.of (by rw [f5, List.map_map]; rfl)), by rw [el, ones_sum]; omega, ?_⟩
      rw [join_ones]
      refine ⟨p, 6, _, rfl, hB5, by omega, by decide, by decide, fun e2 H6 e20 e21 hB6 E6 => ?_⟩
      have tl : (tx l).length = l.length := tx_len l
      have sp1 : (Str.ofString " ").length = 1 := by decide +kernel
      have s7 : (Str.ofString "7 a ").length = 4 := by decide +kernel
      have c39 : sg (cutS (tx l) none (some 39)) = l.take 39 := by
        have := cut_to (tx l) 39
        rw [sg_tx] at this
        exact this
      have c30 : sg (cutS (tx l) none (some 30)) = l.take 30 := by
        have := cut_to (tx l) 30
        rw [sg_tx] at this
        exact this
      have l39 : (cutS (tx l) none (some 39)).length ≤ 39 := by
        rw [← sg_len, c39, List.length_take]
        omega
      have l30 : (cutS (tx l) none (some 30)).length ≤ 30 := by
        rw [← sg_len, c30, List.length_take]
        omega
      refine ⟨by omega, by omega, by omega, by omega, by omega, by omega, by decide, fun m2 hm2 nm2 => ?_⟩
      refine r_menu upd_same e20 e21 fun v hv => ?_
      have hB7 := hB6.off (o := .lst [V.str (Str.ofString " " ++ cutS (tx l) none (some 39)), V.str (cutS (tx l) none (some 39) ++ Str.ofString " "), V.str (Str.ofString "7 a " ++ cutS (tx l) none (some 30)), V.str (tx l), V.str (tx l), V.str (tx l)]) hm2
      have fin : ∀ t : Str, (∀ c ∈ sg t, pc c = true) → t.length ≤ 40 → Q (.str t) (upd H6 m2 (.lst [V.str (Str.ofString " " ++ cutS (tx l) none (some 39)), V.str (cutS (tx l) none (some 39) ++ Str.ofString " "), V.str (Str.ofString "7 a " ++ cutS (tx l) none (some 30)), V.str (tx l), V.str (tx l), V.str (tx l)])) := fun t ht lt => by
        refine k (.str t) _ ?_ (fun i e => by cases e) (hB7.le (by omega)) (ext_trans (ext_trans (ext_trans E02 E5) E6) (ext_new _ hm2))
        show (okS t && decide (t.length ≤ 40)) = true
        rw [okS_all, List.all_eq_true.mpr ht]
        simpa using lt
      have p39 : ∀ c ∈ sg (cutS (tx l) none (some 39)), pc c = true := fun c hc => lp c (List.mem_of_mem_take (by rw [c39] at hc; exact hc))
      have p30 : ∀ c ∈ sg (cutS (tx l) none (some 30)), pc c = true := fun c hc => lp c (List.mem_of_mem_take (by rw [c30] at hc; exact hc))
      have psp : ∀ c ∈ sg (Str.ofString " "), pc c = true := by decide +kernel
      have ps7 : ∀ c ∈ sg (Str.ofString "7 a "), pc c = true := by decide +kernel
      have both : ∀ {x y : Str}, (∀ c ∈ sg x, pc c = true) → (∀ c ∈ sg y, pc c = true) → ∀ c ∈ sg (x ++ y), pc c = true := fun a b c hc => by
        rw [sg_app] at hc
        exact (List.mem_append.mp hc).elim (a c) (b c)
      have self := fin (tx l) (by rw [sg_tx]; exact lp) (by omega)
      simp only [List.mem_cons, List.not_mem_nil, or_false] at hv
      rcases hv with rfl | rfl | rfl | rfl | rfl | rfl
      · exact fin _ (both psp p39) (by rw [append_len]; omega)
      · exact fin _ (both p39 psp) (by rw [append_len]; omega)
      · exact fin _ (both ps7 p30) (by rw [append_len]; omega)
      · exact self
      · exact self
      · exact self
end
end K57


namespace K57
open PySem L2 Nv

def spLact : Sp := fun vs H Q _ => ∃ p N, vs = [.ref p] ∧ BoxAt H p N ∧ N ≤ 700000 ∧ ∀ z ds a H', actB (.tuple (.str z :: ds)) = true → (∀ d ∈ ds, smallI d) → H a = none → H' a = some (.tup (.str z :: ds.map fv)) → BoxAt H' p (N + 300) → Ext1 p H H' → Q (.ref a) H'
def spTold : Sp := fun vs H Q _ => ∃ v d t, vs = [v, .int t] ∧ DV H v d ∧ (∀ z, d = .str z → z.length ≤ 500) ∧
  (readD d = none → ∀ r H', H r = none → r ≠ sysModules → Same H H' → H' r = some (.lst [.str "no line", v]) → Q (.ref r) H') ∧
  (∀ a, readD d = some a → ∀ r x H', H r = none → r ≠ sysModules → Same H H' → H' r = some (.lst [.str "act", x]) → DV H' x a → Q (.ref r) H')
def spLn : Sp := fun vs H Q _ => ∃ v d t, vs = [v, .int t] ∧ DV H v d ∧ Lens d ∧ Bigs d ∧
  (actB d = false → ∀ r H', H r = none → r ≠ sysModules → Same H H' → H' r = some (.lst [.str "no act", v]) → Q (.ref r) H') ∧
  (actB d = true → ∀ r H', H r = none → r ≠ sysModules → Same H H' → H' r = some (.lst [.str "line", .str (actT d)]) → Q (.ref r) H')

theorem dvs_snoc {H : Hp} {v : V} {d : PyData} : ∀ {xs : List V} {ds : List PyData}, DVs H xs ds → DV H v d → DVs H (xs ++ [v]) (ds ++ [d])
  | _, _, .nil, h => .cons h .nil
  | _, _, .cons a r, h => .cons a (dvs_snoc r h)
def flat3 : PyData → Bool
  | .none => true
  | .bool _ => true
  | .int _ => true
  | .str _ => true
  | _ => false
theorem dv_flat {H H' : Hp} {v : V} {d : PyData} (h : DV H v d) (f : flat3 d = true) : DV H' v d := by
  cases h with
  | non => exact .non
  | bl b => exact .bl b
  | int i => exact .int i
  | str z => exact .str z
  | _ => cases f
theorem dvs_flat {H H' : Hp} : ∀ {xs : List V} {ds : List PyData}, DVs H xs ds → (∀ x ∈ ds, flat3 x = true) → DVs H' xs ds
  | _, _, .nil, _ => .nil
  | _, _, .cons a r, f => .cons (dv_flat a (f _ (by simp))) (dvs_flat r fun x hx => f x (by simp [hx]))
structure Mk2 (d : PyData) : Prop where
  s : SB 15000 10 d
  l : ∀ ds, d = .list ds → SB 15000 10 (.list (ds ++ [.str "more"])) ∧ ds.length ≤ 1000 ∧ ∀ x ∈ ds, flat3 x = true
def KeepV (d : PyData) (v : V) (H H' : Hp) : Prop := ∀ a o, (isL d = true → v ≠ .ref a) → H a = some o → H' a = some o
def spSame : Sp := fun vs H Q _ => ∃ a b g x y d, vs = [.ref a, .ref b] ∧ H a = some (.lst [.str g, x]) ∧ H b = some (.lst [.str g, y]) ∧ a ≠ sysModules ∧ b ≠ sysModules ∧ Asc g ∧ g.length ≤ 100 ∧
  DV H x d ∧ DV H y d ∧ Mk2 d ∧ (isL d = true → x = y ∧ x ≠ .ref a ∧ x ≠ .ref b) ∧ ∀ H', KeepV d y H H' → Q (.bl true) H'
theorem items_of : ∀ (ws : List Str) (vs : List V), vs.length = ws.length → (∀ (i : Nat) (v : V), vs[i]? = some v → ∃ w d, ws[i]? = some w ∧ v = fv d ∧ itemB (k3 w) d = true ∧ smallI d) → ∃ ds, vs = ds.map fv ∧ itemsB ws ds = true ∧ ∀ d ∈ ds, smallI d
  | [], [], _, _ => ⟨[], rfl, rfl, by simp⟩
  | [], _ :: _, h, _ => by cases h
  | _ :: _, [], h, _ => by cases h
  | w :: ws, v :: vs, h, g => by
    obtain ⟨w', d, e1, rfl, hb, hs⟩ := g 0 v rfl
    cases e1
    obtain ⟨ds, rfl, hi, hsm⟩ := items_of ws vs (by simpa using h) fun i u hu => g (i + 1) u (by simpa using hu)
    refine ⟨d :: ds, rfl, ?_, fun x hx => ?_⟩
    · simp only [itemsB, List.length_cons, List.zip_cons_cons, List.all_cons, Bool.and_eq_true, decide_eq_true_eq] at hi ⊢
      exact ⟨by omega, hb, hi.2⟩
    · rcases List.mem_cons.mp hx with rfl | hx
      · exact hs
      · exact hsm x hx
section
variable {P : Program} {w : World} {K : PySem.W.Frag} {mg : Str → Option Value} {base : Heap}
theorem ok_l_act (T : Tx K mg w.params) : FnG P w K mg base 3 T.d_l_act.f T.d_l_act.fd ["_law_box_here"] spLact := by
  refine okG0 T.d_l_act.F sc_l_act (fun vs H Q E h => ?_) (fun cdv A outer s H vs Q E hg hr h => ?_)
  · obtain ⟨p, N, rfl, _⟩ := h
    rfl
  obtain ⟨p, N, rfl, hB, hN, k⟩ := h
  have sz : sizeLine = 16777216 := sizeLine_eq
  refine ⟨_, (pss_cons (ps_set (i := 1) sc_l_act.nd rfl (Or.inl rfl) (pe_lst1 (pa_cons pe_str (pa_cons pe_str (pa_cons pe_str (pa_cons pe_str (pa_cons pe_str (pa_cons pe_str (pa_cons pe_str (pa_cons pe_str (pa_cons pe_str (pa_cons pe_str (pa_cons pe_str (pa_cons pe_str pa_nil))))))))))))))
    (pss_cons (ps_set (i := 2) sc_l_act.nd rfl (Or.inl rfl) (pe_ix ix_list (pv 1) (pe_cG (ok_l_take T) T.d_l_take.b takes0 hg (hr.mono (by decide)) T.d_l_take.m T.d_l_take.F.kp (pa_cons (pv 0) (pa_cons pe_int pa_nil))) (fun _ _ => rfl)))
    (pss_one (ps_ret (pe_callTy call_tuple_of (by rfl) T.n_tuple (by decide +kernel) (pa_cons (pe_op op_cat (pe_lst1 (pa_cons (pv 2) pa_nil)) (pe_lc (own := [("_law_sort", 3)]) (g := gName 3) (tt := tYes) rfl sc_l_act.nd (pi_list (pe_cG (ok_l_kinds T) T.d_l_kinds.b takes0 hg (hr.mono (by decide)) T.d_l_kinds.m T.d_l_kinds.F.kp (pa_cons (pv 2) pa_nil))) (blkOk_by (N := ["_law_box_here", "_law_kinds_here", "_law_kind", "_law_sort"]) (sc := defScope s_l_act) (by decide +kernel)) (fun _ _ _ _ _ => pg_name (i := 3) sc_l_act.nd rfl (Or.inl rfl)) (fun _ _ _ _ _ => pts_nil) (fun _ _ _ _ _ => (pe_cG (ok_l_item T) T.d_l_item.b takes0 hg (hr.mono (by decide)) T.d_l_item.m T.d_l_item.F.kp (pa_cons (pv 0) (pa_cons (pv 3) pa_nil)))))) pa_nil)))))), ?_⟩
  walk_at "rd"
  refine ⟨by decide, fun m hm nm => ⟨p, 12, N, rfl, hB.off hm, by omega, by decide, by decide, fun e H2 e0 e1 hB2 E2 => r_menu (E2 _ _ (hB.ne hm) upd_same) e0 e1 fun v hv => ?_⟩⟩
  obtain ⟨z, rfl, hf⟩ : ∃ z, v = .str z ∧ ∃ ws, formL z = some ws := by
    simp only [List.mem_cons, List.not_mem_nil, or_false] at hv
    rcases hv with rfl | rfl | rfl | rfl | rfl | rfl | rfl | rfl | rfl | rfl | rfl | rfl <;> exact ⟨_, rfl, Option.isSome_iff_exists.mp (by decide +kernel)⟩
  clear hv
  obtain ⟨ws, hf⟩ := hf
  have lw := formL_len hf
  have lk : lawK z = ws.map fun w => nm3 (k3 w) := by
    unfold lawK
    rw [hf]
  have E02 := ext_trans (ext_new _ hm) E2
  refine ⟨by decide, fun m2 hm2 nm2 => ?_⟩
  obtain ⟨H3, e3, S3, f3⟩ := gen_new (.lst [V.str z]) hm2
  rw [e3]
  have hB3 := hB2.mono S3
  have E03 := ext_trans E02 (ext_same S3)
  have m2p := hB2.ne hm2
  refine ⟨_, rfl, z, rfl, fun q H4 hq nq S4 f4 => ⟨q, rfl, ⟨_, .of f4⟩, fun D hD => ?_⟩⟩
  have hB4 := hB3.mono S4
  have qp := hB3.ne hq
  have E04 := ext_trans E03 (ext_same S4)
  rw [lk, List.map_map] at f4
  refine lc_box walk_list p (N + 1) 60 (fun i v => ∃ w d, ws[i]? = some w ∧ v = fv d ∧ itemB (k3 w) d = true ∧ smallI d) hB4 hD (by simp; omega) (fun H' e => .of (e _ _ qp f4)) ?_ ?_
  · rintro i x Ha Hb R hi hBa Ea ⟨rfl, hx⟩ kR
    rw [List.getElem?_map] at hx
    obtain ⟨w1, hw1, rfl⟩ := Option.map_eq_some_iff.mp hx
    have i3 : i < 3 := by
      have := (List.getElem?_eq_some_iff.mp hw1).1
      omega
    refine ⟨rfl, ?_⟩
    walk_at "rd"
    refine ⟨p, k3 w1, _, rfl, hBa, by omega, fun d H5 hb hs hB5 E5 => ?_⟩
    exact kR _ _ ⟨w1, d, hw1, rfl, hb, hs⟩ (hB5.le (by omega)) E5
  · rintro vs H5 lv pv f5 hB5 E5
    rw [List.length_map] at lv hB5
    obtain ⟨ds, rfl, hi, hsm⟩ := items_of ws vs lv pv
    refine ⟨m2, D, _, _, rfl, rfl, E5 _ _ m2p (S4 _ _ f3), f5, by simp; simp at lv; omega, fun r hr => ?_⟩
    refine ⟨r, rfl, _, .inl ⟨.of upd_same, fun t ht => ?_⟩⟩
    have E06 := ext_trans (ext_trans (ext_trans E04 E5) (ext_new (.lst ([V.str z] ++ ds.map fv)) hr)) (ext_new (.tup ([V.str z] ++ ds.map fv)) ht)
    have hB6 := (hB5.off (o := .lst ([V.str z] ++ ds.map fv)) hr).off (o := .tup ([V.str z] ++ ds.map fv)) ht
    refine k z ds t _ ?_ hsm (ext_none (hB5.off hr) (ext_trans (ext_trans E04 E5) (ext_new _ hr)) ht) upd_same (hB6.le (by omega)) E06
    show (match formL z with | some ws => itemsB ws ds | none => false) = true
    rw [hf]
    exact hi
theorem ok_l_told (T : Tx K mg w.params) : FnG P w K mg base 7 T.d_l_told.f T.d_l_told.fd ["_law_line_here", "_law_turn"] spTold := by
  refine okG0 T.d_l_told.F sc_l_told (fun vs H Q E h => ?_) (fun cdv A outer s H vs Q E hg hr h => ?_)
  · obtain ⟨v, d, t, rfl, _⟩ := h
    rfl
  obtain ⟨v, d, t, rfl, hd, hz, k1, k2⟩ := h
  refine ⟨_, (pss_one (ps_try_asN rfl rfl sc_l_told.nd takes0
      (fun W pn xe tk _ => (pss_one (ps_ret (pe_lst1 (pa_cons pe_str (pa_cons (pe_ifExp (pt_cmpR op_eq (pv 1) pe_int (nomark _)) (pe_cG (ok_read_act T) T.d_read_act.b tk hg (hr.mono (by decide)) T.d_read_act.m T.d_read_act.F.kp (pa_cons (pv 0) pa_nil)) (pe_cGk (ok_read_act T) T.d_read_act.kb rfl tk hg (hr.mono (by decide)) T.d_read_act.m T.d_read_act.F.kp (pk_cons (pv 0) pk_nil))) pa_nil))))))
      (HdsAs.cons (i := 2) rfl rfl ⟨rfl, by decide, .inl T.m_InvalidLine⟩ (fun a oe cls d pn hz hf => (pss_one (ps_ret (pe_lst1 (pa_cons pe_str (pa_cons (pe_xf T.e_InvalidLine.xf T.e_InvalidLine.noF hz hf (pv 2)) pa_nil))))))
      HdsAs.nil))), ?_⟩
  walk_at "rd"
  refine ⟨rfl, ?_⟩
  rw [ite_self]
  refine ⟨v, d, rfl, hd, hz, fun e dd H' hdd S hx => ?_, fun r e q H' hq S hv => ?_⟩
  · refine ⟨true, T.x_InvalidLine_InvalidLine, fun _ a ha => ?_, fun h => (by cases h)⟩
    walk_at "rd"
    refine r_xf hx ?_
    exact ⟨by decide, fun p hp np => k1 e p _ (none_of S hp) np (S.trans (Same.new hp)) upd_same⟩
  · exact ⟨by decide, fun p hp np => k2 r e p _ _ (none_of S hp) np (S.trans (Same.new hp)) upd_same (hv.mono (Same.new hp))⟩
theorem ok_l_line (T : Tx K mg w.params) : FnG P w K mg base 6 T.d_l_line.f T.d_l_line.fd ["_law_act_here", "_law_turn"] spLn := by
  refine okG0 T.d_l_line.F sc_l_line (fun vs H Q E h => ?_) (fun cdv A outer s H vs Q E hg hr h => ?_)
  · obtain ⟨v, d, t, rfl, _⟩ := h
    rfl
  obtain ⟨v, d, t, rfl, hd, hl, hb, k1, k2⟩ := h
  refine ⟨_, (pss_one (ps_try_asN rfl rfl sc_l_line.nd takes0
      (fun W pn xe tk _ => (pss_one (ps_ret (pe_lst1 (pa_cons pe_str (pa_cons (pe_ifExp (pt_cmpR op_eq (pv 1) pe_int (nomark _)) (pe_cG (ok_act_line T) T.d_act_line.b tk hg (hr.mono (by decide)) T.d_act_line.m T.d_act_line.F.kp (pa_cons (pv 0) pa_nil)) (pe_cGk (ok_act_line T) T.d_act_line.kb rfl tk hg (hr.mono (by decide)) T.d_act_line.m T.d_act_line.F.kp (pk_cons (pv 0) pk_nil))) pa_nil))))))
      (HdsAs.cons (i := 2) rfl rfl ⟨rfl, by decide, .inl T.m_InvalidAct⟩ (fun a oe cls d pn hz hf => (pss_one (ps_ret (pe_lst1 (pa_cons pe_str (pa_cons (pe_xf T.e_InvalidAct.xf T.e_InvalidAct.noF hz hf (pv 2)) pa_nil))))))
      HdsAs.nil))), ?_⟩
  walk_at "rd"
  refine ⟨rfl, ?_⟩
  rw [ite_self]
  refine ⟨v, d, rfl, hd, hl, hb, fun e H' S => ?_, fun e dd H' hdd S hx => ?_⟩
  · exact ⟨by decide, fun p hp np => k2 e p _ (none_of S hp) np (S.trans (Same.new hp)) upd_same⟩
  · refine ⟨true, T.x_InvalidAct_InvalidAct, fun _ a ha => ?_, fun h => (by cases h)⟩
    walk_at "rd"
    refine r_xf hx ?_
    exact ⟨by decide, fun p hp np => k1 e p _ (none_of S hp) np (S.trans (Same.new hp)) upd_same⟩
theorem ok_l_same (T : Tx K mg w.params) : FnG P w K mg base 1 T.d_l_same.f T.d_l_same.fd ["_law_told_here", "_law_due"] spSame := by
  refine okG0 T.d_l_same.F sc_l_same (fun vs H Q E h => ?_) (fun cdv A outer s H vs Q E hg hr h => ?_)
  · obtain ⟨a, b, g, x, y, d, rfl, _⟩ := h
    rfl
  obtain ⟨a, b, g, x, y, d, rfl, ha, hb, na, nb, ag, lg, hx, hy, mk, il, k⟩ := h
  refine ⟨_, (pss_cons (ps_if (pt_cmpR op_ne (pe_callB (call_reprA hg hr.units) (by rfl) T.n_repr (by decide +kernel) (pa_cons (pv 0) pa_nil)) (pe_callB (call_reprA hg hr.units) (by rfl) T.n_repr (by decide +kernel) (pa_cons (pv 1) pa_nil)) (nomark _))
      (pss_one (ps_ret pe_bl))
      pss_nil)
    (pss_cons (ps_if (pt_val (pe_callB call_isiA (by rfl) T.n_isinstance (by decide +kernel) (pa_cons (pe_ix ix_list (pv 1) pe_int (fun _ _ => rfl)) (pa_cons (pe_bltn (v := .ty "list") (by rfl) T.n_list (by decide +kernel) rfl) pa_nil))))
      (pss_one (ps_expr (pe_bm PySem.F.plainAttrs_list PySem.F.slot_list_append PySem.F.type_list_append mt_append (pe_ix ix_list (pv 1) pe_int (fun _ _ => rfl)) (pa_cons pe_str pa_nil))))
      pss_nil)
    (pss_one (ps_ret (pe_cmpR op_eq (pe_callB (call_reprA hg hr.units) (by rfl) T.n_repr (by decide +kernel) (pa_cons (pv 0) pa_nil)) (pe_callB (call_reprA hg hr.units) (by rfl) T.n_repr (by decide +kernel) (pa_cons (pv 1) pa_nil)) (nomark _)))))), ?_⟩
  walk_at "rd"
  have sg2 : ∀ {d'}, SB 15000 10 d' → SB (g.length + 1 + (15000 + 1 + 0)) 11 (.list [.str g, d']) := fun h => SB.list (SBs.cons ((SB.str (D := 10) ag)) (SBs.cons h (SBs.nil (W := 0))))
  have two : ∀ {Hx : Hp} {r : Addr} {u : V} {d' : PyData}, Hx r = some (.lst [.str g, u]) → r ≠ sysModules → DV Hx u d' → DV Hx (.ref r) (.list [.str g, d']) := fun f n h => .lst f n (.cons (.str g) (.cons h .nil))
  refine r_reprB (two ha na hx) (sg2 mk.s) (by omega) (by decide) ?_
  refine r_reprB (two hb nb hy) (sg2 mk.s) (by omega) (by decide) ⟨rfl, ?_⟩
  rw [if_neg (by simp)]
  refine r_ixL (.of hb) (at1 rfl) ?_
  refine r_isiD hy (kit_list d) ?_
  cases d with
  | list ds =>
    simp only [isL]
    walk_at "rd"
    obtain ⟨m1, m2, m3⟩ := mk.l ds rfl
    obtain ⟨rfl, xa, xb⟩ := il rfl
    cases hx with
    | @lst q ys _ hq nq hys =>
      have ly := hys.len
      have aq : a ≠ q := fun e => xa (by rw [e])
      have bq : b ≠ q := fun e => xb (by rw [e])
      refine r_ixL (.of hb) (at1 rfl) ⟨.inl ⟨rfl, _, .of hq⟩, q, ys, _, rfl, rfl, hq, by rw [sizeLine_eq]; omega, ?_⟩
      have dq : DV (upd H q (.lst (ys ++ [V.str (Str.ofString "more")]))) (.ref q) (.list (ds ++ [.str "more"])) := .lst upd_same nq (dvs_snoc (dvs_flat hys m3) (.str _))
      refine r_reprB (two (by rw [upd_ne aq]; exact ha) na dq) (sg2 m1) (by omega) (by decide) ?_
      refine r_reprB (two (by rw [upd_ne bq]; exact hb) nb dq) (sg2 m1) (by omega) (by decide) ⟨rfl, ?_⟩
      rw [decide_eq_true rfl]
      refine k _ fun c o hn hc => ?_
      rw [upd_ne (fun e => hn rfl (by rw [e]))]
      exact hc
  | _ =>
    simp only [isL]
    walk_at "rd"
    refine r_reprB (two ha na hx) (sg2 mk.s) (by omega) (by decide) ?_
    refine r_reprB (two hb nb hy) (sg2 mk.s) (by omega) (by decide) ⟨rfl, ?_⟩
    rw [decide_eq_true rfl]
    exact k H fun _ _ _ h => h
end
end K57


namespace K57
open PySem L2 Nv

def psOf (k : Str) (rest : List Str) : List Str := if k = "write" ∧ 3 < (k :: rest).length then rest.take 2 ++ [Txt.join (Str.ofString " ") (rest.drop 2)] else rest
theorem form_len2 {k : Str} {ws : List Str} (h : formL k = some ws) (n : k ≠ "write") : ws.length ≤ 2 := by
  unfold formL at h
  obtain ⟨x, hx, rfl⟩ := Option.map_eq_some_iff.mp h
  have e : x.1 = k := by simpa using List.find?_some hx
  have : ∀ x ∈ forms, x.1 = "write" ∨ x.2.length ≤ 2 := by decide +kernel
  rcases this x (List.mem_of_find?_eq_some hx) with h | h
  · rw [e] at h
    exact absurd h n
  · exact h
theorem readP_split {z k : Str} {rest : List Str} (hW : Txt.split z (Str.ofString " ") = k :: rest) : readP z = match formL k with
    | none => none
    | some ws => if (psOf k rest).length = ws.length ∧ actB (.tuple (.str k :: (ws.zip (psOf k rest)).map fun p => dItem (k3 p.1) p.2)) = true then some (.tuple (.str k :: (ws.zip (psOf k rest)).map fun p => dItem (k3 p.1) p.2)) else none := by
  have few := splitMax_few z
  rw [hW] at few
  unfold readP
  rw [few]
  by_cases h3 : (k :: rest).length ≤ 3
  · rw [if_pos h3]
    have : psOf k rest = rest := if_neg fun q => by omega
    rw [this] <;> rfl
  · rw [if_neg h3]
    have e1 : (k :: rest).take 3 ++ [Txt.join (Str.ofString " ") ((k :: rest).drop 3)] = k :: (rest.take 2 ++ [Txt.join (Str.ofString " ") (rest.drop 2)]) := rfl
    rw [e1]
    by_cases hk : k = "write"
    · have : psOf k rest = rest.take 2 ++ [Txt.join (Str.ofString " ") (rest.drop 2)] := if_pos ⟨hk, by omega⟩
      rw [this] <;> rfl
    · have : psOf k rest = rest := if_neg fun q => hk q.1
      rw [this]
      simp only
      cases hf : formL k with
      | none => rfl
      | some ws =>
        have l2 := form_len2 hf hk
        simp only [List.length_cons] at h3
        simp only
        rw [if_neg fun q => by
          have := q.1
          rw [List.length_append, List.length_take, List.length_singleton] at this
          omega, if_neg fun q => by
          have := q.1
          omega]
def spLRead : Sp := fun vs H Q _ => ∃ z, vs = [.str z] ∧ Asc z ∧ z.length ≤ 480 ∧ (readP z = none → ∀ H', Same H H' → Q .non H') ∧
  (∀ r, readP z = some r → ∀ p H', H p = none → Same H H' → DV H' (.ref p) r → Q (.ref p) H')
section
variable {P : Program} {w : World} {K : PySem.W.Frag} {mg : Str → Option Value} {base : Heap}
theorem ok_l_read (T : Tx K mg w.params) : FnG P w K mg base 3 T.d_l_read.f T.d_l_read.fd ["_law_line_here"] spLRead := by
  refine okG0 T.d_l_read.F sc_l_read (fun vs H Q E h => ?_) (fun cdv A outer s H vs Q E hg hr h => ?_)
  · obtain ⟨z, rfl, _⟩ := h
    rfl
  obtain ⟨z, rfl, az, lz, k1, k2⟩ := h
  have sz : sizeLine = 16777216 := sizeLine_eq
  refine ⟨_, (pss_cons (ps_set (i := 1) sc_l_read.nd rfl (Or.inr rfl) (pe_bm PySem.F.plainAttrs_str PySem.F.slot_str_split PySem.F.type_str_split mt_split (pv 0) (pa_cons pe_str pa_nil)))
    (pss_cons (ps_set (i := 2) sc_l_read.nd rfl (Or.inr rfl) (pe_cG (ok_l_kinds T) T.d_l_kinds.b takes0 hg (hr.mono (by decide)) T.d_l_kinds.m T.d_l_kinds.F.kp (pa_cons (pe_ix ix_list (pv 1) pe_int (fun _ _ => rfl)) pa_nil)))
    (C8.pss_cut (ps_if (PW.pt (pw_and (pt_cmpR op_eq (pe_ix ix_list (pv 1) pe_int (fun _ _ => rfl)) pe_str (nomark _)) (pw_and1 (pt_cmpR op_gt (pe_callB call_len_seq (by rfl) T.n_len (by decide +kernel) (pa_cons (pv 1) pa_nil)) pe_int (nomark _)))))
      (pss_one (ps_set (i := 1) sc_l_read.nd rfl (Or.inr rfl) (pe_op op_cat (pe_slice sl_list (pv 1) po_none (po_some pe_int)) (pe_lst1 (pa_cons (pe_join pe_str (pe_slice sl_list (pv 1) (po_some pe_int) po_none)) pa_nil)))))
      pss_nil)
    (pss_cons (ps_if (PW.pt (pw_or (pt_cmpR (op_eqD hr.units) (pv 2) (pe_lst1 pa_nil) (nomark _)) (pw_or1 (pt_cmpR op_ne (pe_callB call_len_seq (by rfl) T.n_len (by decide +kernel) (pa_cons (pv 1) pa_nil)) (pe_op op_add (pe_callB call_len_seq (by rfl) T.n_len (by decide +kernel) (pa_cons (pv 2) pa_nil)) pe_int) (nomark _)))))
      (pss_one (ps_ret pe_non))
      pss_nil)
    (pss_cons (ps_setLc (i := 3) (own := [("_law_k", 4)]) (g := gName 4) (tt := tYes) rfl sc_l_read.nd rfl rfl (sw_true rfl rfl rfl (by decide +kernel)) (pi_range1 (by rfl) T.n_range (pa_cons (pe_callB call_len_seq (by rfl) T.n_len (by decide +kernel) (pa_cons (pv 2) pa_nil)) pa_nil)) (blkOk_by (N := ["_law_line_here", "_law_words", "_law_sorts", "_law_items", "_law_k", "_law_act_here"]) (sc := defScope s_l_read) (by decide +kernel)) (fun _ _ _ _ _ => pg_name (i := 4) sc_l_read.nd rfl (Or.inl rfl)) (fun _ _ _ _ _ => pts_nil) (fun _ _ _ _ _ => (pe_ifExp (pt_cmpR op_ne (pe_ix (ix_listK (K := K) rfl) (pv 2) (pv 4) (fun _ _ => rfl)) pe_str (nomark _)) (pe_ix (ix_listK (K := K) rfl) (pv 1) (pe_op op_add (pv 4) pe_int) (fun _ _ => rfl)) (pe_cG (ok_l_number T) T.d_l_number.b takes0 hg (hr.mono (by decide)) T.d_l_number.m T.d_l_number.F.kp (pa_cons (pe_ix (ix_listK (K := K) rfl) (pv 1) (pe_op op_add (pv 4) pe_int) (fun _ _ => rfl)) pa_nil)))))
    (pss_cons (ps_set (i := 5) sc_l_read.nd rfl (Or.inl rfl) (pe_callTy call_tuple_of (by rfl) T.n_tuple (by decide +kernel) (pa_cons (pe_op op_cat (pe_slice sl_list (pv 1) po_none (po_some pe_int)) (pv 3)) pa_nil)))
    (pss_one (ps_ret (pe_ifExp (pt_val (pe_cG (ok_l_is_act T) T.d_l_is_act.b takes0 hg (hr.mono (by decide)) T.d_l_is_act.m T.d_l_is_act.F.kp (pa_cons (pv 5) pa_nil))) (pv 5) pe_non))))))))), ?_⟩
  walk_at "rd"
  refine ⟨rfl, by decide +kernel, by omega, fun l hl => ?_⟩
  obtain ⟨k, rest, hW⟩ : ∃ k rest, Txt.split z (Str.ofString " ") = k :: rest := by
    have := (split_len z).1
    cases h : Txt.split z (Str.ofString " ") with
    | nil =>
      rw [h] at this
      cases this
    | cons a b => exact ⟨_, _, rfl⟩
  have sub : ∀ p ∈ k :: rest, p.length ≤ 480 ∧ Asc p := fun p hp => by
    have := split_sub (x := z) (p := p) (by rw [hW]; exact hp)
    exact ⟨by omega, fun c hc => az c (this.2 c hc)⟩
  have lW := (split_len z).2
  rw [hW] at lW ⊢
  obtain ⟨H1, e1, S1, f1⟩ := gen_new (.lst ((k :: rest).map V.str)) hl
  rw [e1]
  refine r_ixL (.of f1) (at0 rfl) ⟨k, rfl, fun s H2 hs ns S2 f2 => ?_⟩
  let Mid : L2.St → Hp → Prop := fun σ' H' => ∃ l', σ' = [some (.str z), some (.ref l'), some (.ref s), none, none, none] ∧ H' l' = some (.lst ((k :: psOf k rest).map V.str)) ∧ Same H2 H'
  refine ⟨Mid, ?_, ?_⟩
  · walk_at "rd"
    refine r_ixL (.of (S2 _ _ f1)) (at0 rfl) ⟨rfl, ?_⟩
    by_cases hk : k = "write"
    · rw [if_pos (by rw [hk])]
      refine ⟨_, .inl (.of (S2 _ _ f1)), ?_⟩
      by_cases h3 : 3 < (k :: rest).length
      · rw [if_pos (by rw [List.length_map]; omega)]
        have ep : psOf k rest = rest.take 2 ++ [Txt.join (Str.ofString " ") (rest.drop 2)] := if_pos ⟨hk, h3⟩
        have c1 : cutV ((k :: rest).map V.str) none (some 3) = ((k :: rest).take 3).map V.str := by
          rw [List.map_take]
          exact cutV_to _ 3
        have c2 : cutV ((k :: rest).map V.str) (some 3) none = ((k :: rest).drop 3).map V.str := by
          rw [List.map_drop]
          exact cutV_from _ 3
        refine ⟨l, _, rfl, .of (S2 _ _ f1), fun q hq => ⟨⟨_, rfl⟩, ?_⟩⟩
        rw [c1]
        obtain ⟨H4, e4, S4, f4⟩ := gen_new (.lst (((k :: rest).take 3).map V.str)) hq
        rw [e4]
        refine ⟨l, _, rfl, .of (S4 _ _ (S2 _ _ f1)), fun q2 hq2 => ?_⟩
        rw [c2]
        obtain ⟨H5, e5, S5, f5⟩ := gen_new (.lst (((k :: rest).drop 3).map V.str)) hq2
        rw [e5]
        have sp1 : (Str.ofString " ").length = 1 := by decide +kernel
        refine ⟨q2, rfl, _, .inl (.of f5), ?_, by decide, fun q3 hq3 nq3 => ?_⟩
        · rw [sp1]
          have b1 := join_bound ((k :: rest).drop 3) 480 fun p hp => (sub p (List.mem_of_mem_drop hp)).1
          have b2 : ((k :: rest).drop 3).length ≤ 482 := by
            rw [List.length_drop]
            omega
          omega
        · obtain ⟨H6, e6, S6, f6⟩ := gen_new (.lst [V.str (Txt.join (Str.ofString " ") ((k :: rest).drop 3))]) hq3
          rw [e6]
          refine ⟨q, q3, _, _, rfl, rfl, S6 _ _ (S5 _ _ f4), f6, ?_, fun q4 hq4 => ?_⟩
          · rw [List.length_map, List.length_take, List.length_singleton]
            omega
          · refine ⟨q4, rfl, ?_, ((S4.trans S5).trans S6).trans (Same.new hq4)⟩
            rw [upd_same, ep]
            congr 2
            show V.str k :: ((rest.take 2).map V.str ++ [V.str (Txt.join (Str.ofString " ") (rest.drop 2))]) = V.str k :: (rest.take 2 ++ [Txt.join (Str.ofString " ") (rest.drop 2)]).map V.str
            rw [List.map_append]
            rfl
      · rw [if_neg (by rw [List.length_map]; omega)]
        have ep : psOf k rest = rest := if_neg fun q => h3 q.2
        exact ⟨l, rfl, by rw [ep]; exact S2 _ _ f1, Same.refl _⟩
    · rw [if_neg (fun q => hk (by simpa using q))]
      have ep : psOf k rest = rest := if_neg fun q => hk q.1
      exact ⟨l, rfl, by rw [ep]; exact S2 _ _ f1, Same.refl _⟩
  rintro σ1 H3 ⟨l', rfl, f3, S3⟩
  walk_at "rd"
  refine ⟨by decide, fun t ht nt => ?_⟩
  obtain ⟨H4, e4, S4, f4⟩ := gen_new (.lst []) ht
  rw [e4]
  have fs := S4 _ _ (S3 _ _ f2)
  have fl := S4 _ _ f3
  have S24 := S3.trans S4
  have S04 := (S1.trans S2).trans S24
  have ak : ∀ y ∈ lawK k, Asc y := by
    intro y hy
    unfold lawK at hy
    split at hy
    · cases hy
    · obtain ⟨w1, _, rfl⟩ := List.mem_map.mp hy
      cases k3 w1
      · exact asc_of (by decide +kernel)
      · exact asc_of (by decide +kernel)
      · exact asc_of (by decide +kernel)
  refine r_eq_nil ak fs f4 ⟨_, rfl, ?_⟩
  have er := readP_split hW
  cases hf : formL k with
  | none =>
    have lk : lawK k = [] := by
      unfold lawK
      rw [hf]
    rw [hf] at er
    rw [if_pos (by rw [lk]; rfl)]
    exact k1 er _ S04
  | some ws =>
    have lk : lawK k = ws.map fun w => nm3 (k3 w) := by
      unfold lawK
      rw [hf]
    have lw := formL_len hf
    rw [hf] at er
    simp only at er
    rw [if_neg (by rw [lk]; cases ws with | nil => simp at lw | cons a b => simp)]
    refine ⟨_, .inl (.of fl), _, .inl (.of fs), rfl, ?_⟩
    obtain ⟨ps, hps⟩ : ∃ ps, psOf k rest = ps := ⟨_, rfl⟩
    rw [hps] at er fl ⊢
    have pss : ∀ p ∈ ps, p.length ≤ 480 ∧ Asc p := by
      by_cases h : k = "write" ∧ 3 < (k :: rest).length
      · have few := splitMax_few z
        rw [hW, if_neg (by omega)] at few
        have ep : psOf k rest = rest.take 2 ++ [Txt.join (Str.ofString " ") (rest.drop 2)] := if_pos h
        intro p hp
        have := splitMax_sub (x := z) (p := p) (k := 3) (by
          rw [few]
          show p ∈ k :: (rest.take 2 ++ [Txt.join (Str.ofString " ") (rest.drop 2)])
          rw [← ep, hps]
          exact List.mem_cons_of_mem _ hp)
        exact ⟨by omega, fun c hc => az c (this.2 c hc)⟩
      · have ep : psOf k rest = rest := if_neg h
        rw [← hps, ep]
        exact fun p hp => sub p (List.mem_cons_of_mem _ hp)
    by_cases el : ps.length = ws.length
    · rw [if_neg (by rw [lk]; simp; omega)]
      rw [lk, List.map_map] at fs
      refine ⟨_, rfl, s, rfl, _, .inl (.of fs), _, rfl, by simp, by simp; omega, fun D hD => ?_⟩
      refine lc_flat walk_range ((ws.zip ps).map fun p => vItem (k3 p.1) p.2) hD (by simp; omega) (by simp; omega) (fun _ _ => trivial) ?_ ?_
      · rintro i x y Ha Hb R hy S ⟨rfl, rfl⟩ kR
        obtain ⟨p1, hp1, rfl⟩ : ∃ p1, (ws.zip ps)[i]? = some p1 ∧ vItem (k3 p1.1) p1.2 = y := by
          rw [List.getElem?_map] at hy
          exact Option.map_eq_some_iff.mp hy
        obtain ⟨hw1, hz1⟩ := List.getElem?_zip_eq_some.mp hp1
        have fsa : SqL K Hb s (ws.map (V.str ∘ fun w => nm3 (k3 w))) := .of (S _ _ fs)
        have fla : ∀ {Hx}, Same Hb Hx → SqL K Hx l' (V.str k :: ps.map V.str) := fun Sx => .of (Sx _ _ (S _ _ fl))
        have hat : atI (ws.map (V.str ∘ fun w => nm3 (k3 w))) (i : Int) = some (V.str (nm3 (k3 p1.1))) := atI_nat (by rw [List.getElem?_map, hw1]; rfl)
        have hsu : atI (V.str k :: ps.map V.str) ((i : Int) + 1) = some (V.str p1.2) := at_succ (by rw [List.getElem?_map, hz1]; rfl)
        have lp := pss p1.2 (List.mem_of_getElem? hz1)
        refine ⟨rfl, ?_⟩
        walk_at "rd"
        rw [Int.zero_add]
        refine r_ixL fsa hat ⟨rfl, ?_⟩
        generalize k3 p1.1 = c at kR
        cases c with
        | num =>
          simp only [nm3, decide_true, ↓reduceIte]
          rw [if_neg (by decide)]
          exact r_ixL (fla (Same.refl _)) hsu ⟨_, rfl, lp.2, by omega, fun Hx Sx => kR _ Sx⟩
        | cel =>
          simp only [nm3, V.str.injEq, n1, decide_false, Bool.not_false, ↓reduceIte]
          exact r_ixL (fla (Same.refl _)) hsu (kR _ (Same.refl _))
        | txt =>
          simp only [nm3, V.str.injEq, n2, decide_false, Bool.not_false, ↓reduceIte]
          exact r_ixL (fla (Same.refl _)) hsu (kR _ (Same.refl _))
      · intro H5 S5 f5
        refine ⟨l', _, rfl, .of (S5 _ _ fl), fun q hq => ?_⟩
        rw [List.map_cons, cutV_head]
        refine ⟨q, D, [V.str k], (ws.zip ps).map (fun p => vItem (k3 p.1) p.2), rfl, rfl, upd_same, ?_, ?_, fun q2 hq2 => ⟨q2, rfl, _, .inl ⟨.of upd_same, fun t2 ht2 => ?_⟩⟩⟩
        · rw [upd_ne (ne_of_none f5 hq)]
          exact f5
        · rw [List.length_map, List.length_zip, List.length_singleton]
          omega
        · obtain ⟨d, ed⟩ : ∃ d, d = PyData.tuple (.str k :: (ws.zip ps).map fun p => dItem (k3 p.1) p.2) := ⟨_, rfl⟩
          have Sp : Same H (upd (upd H5 q (.lst [V.str k])) q2 (.lst ([V.str k] ++ (ws.zip ps).map fun p => vItem (k3 p.1) p.2))) := ((S04.trans S5).trans (Same.new hq)).trans (Same.new hq2)
          have St := Sp.trans (Same.new (o := .tup ([V.str k] ++ (ws.zip ps).map fun p => vItem (k3 p.1) p.2)) ht2)
          have items : ∀ (Hx : Hp) (l : List (Str × Str)), DVs Hx (l.map fun p => vItem (k3 p.1) p.2) (l.map fun p => dItem (k3 p.1) p.2) := by
            intro Hx l
            induction l with
            | nil => exact .nil
            | cons x r ih => exact .cons (item_dv _ _) ih
          obtain ⟨H6, e6⟩ : ∃ H6, upd (upd (upd H5 q (.lst [V.str k])) q2 (.lst ([V.str k] ++ (ws.zip ps).map fun p => vItem (k3 p.1) p.2))) t2 (.tup ([V.str k] ++ (ws.zip ps).map fun p => vItem (k3 p.1) p.2)) = H6 := ⟨_, rfl⟩
          have f6 : H6 t2 = some (.tup ([V.str k] ++ (ws.zip ps).map fun p => vItem (k3 p.1) p.2)) := by
            rw [← e6]
            exact upd_same
          have dv : ∀ Hx, Same H6 Hx → DV Hx (.ref t2) d := fun Hx Sx => by
            rw [ed]
            exact .tup (Sx _ _ f6) (.cons (.str k) (items _ _))
          rw [e6] at St ⊢
          refine ⟨_, d, rfl, dv _ (Same.refl _), ⟨fun y e => (by rw [ed] at e; cases e), fun es e y m => ?_⟩, fun Hx Sx => ⟨_, rfl, ?_⟩⟩
          · rw [ed] at e
            cases e
            rcases List.mem_cons.mp m with e | m
            · cases e
              have := sub k (by simp)
              exact ⟨this.2, by omega⟩
            · obtain ⟨x, hx, ex⟩ := List.mem_map.mp m
              have hz2 : x.2 ∈ ps := (List.of_mem_zip hx).2
              have : y = x.2 := by
                unfold dItem at ex
                split at ex
                · split at ex <;> cases ex
                · cases ex
                  rfl
              rw [this]
              have := pss x.2 hz2
              exact ⟨this.2, by omega⟩
          · rw [ed] at *
            cases ea : actB (.tuple (.str k :: (ws.zip ps).map fun p => dItem (k3 p.1) p.2)) with
            | true =>
              rw [if_pos rfl]
              exact k2 _ (by rw [er, if_pos ⟨el, ea⟩]) t2 Hx (none_of Sp ht2) (St.trans Sx) (dv Hx Sx)
            | false =>
              rw [if_neg (by decide)]
              exact k1 (by rw [er, if_neg (by rw [ea]; simp)]) Hx (St.trans Sx)
    · rw [if_pos (by rw [lk]; simp; omega)]
      exact k1 (by rw [er, if_neg fun q => el q.1]) _ S04
end
end K57


namespace K57
open PySem L2 Nv

theorem atz {xs : List V} {v : V} (h : xs[0]? = some v) : atI xs 0 = some v := atI_nat (j := 0) h
def spSpL : Sp := fun vs H Q _ => ∃ p N z, vs = [.ref p, .str z] ∧ BoxAt H p N ∧ N ≤ 700000 ∧ Asc z ∧ 1 ≤ z.length ∧ z.length ≤ 200 ∧ ∀ y H', Asc y → y.length ≤ 410 → BoxAt H' p (N + 10) → Ext1 p H H' → Q (.str y) H'
section
variable {P : Program} {w : World} {K : PySem.W.Frag} {mg : Str → Option Value} {base : Heap}
theorem ok_l_spoilt_line (T : Tx K mg w.params) : FnG P w K mg base 2 T.d_l_spoilt_line.f T.d_l_spoilt_line.fd ["_law_box_here", "_law_line_here"] spSpL := by
  refine okG0 T.d_l_spoilt_line.F sc_l_spoilt_line (fun vs H Q E h => ?_) (fun cdv A outer s H vs Q E hg hr h => ?_)
  · obtain ⟨p, N, z, rfl, _⟩ := h
    rfl
  obtain ⟨p, N, z, rfl, hB, hN, az, l1, lz, k⟩ := h
  have sz : sizeLine = 16777216 := sizeLine_eq
  refine ⟨_, (pss_cons (ps_par3 (i := 2) (j := 3) (l := 4) rfl sc_l_spoilt_line.nd rfl rfl rfl (by decide) (by decide) (by decide) rfl rfl rfl (pa_cons (pe_cG (ok_l_take T) T.d_l_take.b takes0 hg (hr.mono (by decide)) T.d_l_take.m T.d_l_take.F.kp (pa_cons (pv 0) (pa_cons pe_int pa_nil))) (pa_cons (pe_cG (ok_l_take T) T.d_l_take.b takes0 hg (hr.mono (by decide)) T.d_l_take.m T.d_l_take.F.kp (pa_cons (pv 0) (pa_cons (pe_callB call_len_str (by rfl) T.n_len (by decide +kernel) (pa_cons (pv 1) pa_nil)) pa_nil))) (pa_cons (pe_cG0 (ok_l_signs T) T.d_l_signs.b takes0 hg (hr.mono (by decide)) T.d_l_signs.m T.d_l_signs.F.kp) pa_nil))) (by rfl))
    (pss_cons (ps_set (i := 5) sc_l_spoilt_line.nd rfl (Or.inl rfl) (pe_ix ix_list (pe_lst1 (pa_cons (pe_ix ix_str (pv 4) (pe_cG (ok_l_take T) T.d_l_take.b takes0 hg (hr.mono (by decide)) T.d_l_take.m T.d_l_take.F.kp (pa_cons (pv 0) (pa_cons (pe_callB call_len_str (by rfl) T.n_len (by decide +kernel) (pa_cons (pv 4) pa_nil)) pa_nil))) (fun _ _ => rfl)) (pa_cons pe_str (pa_cons pe_str (pa_cons pe_str (pa_cons pe_str (pa_cons pe_str (pa_cons pe_str (pa_cons pe_str pa_nil))))))))) (pe_cG (ok_l_take T) T.d_l_take.b takes0 hg (hr.mono (by decide)) T.d_l_take.m T.d_l_take.F.kp (pa_cons (pv 0) (pa_cons pe_int pa_nil))) (fun _ _ => rfl)))
    (pss_cons (ps_set (i := 6) sc_l_spoilt_line.nd rfl (Or.inl rfl) (pe_bm PySem.F.plainAttrs_str PySem.F.slot_str_split PySem.F.type_str_split mt_split (pv 1) (pa_cons pe_str pa_nil)))
    (pss_cons (ps_if (pt_cmpR op_lt (pv 2) pe_int (nomark _))
      (pss_one (ps_ret (pe_op op_add_str (pe_op op_add_str (pe_slice sl_str (pv 1) po_none (po_some (pv 3))) (pv 5)) (pe_slice sl_str (pv 1) (po_some (pv 3)) po_none))))
      pss_nil)
    (pss_cons (ps_if (pt_cmpR op_lt (pv 2) pe_int (nomark _))
      (pss_one (ps_ret (pe_op op_add_str (pe_slice sl_str (pv 1) po_none (po_some (pv 3))) (pe_slice sl_str (pv 1) (po_some (pe_op op_add (pv 3) pe_int)) po_none))))
      pss_nil)
    (pss_cons (ps_if (pt_cmpR op_lt (pv 2) pe_int (nomark _))
      (pss_one (ps_ret (pe_op op_add_str (pe_op op_add_str (pe_slice sl_str (pv 1) po_none (po_some (pv 3))) (pv 5)) (pe_slice sl_str (pv 1) (po_some (pe_op op_add (pv 3) pe_int)) po_none))))
      pss_nil)
    (pss_cons (ps_if (pt_cmpR op_eq (pv 2) pe_int (nomark _))
      (pss_one (ps_ret (pe_op op_add_str (pe_op op_add_str (pe_op op_add_str (pe_slice sl_str (pv 1) po_none (po_some (pv 3))) (pe_slice sl_str (pv 1) (po_some (pe_op op_add (pv 3) pe_int)) (po_some (pe_op op_add (pv 3) pe_int)))) (pe_slice sl_str (pv 1) (po_some (pv 3)) (po_some (pe_op op_add (pv 3) pe_int)))) (pe_slice sl_str (pv 1) (po_some (pe_op op_add (pv 3) pe_int)) po_none))))
      pss_nil)
    (pss_cons (ps_if (pt_cmpR op_eq (pv 2) pe_int (nomark _))
      (pss_one (ps_ret (pe_ifExp (pt_cmpR op_eq (pe_op op_modN (pv 3) pe_int) pe_int (nomark _)) (pe_join pe_str (pe_slice sl_list (pv 6) po_none (po_some (pe_un un_neg pe_int)))) (pe_op op_add_str (pe_op op_add_str (pv 1) pe_str) (pe_ix ix_list (pv 6) (pe_un un_neg pe_int) (fun _ _ => rfl))))))
      pss_nil)
    (pss_one (ps_ret (pe_ix ix_list (pe_lst1 (pa_cons (pe_bm0 PySem.F.plainAttrs_str PySem.F.slot_str_upper PySem.F.type_str_upper mt_upper (pv 1)) (pa_cons (pe_op op_add_str (pe_op op_add_str (pe_ix ix_list (pv 6) pe_int (fun _ _ => rfl)) pe_str) (pe_slice sl_str (pv 1) (po_some (pe_op op_add (pe_callB call_len_str (by rfl) T.n_len (by decide +kernel) (pa_cons (pe_ix ix_list (pv 6) pe_int (fun _ _ => rfl)) pa_nil)) pe_int)) po_none)) (pa_cons (pe_op op_add_str (pv 1) pe_str) (pa_cons (pe_op op_add_str pe_str (pv 1)) (pa_cons (pe_op op_add_str (pv 1) pe_str) (pa_cons (pe_op op_add_str pe_str (pv 1)) pa_nil))))))) (pe_op op_modN (pv 3) pe_int) (fun _ _ => rfl)))))))))))), ?_⟩
  walk_at "rd"
  refine ⟨p, 10, N, rfl, hB, by omega, by decide, by decide, fun kd H1 kd0 kd1 hB1 E1 => ?_⟩
  refine ⟨by omega, p, _, _, rfl, hB1, by omega, by omega, by omega, fun at0 H2 at00 at01 hB2 E2 => ?_⟩
  refine fun A2 l2 p2 => ?_
  walk_at "rd"
  have p2' : (sg A2).all pc = true := List.all_eq_true.mpr p2
  have gz : Gd 200 z := ⟨az, lz⟩
  have fz : z.length ≤ sizeLine := gz.fit (by decide)
  have sp1 : Gd 1 (Str.ofString " ") := ⟨asc_of (by decide +kernel), by decide +kernel⟩
  refine ⟨by omega, p, _, N + 2, rfl, hB2.le (by omega), by omega, by omega, by omega, fun c0 H3 c00 c01 hB3 E3 => ?_⟩
  obtain ⟨c, hc, hat⟩ := sign_at p2' c00 c01
  refine ⟨_, _, c, rfl, rfl, by omega, hat, by decide, fun m hm nm => ?_⟩
  have E03 := ext_trans (ext_trans E1 E2) E3
  obtain ⟨H4, e4, S4, f4⟩ := gen_new (.lst [V.str ⟨#[c]⟩, V.str (Str.ofString " "), V.str (Str.ofString "0"), V.str (Str.ofString "-"), V.str (Str.ofString "a"), V.str (Str.ofString "Z"), V.str (Str.ofString "\n"), V.str (Str.ofString "\t")]) hm
  rw [e4]
  have hB4 := hB3.mono S4
  have mp := hB3.ne hm
  refine ⟨p, 8, _, rfl, hB4, by omega, by decide, by decide, fun c1 H5 c10 c11 hB5 E5 => ?_⟩
  refine r_menu (E5 _ _ mp f4) c10 c11 fun v hv => ?_
  obtain ⟨sy, rfl, gs⟩ : ∃ sy, v = .str sy ∧ Gd 1 sy := by
    simp only [List.mem_cons, List.not_mem_nil, or_false] at hv
    rcases hv with rfl | rfl | rfl | rfl | rfl | rfl | rfl | rfl
    · exact ⟨_, rfl, Gd.one (by have := pc_lt hc; omega)⟩
    all_goals exact ⟨_, rfl, asc_of (by decide +kernel), by decide +kernel⟩
  clear hv
  have E05 := ext_trans (ext_trans E03 (ext_same S4)) E5
  refine ⟨rfl, by decide +kernel, by omega, fun l hl => ?_⟩
  obtain ⟨H6, e6, S6, f6⟩ := gen_new (.lst ((Txt.split z (Str.ofString " ")).map V.str)) hl
  rw [e6]
  have hB6 := hB5.mono S6
  have E06 := ext_trans E05 (ext_same S6)
  have fin : ∀ {B : Nat} {y : Str}, Gd B y → B ≤ 410 → ∀ H', BoxAt H' p (N + 10) → Ext1 p H6 H' → Q (.str y) H' := fun g hB H' b e => k _ H' g.a (Nat.le_trans g.l hB) b (ext_trans E06 e)
  have stay : Ext1 p H6 H6 := fun _ _ _ h => h
  have hB6' : BoxAt H6 p (N + 10) := hB6.le (by omega)
  have len : ∀ {B : Nat} {y : Str}, Gd B y → B ≤ 16777216 → y.length ≤ sizeLine := fun g h => g.fit h
  have two : ∀ {B C : Nat} {x y : Str}, Gd B x → Gd C y → B + C ≤ 16777216 → x.length + y.length ≤ sizeLine := fun g h k => by
    have := g.l
    have := h.l
    omega
  have ca := gz.cut none (some at0)
  have cb := gz.cut (some at0) none
  have cc := gz.cut (some (at0 + 1)) none
  have cd := gz.cut (some (at0 + 1)) (some (at0 + 2))
  have ce := gz.cut (some at0) (some (at0 + 1))
  have cf := gz.cut (some (at0 + 2)) none
  have cut1 : ∀ a b : Int, 0 ≤ a → b = a + 1 → (cutS z (some a) (some b)).length ≤ 1 := fun a b h0 h1 => by
    have := cut_nat z a.toNat (a.toNat + 1)
    have e1 : ((a.toNat : Nat) : Int) = a := by omega
    have e2 : ((a.toNat + 1 : Nat) : Int) = b := by omega
    rw [e1, e2] at this
    rw [← sg_len, this, List.length_take]
    omega
  have cd : Gd 1 (cutS z (some (at0 + 1)) (some (at0 + 2))) := ⟨(gz.cut _ _).a, cut1 _ _ (by omega) (by omega)⟩
  have ce : Gd 1 (cutS z (some at0) (some (at0 + 1))) := ⟨(gz.cut _ _).a, cut1 _ _ (by omega) rfl⟩
  by_cases k3 : kd < 3
  · rw [if_pos k3]
    exact ⟨fz, _, rfl, two ca gs (by decide), fz, two (ca.app gs) cb (by decide), fin ((ca.app gs).app cb) (by decide) _ hB6' stay⟩
  rw [if_neg k3]
  by_cases k5 : kd < 5
  · rw [if_pos k5]
    exact ⟨fz, fz, two ca cc (by decide), fin (ca.app cc) (by decide) _ hB6' stay⟩
  rw [if_neg k5]
  by_cases k7 : kd < 7
  · rw [if_pos k7]
    exact ⟨fz, _, rfl, two ca gs (by decide), fz, two (ca.app gs) cc (by decide), fin ((ca.app gs).app cc) (by decide) _ hB6' stay⟩
  rw [if_neg k7]
  refine ⟨rfl, ?_⟩
  by_cases k8 : kd = 7
  · rw [if_pos k8]
    exact ⟨fz, fz, two ca cd (by decide), fz, two (ca.app cd) ce (by decide), fz, two ((ca.app cd).app ce) cf (by decide), fin (((ca.app cd).app ce).app cf) (by decide) _ hB6' stay⟩
  rw [if_neg k8]
  refine ⟨rfl, ?_⟩
  have lws := split_len z
  have wsub : ∀ y ∈ Txt.split z (Str.ofString " "), Gd 200 y := fun y hy => by
    have := split_sub (x := z) (p := y) hy
    exact ⟨fun c hc => az c (this.2 c hc), by omega⟩
  obtain ⟨wd, hwd⟩ : ∃ wd, Txt.split z (Str.ofString " ") = wd := ⟨_, rfl⟩
  have wj := words_join z
  rw [hwd] at lws wsub f6 wj
  by_cases k9 : kd = 8
  · rw [if_pos k9]
    refine ⟨by decide, rfl, ?_⟩
    by_cases ev : at0.fmod 2 = 0
    · rw [if_pos ev]
      refine ⟨⟨_, rfl⟩, l, _, rfl, .of f6, fun q hq => ?_⟩
      have cb : cutV (wd.map V.str) none (some (-1)) = (wd.take (wd.length - 1)).map V.str := by
        rw [cutV_but, List.length_map, List.map_take]
      rw [cb]
      refine ⟨q, rfl, _, .inl (.of upd_same), ?_, ?_⟩
      · have b1 := join_bound (wd.take (wd.length - 1)) 200 fun y hy => (wsub y (List.mem_of_mem_take hy)).l
        have b2 : (wd.take (wd.length - 1)).length ≤ 202 := by
          rw [List.length_take]
          omega
        have := sp1.l
        have b3 : 200 * (wd.take (wd.length - 1)).length ≤ 200 * 202 := Nat.mul_le_mul_left _ b2
        have b4 : (wd.take (wd.length - 1)).length * (Str.ofString " ").length ≤ 202 * 1 := Nat.mul_le_mul b2 this
        omega
      · exact fin (B := 200) ⟨Asc.join fun y hy => (wsub y (List.mem_of_mem_take hy)).a, by have := wj (wd.length - 1); omega⟩ (by decide) _ (hB6'.off hq) (ext_new _ hq)
    · rw [if_neg ev]
      obtain ⟨ly, hly⟩ : ∃ ly, wd.getLast? = some ly := by
        cases wd with
        | nil => simp at lws
        | cons a b => exact ⟨_, List.getLast?_eq_some_getLast (by simp)⟩
      have gl := wsub ly (List.mem_of_getLast? hly)
      refine ⟨two gz sp1 (by decide), ?_⟩
      refine r_ixL (.of f6) (at_last (by rw [List.getLast?_map, hly]; rfl)) ⟨ly, rfl, two (gz.app sp1) gl (by decide), fin ((gz.app sp1).app gl) (by decide) _ hB6' stay⟩
  rw [if_neg k9]
  obtain ⟨w0, wr, rfl⟩ : ∃ w0 wr, wd = w0 :: wr := by
    cases wd with
    | nil => simp at lws
    | cons a b => exact ⟨_, _, rfl⟩
  have g0 := wsub w0 (by simp)
  have sp2 : Gd 2 (Str.ofString " 0") := ⟨asc_of (by decide +kernel), by decide +kernel⟩
  have lf : Gd 1 (Str.ofString "\n") := ⟨asc_of (by decide +kernel), by decide +kernel⟩
  refine ⟨rfl, by omega, ?_⟩
  refine r_ixL (.of f6) (atz rfl) ⟨w0, rfl, two g0 sp2 (by decide), ?_⟩
  have cg := gz.cut (some ((w0.length : Int) + 1)) none
  refine r_ixL (.of f6) (atz rfl) ⟨w0, rfl, g0.fit (by decide), fz, two (g0.app sp2) cg (by decide), two gz sp1 (by decide), two sp1 gz (by decide), two gz lf (by decide), two lf gz (by decide), by decide, fun q hq nq => ⟨by decide, ?_⟩⟩
  have fm := fmod_in at0 (m := 6) (by decide)
  refine r_menu upd_same fm.1 fm.2 fun v hv => ?_
  have fin' : ∀ {B : Nat} {y : Str}, Gd B y → B ≤ 410 → Q (.str y) (upd H6 q (.lst [V.str (Txt.upper z), V.str (w0 ++ Str.ofString " 0" ++ cutS z (some ((w0.length : Int) + 1)) none), V.str (z ++ Str.ofString " "), V.str (Str.ofString " " ++ z), V.str (z ++ Str.ofString "\n"), V.str (Str.ofString "\n" ++ z)])) := fun g hB => fin g hB _ (hB6'.off hq) (ext_new _ hq)
  simp only [List.mem_cons, List.not_mem_nil, or_false] at hv
  rcases hv with rfl | rfl | rfl | rfl | rfl | rfl
  · exact fin' gz.upper (by decide)
  · exact fin' ((g0.app sp2).app cg) (by decide)
  · exact fin' (gz.app sp1) (by decide)
  · exact fin' (sp1.app gz) (by decide)
  · exact fin' (gz.app lf) (by decide)
  · exact fin' (lf.app gz) (by decide)
end
end K57


namespace K57
open PySem L2 Nv

/-- what stands in a spoilt act -/
structure It (d : PyData) : Prop where
  s : SB 1921 2 d
  z : ∀ z, d = .str z → Gd 100 z
  i : ∀ i, d = .int i → i.natAbs < 10 ^ 500
structure Lz (d : PyData) : Prop where
  a : LensA d
  b : Bigs d
  m : Mk2 d
theorem dvs_take {H : Hp} : ∀ {xs : List V} {ds : List PyData} (n : Nat), DVs H xs ds → DVs H (xs.take n) (ds.take n)
  | _, _, 0, _ => .nil
  | _, _, _ + 1, .nil => .nil
  | _, _, n + 1, .cons a r => .cons a (dvs_take n r)
theorem dvs_drop {H : Hp} : ∀ {xs : List V} {ds : List PyData} (n : Nat), DVs H xs ds → DVs H (xs.drop n) (ds.drop n)
  | _, _, 0, h => h
  | _, _, _ + 1, .nil => .nil
  | _, _, n + 1, .cons a r => dvs_drop n r
theorem dvs_app {H : Hp} : ∀ {xs ys : List V} {ds es : List PyData}, DVs H xs ds → DVs H ys es → DVs H (xs ++ ys) (ds ++ es)
  | _, _, _, _, .nil, g => g
  | _, _, _, _, .cons a r, g => .cons a (dvs_app r g)
theorem sbs_all {W D : Nat} : ∀ {ds : List PyData}, (∀ d ∈ ds, SB W D d) → SBs (ds.length * (W + 1)) D ds
  | [], _ => SBs.nil
  | d :: ds, h => (SBs.cons (h d (by simp)) (sbs_all fun x hx => h x (by simp [hx]))).le (by
      simp only [List.length_cons, Nat.add_mul]
      omega) (Nat.le_refl _)
theorem It.str {z : Str} (h : Gd 100 z) : It (.str z) := ⟨(SB.str h.a).le (Nat.le_trans h.l (by decide)) (Nat.le_refl _), fun y e => by cases e; exact h, fun i e => by cases e⟩
theorem It.int {i : Int} (h : i.natAbs < 10 ^ 500) : It (.int i) := ⟨SB.int h, fun y e => (by cases e), fun j e => by cases e; exact h⟩
theorem It.bl (b : Bool) : It (.bool b) := ⟨(SB.bl b).le (Nat.zero_le _) (Nat.zero_le _), fun y e => (by cases e), fun j e => by cases e⟩
theorem It.non : It .none := ⟨(SB.non).le (Nat.zero_le _) (Nat.zero_le _), fun y e => (by cases e), fun j e => by cases e⟩
theorem item_it {k : K3} {d : PyData} (h : itemB k d = true) (s : smallI d) : It d := by
  cases k with
  | num =>
    cases d with
    | int i =>
      have := s i rfl
      exact It.int (Nat.lt_of_lt_of_le (m := 10 ^ 9) (by omega) (by decide +kernel))
    | _ => cases h
  | cel =>
    cases d with
    | str z =>
      have h' : celS z = true := h
      unfold celS at h'
      simp only [Bool.and_eq_true, decide_eq_true_eq] at h'
      exact It.str ⟨(isascii_iff z).mp h'.2.1, by omega⟩
    | _ => cases h
  | txt =>
    cases d with
    | str z =>
      have h' : (okS z && decide (z.length ≤ 40)) = true := h
      unfold okS at h'
      simp only [Bool.and_eq_true, decide_eq_true_eq] at h'
      exact It.str ⟨(isascii_iff z).mp h'.1.1, by omega⟩
    | _ => cases h
theorem items_it : ∀ {ws : List Str} {ds : List PyData}, itemsB ws ds = true → (∀ d ∈ ds, smallI d) → ∀ d ∈ ds, It d
  | [], [], _, _, d, h => by cases h
  | [], _ :: _, h, _, _, _ => by simp [itemsB] at h
  | _ :: _, [], h, _, _, _ => by simp [itemsB] at h
  | w :: ws, x :: ds, h, s, d, m => by
    simp only [itemsB, List.length_cons, List.zip_cons_cons, List.all_cons, Bool.and_eq_true, decide_eq_true_eq] at h
    rcases List.mem_cons.mp m with rfl | m
    · exact item_it h.2.1 (s _ (by simp))
    · refine items_it (ws := ws) (ds := ds) ?_ (fun y hy => s y (by simp [hy])) d m
      simp only [itemsB, Bool.and_eq_true, decide_eq_true_eq]
      exact ⟨by omega, h.2.2⟩
theorem form_gd {z : Str} {ws : List Str} (h : formL z = some ws) : Gd 10 z := by
  unfold formL at h
  obtain ⟨x, hx, rfl⟩ := Option.map_eq_some_iff.mp h
  have key : ∀ x ∈ forms, (sg x.1).all (fun c => decide (c < 128)) = true ∧ x.1.length ≤ 10 := by decide +kernel
  have e : x.1 = z := by
    have := List.find?_some hx
    simpa using this
  have := key x (List.mem_of_find?_eq_some hx)
  rw [e] at this
  exact ⟨asc_of this.1, this.2⟩
theorem act_it {z : Str} {ds : List PyData} (h : actB (.tuple (.str z :: ds)) = true) (s : ∀ d ∈ ds, smallI d) : ∀ d ∈ PyData.str z :: ds, It d := fun d m => by
  obtain ⟨z', ds', ws, e, f, i⟩ := act_of h
  cases e
  rcases List.mem_cons.mp m with rfl | m
  · exact It.str ((form_gd f).le (by decide))
  · exact items_it i s d m
theorem lz_tup {ds : List PyData} (h : ∀ d ∈ ds, It d) (l : ds.length ≤ 6) : Lz (.tuple ds) := by
  refine ⟨⟨fun z e => (by cases e), fun ds' e z m => ?_⟩, fun ds' e i m => ?_, ⟨?_, fun ds' e => (by cases e)⟩⟩
  · cases e
    have := (h _ m).z z rfl
    exact ⟨this.a, Nat.le_trans this.l (by decide)⟩
  · cases e
    exact (h _ m).i i rfl
  · exact (SB.tuple (sbs_all fun d m => (h d m).s)).le (by
      have := Nat.mul_le_mul_right 1922 l
      omega) (by decide)
theorem lz_list {ds : List PyData} (h : ∀ d ∈ ds, It d) (l : ds.length ≤ 6) (f : ∀ d ∈ ds, flat2 d = true) : Lz (.list ds) := by
  refine ⟨⟨fun z e => (by cases e), fun ds' e z m => (by cases e)⟩, fun ds' e i m => (by cases e), ⟨?_, fun ds' e => ?_⟩⟩
  · exact (SB.list (sbs_all fun d m => (h d m).s)).le (by
      have := Nat.mul_le_mul_right 1922 l
      omega) (by decide)
  · cases e
    have m1 : SB 4 2 (.str "more") := (SB.str (z := "more") (asc_of (by decide +kernel))).le (by decide +kernel) (Nat.le_refl _)
    refine ⟨(SB.list ((sbs_all fun d m => (h d m).s).app (sbs_all (ds := [.str "more"]) fun d m => by
      simp only [List.mem_singleton] at m
      rw [m]
      exact m1))).le ?_ (by decide), by omega, fun x m => ?_⟩
    · have := Nat.mul_le_mul_right 1922 l
      simp only [List.length_singleton]
      omega
    · have := f x m
      cases x <;> first | rfl | cases this
def spSpA : Sp := fun vs H Q _ => ∃ p N a z ds, vs = [.ref p, .ref a] ∧ BoxAt H p N ∧ N ≤ 700000 ∧ H a = some (.tup (.str z :: ds.map fv)) ∧ actB (.tuple (.str z :: ds)) = true ∧ (∀ d ∈ ds, smallI d) ∧
  ∀ v d H', DV H' v d → Lz d → (isL d = true → ∃ q, v = .ref q ∧ H q = none) → BoxAt H' p (N + 10) → Ext1 p H H' → Q v H'
section
variable {P : Program} {w : World} {K : PySem.W.Frag} {mg : Str → Option Value} {base : Heap}
theorem ok_l_spoilt_act (T : Tx K mg w.params) : FnG P w K mg base 2 T.d_l_spoilt_act.f T.d_l_spoilt_act.fd ["_law_box_here", "_law_act_here"] spSpA := by
  refine okG0 T.d_l_spoilt_act.F sc_l_spoilt_act (fun vs H Q E h => ?_) (fun cdv A outer s H vs Q E hg hr h => ?_)
  · obtain ⟨p, N, a, z, ds, rfl, _⟩ := h
    rfl
  obtain ⟨p, N, a, z, ds, rfl, hB, hN, ha, ea, sm, k⟩ := h
  have sz : sizeLine = 16777216 := sizeLine_eq
  refine ⟨_, (pss_cons (ps_par3 (i := 2) (j := 3) (l := 4) rfl sc_l_spoilt_act.nd rfl rfl rfl (by decide) (by decide) (by decide) rfl rfl rfl (pa_cons (pe_cG (ok_l_take T) T.d_l_take.b takes0 hg (hr.mono (by decide)) T.d_l_take.m T.d_l_take.F.kp (pa_cons (pv 0) (pa_cons pe_int pa_nil))) (pa_cons (pe_cG (ok_l_take T) T.d_l_take.b takes0 hg (hr.mono (by decide)) T.d_l_take.m T.d_l_take.F.kp (pa_cons (pv 0) (pa_cons (pe_callB call_len_seq (by rfl) T.n_len (by decide +kernel) (pa_cons (pv 1) pa_nil)) pa_nil))) (pa_cons (pe_cG (ok_l_take T) T.d_l_take.b takes0 hg (hr.mono (by decide)) T.d_l_take.m T.d_l_take.F.kp (pa_cons (pv 0) (pa_cons pe_int pa_nil))) pa_nil))) (by rfl))
    (C8.pss_cut (ps_set (i := 5) sc_l_spoilt_act.nd rfl (Or.inl rfl) (pe_ix ix_list (pe_lst1 (pa_cons pe_bl (pa_cons pe_bl (pa_cons pe_non (pa_cons (pe_un un_neg pe_int) (pa_cons pe_str (pa_cons pe_str (pa_cons (pe_lst1 (pa_cons pe_int pa_nil)) (pa_cons (pe_tup (pa_cons pe_int pa_nil)) (pa_cons (pe_disp (pps_cons pe_str pe_int pps_nil) (by rfl) (by rfl) (fun z => by cases z) (by decide)) (pa_cons pe_str (pa_cons pe_str (pa_cons pe_str (pa_cons (pe_op op_pow pe_int pe_int) (pa_cons (pe_op op_mul_str pe_str pe_int) pa_nil))))))))))))))) (pv 4) (fun _ _ => rfl)))
    (pss_cons (ps_if (pt_cmpR op_lt (pv 2) pe_int (nomark _))
      (pss_one (ps_ret (pe_op op_catA (pe_op op_catA (pe_slice sl_tupA (pv 1) po_none (po_some (pv 3))) (pe_tup (pa_cons (pv 5) pa_nil))) (pe_slice sl_tupA (pv 1) (po_some (pe_op op_add (pv 3) pe_int)) po_none))))
      pss_nil)
    (pss_cons (ps_if (pt_cmpR op_eq (pv 2) pe_int (nomark _))
      (pss_one (ps_ret (pe_op op_catA (pe_slice sl_tupA (pv 1) po_none (po_some (pv 3))) (pe_slice sl_tupA (pv 1) (po_some (pe_op op_add (pv 3) pe_int)) po_none))))
      pss_nil)
    (pss_one (ps_ret (pe_ifExp (pt_cmpR op_eq (pv 2) pe_int (nomark _)) (pe_op op_catA (pv 1) (pe_tup (pa_cons (pv 5) pa_nil))) (pe_callTy call_list_new (by rfl) T.n_list (by decide +kernel) (pa_cons (pv 1) pa_nil))))))))), ?_⟩
  walk_at "rd"
  have fl := act_flat ea
  have ap : a ≠ p := fun e => by
    obtain ⟨_, _, _, _, hx, _⟩ := hB
    rw [e, hx] at ha
    cases ha
  refine ⟨p, 6, N, rfl, hB, by omega, by decide, by decide, fun kd H1 kd0 kd1 hB1 E1 => ?_⟩
  refine ⟨_, .inr (.of (E1 _ _ ap ha)), p, _, _, rfl, hB1, by omega, by simp, by simp only [List.length_cons, List.length_map] at fl ⊢; omega, fun at0 H2 at00 at01 hB2 E2 => ?_⟩
  refine ⟨p, 14, _, rfl, hB2, by omega, by decide, by decide, fun wh H3 wh0 wh1 hB3 E3 => ?_⟩
  let Mid : L2.St → Hp → Prop := fun σ' H' => ∃ o d, σ' = [some (.ref p), some (.ref a), some (.int kd), some (.int at0), some (.int wh), some o] ∧ DV H' o d ∧ It d ∧ Ext1 p H3 H' ∧ BoxAt H' p (N + 3)
  refine ⟨Mid, ?_, ?_⟩
  · dsimp only [tAsg, tOp, tCons, tC, tNil, tUn, tLst1, tTup, tDisp, tVar, gName, rU, tPairs]
    refine ⟨1, rfl, by decide, fun q1 h1 n1 => ?_⟩
    obtain ⟨G1, e1, S1, f1⟩ := gen_new (.lst [V.int 0]) h1
    rw [e1]
    refine ⟨by decide, fun q2 h2 q3 h3 => ?_⟩
    obtain ⟨G2, e2, S2, f2⟩ := gen_new (.tup [V.int 0]) h2
    rw [e2] at h3 ⊢
    refine ⟨upd_same, [(.inr (Str.ofString "a"), .int 0)], rfl, by decide, ?_⟩
    rw [show mergeK [] [(.inr (Str.ofString "a"), .int 0)] = [(.inr (Str.ofString "a"), V.int 0)] from rfl]
    rw [upd_upd]
    obtain ⟨G3, e3, S3, f3⟩ := gen_new (.dK [(.inr (Str.ofString "a"), V.int 0)]) h3
    rw [e3]
    refine ⟨10, 19, rfl, rfl, ⟨by decide, by decide, by decide⟩, "~", 41, rfl, rfl, ⟨by decide +kernel, fun _ _ => by decide +kernel, fun _ _ => by decide +kernel⟩, ?_⟩
    refine ⟨by rw [sz]; simp only [List.length_cons, List.length_nil]; omega, fun m hm nm => ⟨_, rfl, ?_⟩⟩
    have hB6 := (((hB3.mono S1).mono S2).mono S3).off (o := .lst [V.bl true, V.bl false, V.non, V.int (-1), V.str (Str.ofString "0"), V.str (Str.ofString ""), V.ref q1, V.ref q2, V.ref q3, V.str (Str.ofString "ab\n"), V.str (Str.ofString "A"), V.str (Str.ofString "abcdefghi"), V.int (10 ^ (19 : Int).toNat), V.str (Txt.mul "~" 41)]) hm
    have S6 := ((S1.trans S2).trans S3).trans (Same.new (o := .lst [V.bl true, V.bl false, V.non, V.int (-1), V.str (Str.ofString "0"), V.str (Str.ofString ""), V.ref q1, V.ref q2, V.ref q3, V.str (Str.ofString "ab\n"), V.str (Str.ofString "A"), V.str (Str.ofString "abcdefghi"), V.int (10 ^ (19 : Int).toNat), V.str (Txt.mul "~" 41)]) hm)
    refine r_menu upd_same wh0 wh1 fun v hv => ?_
    have key : ∀ {d : PyData}, DV _ v d → It d → Mid (List.set [some (V.ref p), some (V.ref a), some (V.int kd), some (V.int at0), some (V.int wh), none] 5 (some v)) _ := fun h i => ⟨v, _, rfl, h, i, ext_same S6, hB6.le (by omega)⟩
    simp only [List.mem_cons, List.not_mem_nil, or_false] at hv
    have cl : ∀ {d : PyData}, d.leavesShort 1000 = true → d.weight ≤ 1921 → d.depth ≤ 2 → d.showable = true → (∀ z, d ≠ .str z) → (∀ i, d ≠ .int i) → It d := fun h1 h2 h3 h4 h5 h6 => ⟨⟨h1, h2, h3, h4⟩, fun z e => absurd e (h5 z), fun i e => absurd e (h6 i)⟩
    rcases hv with rfl | rfl | rfl | rfl | rfl | rfl | rfl | rfl | rfl | rfl | rfl | rfl | rfl | rfl
    · exact key (.bl _) (It.bl _)
    · exact key (.bl _) (It.bl _)
    · exact key .non It.non
    · exact key (.int _) (It.int (by decide +kernel))
    · exact key (.str _) (It.str ⟨asc_of (by decide +kernel), by decide +kernel⟩)
    · exact key (.str _) (It.str ⟨asc_of (by decide +kernel), by decide +kernel⟩)
    · exact key (.lst (Same.new hm _ _ (S3 _ _ (S2 _ _ f1))) n1 (.cons (.int 0) .nil)) (cl (by decide +kernel) (by decide +kernel) (by decide +kernel) (by decide +kernel) (fun _ => nofun) fun _ => nofun)
    · exact key (.tup (Same.new hm _ _ (S3 _ _ f2)) (.cons (.int 0) .nil)) (cl (by decide +kernel) (by decide +kernel) (by decide +kernel) (by decide +kernel) (fun _ => nofun) fun _ => nofun)
    · exact key (.dct (Same.new hm _ _ f3) (.cons (.int 0) .nil)) (cl (by decide +kernel) (by decide +kernel) (by decide +kernel) (by decide +kernel) (fun _ => nofun) fun _ => nofun)
    · exact key (.str _) (It.str ⟨asc_of (by decide +kernel), by decide +kernel⟩)
    · exact key (.str _) (It.str ⟨asc_of (by decide +kernel), by decide +kernel⟩)
    · exact key (.str _) (It.str ⟨asc_of (by decide +kernel), by decide +kernel⟩)
    · exact key (.int _) (It.int (by decide +kernel))
    · exact key (.str _) (It.str ⟨asc_of (by decide +kernel), by decide +kernel⟩)
  · rintro σ1 H4 ⟨o, d, rfl, ho, hi, E4, hB4⟩
    walk_at "rd"
    have E04 := ext_trans (ext_trans (ext_trans E1 E2) E3) E4
    have ha4 := E04 _ _ ap ha
    have its := act_it ea sm
    obtain ⟨j, rfl⟩ : ∃ j : Nat, at0 = (j : Int) := ⟨at0.toNat, by omega⟩
    have ej : (j : Int) + 1 = ((j + 1 : Nat) : Int) := by omega
    rw [ej]
    have dvA : DVs H4 (.str z :: ds.map fv) (.str z :: ds) := by
      have : ∀ es : List PyData, (∀ d ∈ es, flat2 d = true) → DVs H4 (es.map fv) es := fun es => by
        induction es with
        | nil => exact fun _ => .nil
        | cons e es ih => exact fun h => .cons (fv_dv (h e (by simp))) (ih fun d m => h d (by simp [m]))
      exact .cons (.str z) (this ds fun d m => fl.2 d (by simp [m]))
    have stay : ∀ {G : Hp}, Same H4 G → BoxAt G p (N + 10) ∧ Ext1 p H G := fun S => ⟨(hB4.mono S).le (by omega), ext_trans E04 (ext_same S)⟩
    have fin : ∀ {G : Hp} {t : Addr} {xs : List V} {es : List PyData}, Same H4 G → G t = some (.tup xs) → DVs H4 xs es → (∀ d ∈ es, It d) → es.length ≤ 6 → Q (.ref t) G := fun S f dv its l =>
      k _ _ _ (.tup f (dv.mono S)) (lz_tup its l) (fun h => by cases h) (stay S).1 (stay S).2
    have l4 : ds.length ≤ 3 := by
      have := fl.1
      simp only [List.length_cons] at this
      omega
    have tk := dvs_take j dvA
    have dr := dvs_drop (j + 1) dvA
    have tki : ∀ d ∈ (PyData.str z :: ds).take j, It d := fun d m => its d (List.mem_of_mem_take m)
    have dri : ∀ d ∈ (PyData.str z :: ds).drop (j + 1), It d := fun d m => its d (List.mem_of_mem_drop m)
    have tl : ((PyData.str z :: ds).take j).length ≤ 4 := by
      rw [List.length_take, List.length_cons]
      omega
    have dl : ((PyData.str z :: ds).drop (j + 1)).length ≤ 4 := by
      rw [List.length_drop, List.length_cons]
      omega
    have tdl : ((PyData.str z :: ds).take j).length + ((PyData.str z :: ds).drop (j + 1)).length ≤ 4 := by
      rw [List.length_take, List.length_drop, List.length_cons]
      omega
    have both : ∀ {xs ys : List PyData}, (∀ d ∈ xs, It d) → (∀ d ∈ ys, It d) → ∀ d ∈ xs ++ ys, It d := fun h g d m => by
      rcases List.mem_append.mp m with m | m
      · exact h d m
      · exact g d m
    have one : ∀ d' ∈ [d], It d' := fun d' m => by
      simp only [List.mem_singleton] at m
      rw [m]
      exact hi
    by_cases k3 : kd < 3
    · rw [if_pos k3]
      refine r_slA ha4 fun b G1 S1 f1 => ⟨by omega, fun m hm => ?_⟩
      rw [cutV_to] at f1
      obtain ⟨G2, e2, S2, f2⟩ := gen_new (.tup [o]) hm
      rw [e2]
      refine r_catA (S2 _ _ f1) f2 ?_ fun c G3 S3 f3 => ?_
      · rw [tk.len, List.length_singleton]
        omega
      refine r_slA (S3 _ _ (S2 _ _ (S1 _ _ ha4))) fun b2 G4 S4 f4 => ?_
      rw [cutV_from] at f4
      have dvC := dvs_app tk (.cons ho .nil)
      refine r_catA (S4 _ _ f3) f4 ?_ fun r G5 S5 f5 => ?_
      · rw [dvC.len, dr.len, List.length_append, List.length_singleton]
        omega
      exact fin (((S1.trans S2).trans S3).trans (S4.trans S5)) f5 (dvs_app dvC dr) (both (both tki one) dri) (by
        rw [List.length_append, List.length_append, List.length_singleton]
        omega)
    rw [if_neg k3]
    refine ⟨rfl, ?_⟩
    by_cases k4 : kd = 3
    · rw [if_pos k4]
      refine r_slA ha4 fun b G1 S1 f1 => ?_
      rw [cutV_to] at f1
      refine r_slA (S1 _ _ ha4) fun b2 G2 S2 f2 => ?_
      rw [cutV_from] at f2
      refine r_catA (S2 _ _ f1) f2 ?_ fun r G3 S3 f3 => ?_
      · rw [tk.len, dr.len]
        omega
      exact fin ((S1.trans S2).trans S3) f3 (dvs_app tk dr) (both tki dri) (by
        rw [List.length_append]
        omega)
    rw [if_neg k4]
    refine ⟨rfl, ?_⟩
    by_cases k5 : kd = 4
    · rw [if_pos k5]
      refine ⟨by omega, fun m hm => ?_⟩
      obtain ⟨G2, e2, S2, f2⟩ := gen_new (.tup [o]) hm
      rw [e2]
      refine r_catA (S2 _ _ ha4) f2 ?_ fun c G3 S3 f3 => ?_
      · rw [dvA.len, List.length_cons, List.length_singleton]
        omega
      exact fin (S2.trans S3) f3 (dvs_app dvA (.cons ho .nil)) (both its one) (by
        rw [List.length_append, List.length_singleton, List.length_cons]
        omega)
    · rw [if_neg k5]
      refine ⟨_, .inr (.of ha4), fun q hq nq => ?_⟩
      obtain ⟨G2, e2, S2, f2⟩ := gen_new (.lst (.str z :: ds.map fv)) hq
      rw [e2]
      exact k _ _ _ (.lst f2 nq (dvA.mono S2)) (lz_list its (by rw [List.length_cons]; omega) fl.2) (fun _ => ⟨q, rfl, ext_none (hB4) E04 hq⟩) (stay S2).1 (stay S2).2
end
end K57


namespace K57
open PySem L2 Nv

/-! what is read is what was written -/
theorem num_txt {p : Str} (h : numS p = true) : Str.ofString (toString ((Fr.num (sg p) : Nat) : Int)) = p := by
  apply sg_inj
  rw [nat_sg]
  refine numL_back _ rfl ?_
  rw [← numS_eq]
  exact h
theorem item_back {k : K3} {p : Str} (h : itemB k (dItem k p) = true) : txtD (dItem k p) = p := by
  cases k with
  | num =>
    unfold dItem at h ⊢
    by_cases hn : numS p = true
    · simp only [hn, if_true]
      exact num_txt hn
    · simp only [hn, if_false] at h
      cases h
  | _ => rfl
theorem items_back : ∀ {ws ps : List Str}, itemsB ws ((ws.zip ps).map fun p => dItem (k3 p.1) p.2) = true → ps.length = ws.length → ((ws.zip ps).map fun p => dItem (k3 p.1) p.2).map txtD = ps
  | [], [], _, _ => rfl
  | [], _ :: _, _, h => by cases h
  | _ :: _, [], _, h => by cases h
  | w :: ws, p :: ps, h, l => by
    simp only [itemsB, List.length_cons, List.zip_cons_cons, List.map_cons, List.all_cons, Bool.and_eq_true, decide_eq_true_eq] at h l ⊢
    rw [item_back h.2.1, items_back (ws := ws) (ps := ps) ?_ (by omega)]
    simp only [itemsB, Bool.and_eq_true, decide_eq_true_eq]
    exact ⟨by omega, h.2.2⟩
theorem joinL_mem : ∀ {l : List (List Nat)} {a : List Nat}, a ∈ l → a.length ≤ (joinL l).length
  | [], _, h => by cases h
  | [b], a, h => by
    simp only [List.mem_singleton] at h
    rw [h]
    exact Nat.le_refl _
  | b :: c :: r, a, h => by
    have ih := joinL_mem (l := c :: r) (a := a)
    rw [joinL, List.length_append, List.length_cons]
    rcases List.mem_cons.mp h with rfl | h
    · omega
    · have := ih h
      omega
theorem itz {k : K3} {d : PyData} (h : itemB k d = true) (s : ∀ i, d = .int i → i.natAbs < 10 ^ 500) : It d := by
  cases k with
  | num =>
    cases d with
    | int i => exact It.int (s i rfl)
    | _ => cases h
  | cel =>
    cases d with
    | str z => exact item_it h fun i e => by cases e
    | _ => cases h
  | txt =>
    cases d with
    | str z => exact item_it h fun i e => by cases e
    | _ => cases h
theorem itzs : ∀ {ws : List Str} {ds : List PyData}, itemsB ws ds = true → (∀ d ∈ ds, ∀ i, d = .int i → i.natAbs < 10 ^ 500) → ∀ d ∈ ds, It d
  | [], [], _, _, d, h => by cases h
  | [], _ :: _, h, _, _, _ => by simp [itemsB] at h
  | _ :: _, [], h, _, _, _ => by simp [itemsB] at h
  | w :: ws, x :: ds, h, s, d, m => by
    simp only [itemsB, List.length_cons, List.zip_cons_cons, List.all_cons, Bool.and_eq_true, decide_eq_true_eq] at h
    rcases List.mem_cons.mp m with rfl | m
    · exact itz h.2.1 (s _ (by simp))
    · refine itzs (ws := ws) (ds := ds) ?_ (fun y hy => s y (by simp [hy])) d m
      simp only [itemsB, Bool.and_eq_true, decide_eq_true_eq]
      exact ⟨by omega, h.2.2⟩
theorem act_its {z : Str} {ds : List PyData} (h : actB (.tuple (.str z :: ds)) = true) (s : ∀ d ∈ ds, ∀ i, d = .int i → i.natAbs < 10 ^ 500) : ∀ d ∈ PyData.str z :: ds, It d := fun d m => by
  obtain ⟨z', ds', ws, e, f, i⟩ := act_of h
  cases e
  rcases List.mem_cons.mp m with rfl | m
  · exact It.str ((form_gd f).le (by decide))
  · exact itzs i s d m
theorem act_lz {z : Str} {ds : List PyData} (h : actB (.tuple (.str z :: ds)) = true) (s : ∀ d ∈ ds, ∀ i, d = .int i → i.natAbs < 10 ^ 500) : Lz (.tuple (.str z :: ds)) :=
  lz_tup (act_its h s) (Nat.le_trans (act_flat h).1 (by decide))
theorem read_fact {z : Str} {r : PyData} (h : readP z = some r) : actB r = true ∧ actT r = z ∧ (z.length ≤ 480 → Lz r) ∧ ∃ ds, r = .tuple ds := by
  obtain ⟨k, ps, e⟩ := splitMax_ne z 3
  have e' : Txt.splitMax z (Str.ofString " ") 3 = k :: ps := e
  have es := splitMax_spl z 3
  rw [e] at es
  unfold readP at h
  rw [e'] at h
  simp only at h
  cases hf : formL k with
  | none =>
    rw [hf] at h
    cases h
  | some ws =>
    rw [hf] at h
    simp only at h
    split at h
    · rename_i hc
      cases h
      obtain ⟨l, ha⟩ := hc
      obtain ⟨z', ds', ws', e2, f2, hi⟩ := act_of ha
      cases e2
      rw [hf] at f2
      cases f2
      have hb := items_back hi l
      have js : joinL ((k :: ps).map sg) = sg z := by
        rw [es, join_spl]
        rfl
      refine ⟨ha, ?_, fun lz => act_lz ha fun d m i ei => ?_, _, rfl⟩
      · show Txt.join (Str.ofString " ") (k :: _) = z
        rw [hb]
        apply sg_inj
        rw [joinL_sg, js]
      · obtain ⟨⟨w0, p0⟩, mz, rfl⟩ := List.mem_map.mp m
        have mp : p0 ∈ ps := (List.of_mem_zip mz).2
        have lp : p0.length ≤ z.length := by
          rw [← sg_len, ← sg_len z, ← js]
          exact joinL_mem (List.mem_map.mpr ⟨p0, List.mem_cons_of_mem _ mp, rfl⟩)
        simp only at ei
        cases hk : k3 w0 with
        | num =>
          rw [hk] at ei
          unfold dItem at ei
          by_cases hn : numS p0 = true
          · simp only [hn, if_true] at ei
            cases ei
            have hd : (sg p0).all Fr.dig = true := by
              have : numL (sg p0) = true := by
                rw [← numS_eq]
                exact hn
              unfold numL at this
              simp only [Bool.and_eq_true] at this
              exact this.1.2
            have := num_lt' hd (B := 480) (by rw [sg_len]; omega)
            rw [Int.natAbs_natCast]
            exact Nat.lt_of_lt_of_le this (Nat.pow_le_pow_right (by decide) (by decide))
          · simp only [hn, if_false] at ei
            cases ei
        | cel =>
          rw [hk] at ei
          cases ei
        | txt =>
          rw [hk] at ei
          cases ei
    · cases h
theorem num_made {i : Int} (h : 0 ≤ i) : dItem .num (Str.ofString (toString i)) = .int i ∧ ∀ c ∈ sg (Str.ofString (toString i)), c ≠ 32 := by
  obtain ⟨n, rfl⟩ : ∃ n : Nat, i = (n : Int) := ⟨i.toNat, by omega⟩
  have hn : numS (Str.ofString (toString (n : Int))) = true := by
    show (Txt.isascii _ && (Txt.isdigit _ && _)) = true
    rw [numS_eq, nat_sg]
    exact numL_ok n
  refine ⟨?_, fun c hc => ?_⟩
  · unfold dItem
    simp only [hn, if_true]
    rw [nat_sg, num_digits]
  · rw [nat_sg] at hc
    have := digits_dig hc
    simp [Fr.dig] at this
    omega
theorem made {k : K3} {d : PyData} (h : itemB k d = true) : dItem k (txtD d) = d ∧ (k ≠ .txt → ∀ c ∈ sg (txtD d), c ≠ 32) := by
  cases k with
  | num =>
    cases d with
    | int i =>
      have h0 : 0 ≤ i := by simpa [itemB, cntB] using h
      exact ⟨(num_made h0).1, fun _ => (num_made h0).2⟩
    | _ => cases h
  | cel =>
    cases d with
    | str z =>
      refine ⟨rfl, fun _ c hc => ?_⟩
      have h' : celS z = true := h
      unfold celS at h'
      rw [alow] at h'
      simp only [Bool.and_eq_true, decide_eq_true_eq] at h'
      have := List.all_eq_true.mp h'.2.2 c hc
      simp [low] at this
      omega
    | _ => cases h
  | txt =>
    cases d with
    | str z => exact ⟨rfl, fun h => absurd rfl h⟩
    | _ => cases h
theorem form_cases {z : Str} {ws : List Str} (h : formL z = some ws) : (∀ c ∈ sg z, c ≠ 32) ∧ 1 ≤ z.length ∧ (ws = (["house"] : List Str) ∨ ws = (["index"] : List Str) ∨ ws = (["house", "count"] : List Str) ∨ ws = (["house", "cell", "text"] : List Str)) := by
  unfold formL at h
  obtain ⟨x, hx, rfl⟩ := Option.map_eq_some_iff.mp h
  have key : ∀ x ∈ forms, (∀ c ∈ sg x.1, c ≠ 32) ∧ 1 ≤ x.1.length ∧ (x.2 = (["house"] : List Str) ∨ x.2 = (["index"] : List Str) ∨ x.2 = (["house", "count"] : List Str) ∨ x.2 = (["house", "cell", "text"] : List Str)) := by decide +kernel
  have e : x.1 = z := by simpa using List.find?_some hx
  have := key x (List.mem_of_find?_eq_some hx)
  rw [e] at this
  exact this
theorem sgs_inj : ∀ {xs ys : List Str}, xs.map sg = ys.map sg → xs = ys
  | [], [], _ => rfl
  | [], _ :: _, h => by cases h
  | _ :: _, [], h => by cases h
  | x :: xs, y :: ys, h => by
    simp only [List.map_cons, List.cons.injEq] at h
    rw [sg_inj h.1, sgs_inj h.2]
theorem split_made (ws : List Str) (t : Str) (h : ∀ a ∈ ws, ∀ c ∈ sg a, c ≠ 32) (l : ws.length ≤ 3) (e : 3 = ws.length ∨ ∀ c ∈ sg t, c ≠ 32) : Txt.splitMax (Txt.join (Str.ofString " ") (ws ++ [t])) (Str.ofString " ") 3 = ws ++ [t] := by
  apply sgs_inj
  have := splitMax_spl (Txt.join (Str.ofString " ") (ws ++ [t])) 3
  rw [show ((3 : Nat) : Int) = 3 from rfl] at this
  rw [this, joinL_sg, List.map_append, List.map_singleton]
  refine spl_join _ _ _ (fun a ha c hc => ?_) (by simpa using l) (by simpa using e)
  obtain ⟨b, hb, rfl⟩ := List.mem_map.mp ha
  exact h b hb c hc
theorem len2 : ∀ {l : List PyData}, l.length = 2 → ∃ a b, l = [a, b]
  | [a, b], _ => ⟨a, b, rfl⟩
theorem len3 : ∀ {l : List PyData}, l.length = 3 → ∃ a b c, l = [a, b, c]
  | [a, b, c], _ => ⟨a, b, c, rfl⟩
theorem read_made {z : Str} {ds : List PyData} (h : actB (.tuple (.str z :: ds)) = true) : readP (actT (.tuple (.str z :: ds))) = some (.tuple (.str z :: ds)) := by
  obtain ⟨z', ds', ws, e, f, hi⟩ := act_of h
  cases e
  obtain ⟨z0, _, fc⟩ := form_cases f
  have fin : Txt.splitMax (actT (.tuple (.str z :: ds))) (Str.ofString " ") 3 = z :: ds.map txtD → ((ws.zip (ds.map txtD)).map fun p => dItem (k3 p.1) p.2) = ds → readP (actT (.tuple (.str z :: ds))) = some (.tuple (.str z :: ds)) := fun e1 e2 => by
    unfold readP
    rw [e1]
    simp only [f, e2]
    have hl : (ds.map txtD).length = ws.length := by
      rw [List.length_map]
      simp only [itemsB, Bool.and_eq_true, decide_eq_true_eq] at hi
      exact hi.1
    rw [if_pos ⟨hl, h⟩]
  have kh : k3 "house" = .num := by unfold k3; rw [if_neg (by decide +kernel), if_neg (by decide +kernel)]
  have ki : k3 "index" = .num := by unfold k3; rw [if_neg (by decide +kernel), if_neg (by decide +kernel)]
  have kc : k3 "count" = .num := by unfold k3; rw [if_neg (by decide +kernel), if_neg (by decide +kernel)]
  have kl : k3 "cell" = .cel := by unfold k3; rw [if_pos (by decide +kernel)]
  have kt : k3 "text" = .txt := by unfold k3; rw [if_neg (by decide +kernel), if_pos (by decide +kernel)]
  have hl : ds.length = ws.length := by
    simp only [itemsB, Bool.and_eq_true, decide_eq_true_eq] at hi
    exact hi.1
  have one : ∀ {w : Str} {d : PyData}, k3 w = .num → ds = [d] → itemsB [w] [d] = true → Txt.splitMax (actT (.tuple (.str z :: ds))) (Str.ofString " ") 3 = z :: ds.map txtD ∧ dItem (k3 w) (txtD d) = d := fun {w d} hw hd hi => by
    simp [itemsB, hw] at hi
    have m := made hi
    rw [hd, hw]
    exact ⟨split_made [z] (txtD d) (fun a ha => by
      simp only [List.mem_singleton] at ha
      rw [ha]
      exact z0) (by simp) (.inr (m.2 nofun)), m.1⟩
  rcases fc with rfl | rfl | rfl | rfl
  · obtain ⟨d, rfl⟩ := List.length_eq_one_iff.mp hl
    · skip
      have := one kh rfl hi
      refine fin this.1 ?_
      show [_] = [d]
      exact congrArg (fun x => [x]) this.2
  · obtain ⟨d, rfl⟩ := List.length_eq_one_iff.mp hl
    · skip
      have := one ki rfl hi
      refine fin this.1 ?_
      show [_] = [d]
      exact congrArg (fun x => [x]) this.2
  · obtain ⟨d1, d2, rfl⟩ := len2 hl
    · skip
      simp [itemsB, kh, kc] at hi
      have m1 := made hi.1
      have m2 := made hi.2
      refine fin (split_made [z, txtD d1] (txtD d2) (fun a ha => ?_) (by simp) (.inr (m2.2 nofun))) ?_
      · simp only [List.mem_cons, List.not_mem_nil, or_false] at ha
        rcases ha with rfl | rfl
        · exact z0
        · exact m1.2 nofun
      · show [dItem (k3 "house") (txtD d1), dItem (k3 "count") (txtD d2)] = [d1, d2]
        rw [kh, kc, m1.1, m2.1]
  · obtain ⟨d1, d2, d3, rfl⟩ := len3 hl
    · skip
      simp [itemsB, kh, kl, kt] at hi
      have m1 := made hi.1
      have m2 := made hi.2.1
      have m3 := made hi.2.2
      refine fin (split_made [z, txtD d1, txtD d2] (txtD d3) (fun a ha => ?_) (by simp) (.inl rfl)) ?_
      · simp only [List.mem_cons, List.not_mem_nil, or_false] at ha
        rcases ha with rfl | rfl | rfl
        · exact z0
        · exact m1.2 nofun
        · exact m2.2 nofun
      · show [dItem (k3 "house") (txtD d1), dItem (k3 "cell") (txtD d2), dItem (k3 "text") (txtD d3)] = [d1, d2, d3]
        rw [kh, kl, kt, m1.1, m2.1, m3.1]
theorem txt_gd {b : Nat} (hb : 21 ≤ b) {k : K3} {d : PyData} (h : itemB k d = true) (s : ∀ i, d = .int i → i.natAbs < 10 ^ b) : Gd (b + 19) (txtD d) := by
  cases k with
  | num =>
    cases d with
    | int i =>
      have h0 : 0 ≤ i := by simpa [itemB, cntB] using h
      refine ⟨?_, ?_⟩
      · show Asc (Str.ofString (toString i))
        obtain ⟨n, rfl⟩ : ∃ n : Nat, i = (n : Int) := ⟨i.toNat, by omega⟩
        intro c hc
        have : c ∈ sg (Str.ofString (toString (n : Int))) := hc
        rw [nat_sg] at this
        exact dig_lt (digits_dig this)
      · have h1 := int_text_length_le10 (a := i) (k := b) (by omega) (by have := s i rfl; omega)
        have e : (Str.ofString (toString i)).length = (toString i).length := ofString_length _
        show (Str.ofString (toString i)).length ≤ b + 19
        omega
    | _ => cases h
  | cel =>
    cases d with
    | str z =>
      have h' : celS z = true := h
      unfold celS at h'
      simp only [Bool.and_eq_true, decide_eq_true_eq] at h'
      exact ⟨(isascii_iff z).mp h'.2.1, Nat.le_trans h'.1 (by omega)⟩
    | _ => cases h
  | txt =>
    cases d with
    | str z =>
      have h' : (okS z && decide (z.length ≤ 40)) = true := h
      unfold okS at h'
      simp only [Bool.and_eq_true, decide_eq_true_eq] at h'
      exact ⟨(isascii_iff z).mp h'.1.1, Nat.le_trans h'.2 (by omega)⟩
    | _ => cases h
theorem txts_gd {b : Nat} (hb : 21 ≤ b) : ∀ {ws : List Str} {ds : List PyData}, itemsB ws ds = true → (∀ d ∈ ds, ∀ i, d = .int i → i.natAbs < 10 ^ b) → ∀ d ∈ ds, Gd (b + 19) (txtD d)
  | [], [], _, _, d, h => by cases h
  | [], _ :: _, h, _, _, _ => by simp [itemsB] at h
  | _ :: _, [], h, _, _, _ => by simp [itemsB] at h
  | w :: ws, x :: ds, h, s, d, m => by
    simp only [itemsB, List.length_cons, List.zip_cons_cons, List.all_cons, Bool.and_eq_true, decide_eq_true_eq] at h
    rcases List.mem_cons.mp m with rfl | m
    · exact txt_gd hb h.2.1 (s _ (by simp))
    · refine txts_gd hb (ws := ws) (ds := ds) ?_ (fun y hy => s y (by simp [hy])) d m
      simp only [itemsB, Bool.and_eq_true, decide_eq_true_eq]
      exact ⟨by omega, h.2.2⟩
theorem line_gdK {b : Nat} (hb : 21 ≤ b) {z : Str} {ds : List PyData} (h : actB (.tuple (.str z :: ds)) = true) (s : ∀ d ∈ ds, ∀ i, d = .int i → i.natAbs < 10 ^ b) : Gd (4 * b + 80) (actT (.tuple (.str z :: ds))) ∧ 1 ≤ (actT (.tuple (.str z :: ds))).length := by
  obtain ⟨z', ds', ws, e, f, hi⟩ := act_of h
  cases e
  have l4 := (act_flat h).1
  have all : ∀ p ∈ z :: ds.map txtD, Gd (b + 19) p := fun p hp => by
    rcases List.mem_cons.mp hp with rfl | hp
    · exact (form_gd f).le (by omega)
    · obtain ⟨d, m, rfl⟩ := List.mem_map.mp hp
      exact txts_gd hb hi s d m
  have l1 := (form_cases f).2.1
  refine ⟨⟨Asc.join fun p hp => (all p hp).a, ?_⟩, ?_⟩
  · have a := join_len (z :: ds.map txtD)
    have b' := join_bound (z :: ds.map txtD) (b + 19) fun p hp => (all p hp).l
    have c : (z :: ds.map txtD).length ≤ 4 := by
      rw [List.length_cons, List.length_map]
      simpa using l4
    have c2 : (b + 19) * (z :: ds.map txtD).length ≤ (b + 19) * 4 := Nat.mul_le_mul_left _ c
    show (Txt.join (Str.ofString " ") (z :: ds.map txtD)).length ≤ _
    omega
  · show 1 ≤ (Txt.join (Str.ofString " ") (z :: ds.map txtD)).length
    rw [← sg_len, joinL_sg]
    have := joinL_mem (l := (z :: ds.map txtD).map sg) (a := sg z) (by simp)
    rw [sg_len] at this
    omega
theorem line_gd {z : Str} {ds : List PyData} (h : actB (.tuple (.str z :: ds)) = true) (s : ∀ d ∈ ds, ∀ i, d = .int i → i.natAbs < 10 ^ 21) : Gd 200 (actT (.tuple (.str z :: ds))) ∧ 1 ≤ (actT (.tuple (.str z :: ds))).length :=
  ⟨(line_gdK (by decide) h s).1.le (by decide), (line_gdK (by decide) h s).2⟩
end K57


namespace K57
open PySem L2 Nv

/-- what is no line of an act -/
def odds (z : Str) (ad : PyData) : List PyData := [.none, .bool true, .int 0, .list [.str z], .tuple [.str z], .dict [(.str (Str.ofString "line"), .int 0)], ad, .list [], .str (Str.ofString ""), .str (Str.ofString " "), .str (Str.ofString "tick"), .str (Str.ofString "write 0 a")]
def spOdd : Sp := fun vs H Q _ => ∃ z a ad i, vs = [.str z, .ref a, .int i] ∧ 0 ≤ i ∧ i < 12 ∧ DV H (.ref a) ad ∧
  ∀ v d H', (odds z ad)[i.toNat]? = some d → DV H' v d → (isL d = true → ad = d ∨ ∃ q, v = .ref q ∧ H q = none) → Same H H' → Q v H'
section
variable {P : Program} {w : World} {K : PySem.W.Frag} {mg : Str → Option Value} {base : Heap}
theorem ok_l_odd (T : Tx K mg w.params) : FnG P w K mg base 1 T.d_l_odd.f T.d_l_odd.fd ["_law_line_here", "_law_act_here", "_law_which"] spOdd := by
  refine okG0 T.d_l_odd.F sc_l_odd (fun vs H Q E h => ?_) (fun cdv A outer s H vs Q E hg hr h => ?_)
  · obtain ⟨z, a, ad, i, rfl, _⟩ := h
    rfl
  obtain ⟨z, a, ad, i, rfl, i0, i1, hd, k⟩ := h
  have sz : sizeLine = 16777216 := sizeLine_eq
  refine ⟨_, (pss_one (ps_ret (pe_ix ix_list (pe_lst1 (pa_cons pe_non (pa_cons pe_bl (pa_cons pe_int (pa_cons (pe_lst1 (pa_cons (pv 0) pa_nil)) (pa_cons (pe_tup (pa_cons (pv 0) pa_nil)) (pa_cons (pe_disp (pps_cons pe_str pe_int pps_nil) (by rfl) (by rfl) (fun z => by cases z) (by decide)) (pa_cons (pv 1) (pa_cons (pe_lst1 pa_nil) (pa_cons pe_str (pa_cons pe_str (pa_cons pe_str (pa_cons pe_str pa_nil))))))))))))) (pv 2) (fun _ _ => rfl)))), ?_⟩
  dsimp only [tRet, tOp, tCons, tC, tNil, tUn, tLst1, tTup, tDisp, tVar, gName, rU, tPairs]
  refine ⟨_, rfl, by rw [sz]; simp, fun p1 h1 n1 => ?_⟩
  obtain ⟨G1, e1, S1, f1⟩ := gen_new (.lst [V.str z]) h1
  rw [e1]
  refine ⟨_, rfl, by rw [sz]; simp, fun p2 h2 p3 h3 => ?_⟩
  obtain ⟨G2, e2, S2, f2⟩ := gen_new (.tup [V.str z]) h2
  rw [e2] at h3 ⊢
  refine ⟨upd_same, [(.inr (Str.ofString "line"), .int 0)], rfl, by decide, _, rfl, by rw [sz]; simp, ?_⟩
  rw [show mergeK [] [(.inr (Str.ofString "line"), .int 0)] = [(.inr (Str.ofString "line"), V.int 0)] from rfl, upd_upd]
  obtain ⟨G3, e3, S3, f3⟩ := gen_new (.dK [(.inr (Str.ofString "line"), V.int 0)]) h3
  rw [e3]
  intro p4 h4 n4
  obtain ⟨G4, e4, S4, f4⟩ := gen_new (.lst []) h4
  rw [e4]
  refine ⟨by rw [sz]; simp only [List.length_cons, List.length_nil]; omega, fun m hm nm => ⟨_, rfl, ?_⟩⟩
  obtain ⟨G5, e5, S5, f5⟩ := gen_new (.lst [V.non, V.bl true, V.int 0, V.ref p1, V.ref p2, V.ref p3, V.ref a, V.ref p4, V.str (Str.ofString ""), V.str (Str.ofString " "), V.str (Str.ofString "tick"), V.str (Str.ofString "write 0 a")]) hm
  rw [e5]
  have S45 := S4.trans S5
  have S35 := S3.trans S45
  have S25 := S2.trans S35
  have S15 := S1.trans S25
  obtain ⟨j, rfl⟩ : ∃ j : Nat, i = (j : Int) := ⟨i.toNat, by omega⟩
  have k' : ∀ {v : V} {d : PyData}, ([V.non, V.bl true, V.int 0, V.ref p1, V.ref p2, V.ref p3, V.ref a, V.ref p4, V.str (Str.ofString ""), V.str (Str.ofString " "), V.str (Str.ofString "tick"), V.str (Str.ofString "write 0 a")] : List V)[j]? = some v → (odds z ad)[j]? = some d → DV G5 v d → (isL d = true → ad = d ∨ ∃ q, v = .ref q ∧ H q = none) → rIxL K (V.ref m) (V.int (j : Int)) G5 Q := fun e1 e2 h1 h2 => r_ixL (.of f5) (atI_nat e1) (k _ _ _ e2 h1 h2 S15)
  have jj : j = 0 ∨ j = 1 ∨ j = 2 ∨ j = 3 ∨ j = 4 ∨ j = 5 ∨ j = 6 ∨ j = 7 ∨ j = 8 ∨ j = 9 ∨ j = 10 ∨ j = 11 := by omega
  rcases jj with rfl | rfl | rfl | rfl | rfl | rfl | rfl | rfl | rfl | rfl | rfl | rfl
  · exact k' rfl rfl .non fun h => by cases h
  · exact k' rfl rfl (.bl _) fun h => by cases h
  · exact k' rfl rfl (.int _) fun h => by cases h
  · exact k' rfl rfl (.lst (S25 _ _ f1) n1 (.cons (.str z) .nil)) fun _ => .inr ⟨p1, rfl, h1⟩
  · exact k' rfl rfl (.tup (S35 _ _ f2) (.cons (.str z) .nil)) fun h => by cases h
  · exact k' rfl rfl (.dct (S45 _ _ f3) (.cons (.int 0) .nil)) fun h => by cases h
  · exact k' rfl rfl (hd.mono S15) fun _ => .inl rfl
  · exact k' rfl rfl (.lst (S5 _ _ f4) n4 .nil) fun _ => .inr ⟨p4, rfl, none_of ((S1.trans S2).trans S3) h4⟩
  · exact k' rfl rfl (.str _) fun h => by cases h
  · exact k' rfl rfl (.str _) fun h => by cases h
  · exact k' rfl rfl (.str _) fun h => by cases h
  · exact k' rfl rfl (.str _) fun h => by cases h
end
theorem odd_ok {z : Str} {ad d : PyData} {j : Nat} (gz : Gd 200 z) (ha : Lz ad) (ta : ∃ ds, ad = .tuple ds) (h : (odds z ad)[j]? = some d) :
    Lz d ∧ readD d = none ∧ (j ≠ 6 → actB d = false) ∧ (∀ y, d = .str y → y.length ≤ 500) ∧ (isL d = true → ad ≠ d) := by
  obtain ⟨ads, rfl⟩ := ta
  have jj : j = 0 ∨ j = 1 ∨ j = 2 ∨ j = 3 ∨ j = 4 ∨ j = 5 ∨ j = 6 ∨ j = 7 ∨ j = 8 ∨ j = 9 ∨ j = 10 ∨ j = 11 := by
    have := (List.getElem?_eq_some_iff.mp h).1
    have : (odds z (.tuple ads)).length = 12 := rfl
    omega
  have st : ∀ y : Str, Gd 100 y → Lz (.str y) := fun y g => ⟨⟨fun z e => (by cases e; exact ⟨g.a, Nat.le_trans g.l (by decide)⟩), fun ds e => (by cases e)⟩, fun ds e => (by cases e), ⟨(SB.str g.a).le (Nat.le_trans g.l (by decide)) (Nat.le_refl _), fun ds e => (by cases e)⟩⟩
  have rs : ∀ y : Str, readP y = none → readD (.str y) = none := fun y h => h
  rcases jj with rfl | rfl | rfl | rfl | rfl | rfl | rfl | rfl | rfl | rfl | rfl | rfl
  · cases h
    exact ⟨⟨⟨nofun, nofun⟩, nofun, ⟨SB.non, nofun⟩⟩, rfl, fun _ => rfl, nofun, nofun⟩
  · cases h
    exact ⟨⟨⟨nofun, nofun⟩, nofun, ⟨SB.bl _, nofun⟩⟩, rfl, fun _ => rfl, nofun, nofun⟩
  · cases h
    exact ⟨⟨⟨nofun, nofun⟩, nofun, ⟨(SB.int (by decide +kernel)).le (by decide) (Nat.le_refl _), nofun⟩⟩, rfl, fun _ => rfl, nofun, nofun⟩
  · cases h
    have m1 : SB 4 9 (.str "more") := (SB.str (z := "more") (asc_of (by decide +kernel))).le (by decide +kernel) (Nat.le_refl _)
    have g1 : SB 200 9 (.str z) := (SB.str gz.a).le gz.l (Nat.le_refl _)
    refine ⟨⟨⟨nofun, nofun⟩, nofun, ⟨(SB.list (SBs.cons g1 (SBs.nil (W := 0)))).le (by decide) (by decide), fun ds e => ?_⟩⟩, rfl, fun _ => rfl, nofun, fun _ => nofun⟩
    · cases e
      refine ⟨(SB.list (SBs.cons g1 (SBs.cons m1 (SBs.nil (W := 0))))).le (by decide) (by decide), by simp, fun x m => ?_⟩
      simp only [List.mem_singleton] at m
      rw [m]
      rfl
  · cases h
    have g1 : SB 200 9 (.str z) := (SB.str gz.a).le gz.l (Nat.le_refl _)
    refine ⟨⟨⟨nofun, fun ds e y m => ?_⟩, fun ds e i m => ?_, ⟨(SB.tuple (SBs.cons g1 (SBs.nil (W := 0)))).le (by decide) (by decide), nofun⟩⟩, rfl, fun _ => ?_, nofun, nofun⟩
    · cases e
      simp only [List.mem_singleton, PyData.str.injEq] at m
      rw [m]
      exact ⟨gz.a, Nat.le_trans gz.l (by decide)⟩
    · cases e
      simp at m
    · show (match formL z with | some ws => itemsB ws [] | none => false) = false
      cases hf : formL z with
      | none => rfl
      | some ws =>
        have := (formL_len hf).1
        cases ws with
        | nil => simp at this
        | cons a b => rfl
  · cases h
    exact ⟨⟨⟨nofun, nofun⟩, nofun, ⟨⟨by decide +kernel, by decide +kernel, by decide +kernel, by decide +kernel⟩, nofun⟩⟩, rfl, fun _ => rfl, nofun, nofun⟩
  · cases h
    exact ⟨ha, rfl, fun h => absurd rfl h, nofun, nofun⟩
  · cases h
    have m1 : SB 4 9 (.str "more") := (SB.str (z := "more") (asc_of (by decide +kernel))).le (by decide +kernel) (Nat.le_refl _)
    refine ⟨⟨⟨nofun, nofun⟩, nofun, ⟨(SB.list (SBs.nil (W := 0) (D := 0))).le (by decide) (by decide), fun ds e => ?_⟩⟩, rfl, fun _ => rfl, nofun, fun _ => nofun⟩
    cases e
    exact ⟨(SB.list (SBs.cons m1 (SBs.nil (W := 0)))).le (by decide) (by decide), by simp, fun x m => (by cases m)⟩
  · cases h
    exact ⟨st _ ⟨asc_of (by decide +kernel), by decide +kernel⟩, rs _ (by decide +kernel), fun _ => rfl, fun y e => (by cases e; decide +kernel), nofun⟩
  · cases h
    exact ⟨st _ ⟨asc_of (by decide +kernel), by decide +kernel⟩, rs _ (by decide +kernel), fun _ => rfl, fun y e => (by cases e; decide +kernel), nofun⟩
  · cases h
    exact ⟨st _ ⟨asc_of (by decide +kernel), by decide +kernel⟩, rs _ (by decide +kernel), fun _ => rfl, fun y e => (by cases e; decide +kernel), nofun⟩
  · cases h
    exact ⟨st _ ⟨asc_of (by decide +kernel), by decide +kernel⟩, rs _ (by decide +kernel), fun _ => rfl, fun y e => (by cases e; decide +kernel), nofun⟩
end K57


namespace K57
open PySem L2 Nv

theorem for_rngC {k : Int} {g : TG} {tb : TS} {D : Ends} {σ : L2.St} {H : Hp} (h0 : -2 ^ 62 ≤ k) (h1 : k < 2 ^ 62) (Pv : Nat → L2.St → Hp → Prop) (a : Pv 0 σ H)
    (b : ∀ (i : Nat) (σ : L2.St) (H : Hp), i < k.toNat → Pv i σ H → g (V.int (0 + (i : Int))) σ H fun σ2 H2 => tb { nx := Pv (i + 1), rt := D.rt, bk := D.nx, ct := Pv (i + 1) } σ2 H2)
    (c : ∀ (σ : L2.St) (H : Hp), Pv k.toNat σ H → D.nx σ H) : tFor (iRng1 (tCons (tC (V.int k)) tNil)) g tb D σ H :=
  ⟨k, rfl, h0, h1, for_range Pv a b c⟩
/-- an item made great -/
def dgr : PyData → PyData
  | .int i => .int (10 ^ 19 + i)
  | d => d
theorem item_dgr {k : K3} {d : PyData} (h : itemB k d = true) : itemB k (dgr d) = true := by
  cases k with
  | num =>
    cases d with
    | int i =>
      have h0 : 0 ≤ i := by simpa [itemB, cntB] using h
      show decide (0 ≤ 10 ^ 19 + i) = true
      rw [decide_eq_true_eq]
      omega
    | _ => cases h
  | cel =>
    cases d with
    | str z => exact h
    | _ => cases h
  | txt =>
    cases d with
    | str z => exact h
    | _ => cases h
theorem items_dgr : ∀ {ws : List Str} {ds : List PyData}, itemsB ws ds = true → itemsB ws (ds.map dgr) = true
  | [], [], _ => rfl
  | [], _ :: _, h => by simp [itemsB] at h
  | _ :: _, [], h => by simp [itemsB] at h
  | w :: ws, x :: ds, h => by
    have ih := items_dgr (ws := ws) (ds := ds)
    simp only [itemsB, List.map_cons, List.length_map, List.length_cons, List.zip_cons_cons, List.all_cons, Bool.and_eq_true, decide_eq_true_eq] at h ih ⊢
    have := ih ⟨by omega, h.2.2⟩
    exact ⟨h.1, item_dgr h.2.1, this.2⟩
theorem act_dgr {z : Str} {ds : List PyData} (h : actB (.tuple (.str z :: ds)) = true) : actB (.tuple (.str z :: ds.map dgr)) = true := by
  obtain ⟨z', ds', ws, e, f, hi⟩ := act_of h
  cases e
  show (match formL z with | some ws => itemsB ws (ds.map dgr) | none => false) = true
  rw [f]
  exact items_dgr hi
theorem mk_str {z : Str} (a : Asc z) (l : z.length ≤ 15000) : Mk2 (.str z) := ⟨(SB.str a).le (Nat.le_trans l (by decide)) (Nat.le_refl _), fun ds e => by cases e⟩
theorem keep_same {d : PyData} {v : V} {H H' : Hp} (h : isL d = false) (k : KeepV d v H H') : Same H H' := fun a o ha => k a o (fun e => by rw [h] at e; cases e) ha
theorem box_of {H H' : Hp} {p : Addr} {N : Nat} (h : BoxAt H p N) (k : ∀ o, H p = some o → H' p = some o) : BoxAt H' p N := by
  obtain ⟨n, b, m, c, h, r⟩ := h
  exact ⟨n, b, m, c, k _ h, r⟩
theorem r_ne_strs {K : PySem.W.Frag} {H : Hp} {Q : VK} {D p : Addr} {l : List Str} (h : ∀ z ∈ l, Asc z) (hD : H D = some (.lst (l.map V.str))) (hp : H p = some (.lst (l.map V.str))) (q : Q (.bl false) H) : rNeD K (.ref D) (.ref p) H Q :=
  ⟨_, _, .lst (.of hD) (dp_strs l), .lst (.of hp) (dp_strs l), shaped_strs l h, shaped_strs l h, by
    rw [SeqAt.eqv_refl _ (Ft.list (strs_ft l h)).c]
    exact q⟩
theorem dv_list_ref {H : Hp} {v : V} {d : PyData} (h : DV H v d) (l : isL d = true) : ∃ q o, v = .ref q ∧ H q = some o := by
  cases h with
  | lst h _ _ => exact ⟨_, _, rfl, h⟩
  | _ => cases l
theorem keep_from {d : PyData} {v : V} {H H1 H2 : Hp} (S : Same H H1) (k : KeepV d v H1 H2) : KeepV d v H H2 := fun a o n h => k a o n (S _ _ h)
theorem same_keep {F0 F1 F' : Hp} {v : V} {d : PyData} (nl : isL d = true → ∃ q, v = .ref q ∧ F0 q = none) (S : Same F0 F1) (k : KeepV d v F1 F') : Same F0 F' := fun b o ho => k _ _ (fun il e => by
  obtain ⟨q, e1, e2⟩ := nl il
  rw [e1] at e
  cases e
  rw [ho] at e2
  cases e2) (S _ _ ho)
/-- the line of a value, or its refusal -/
theorem asked_ok {F : Hp} {v : V} {d : PyData} {t : Int} {R : Hp → Prop} {QF : Hp → Prop} {E1 E2 E3 E4 E5 : XK} (dv : DV F v d) (lz : Lz d) (k : ∀ H', KeepV d v F H' → R H') :
    spLn [v, .int t] F (fun x5 H1 => spJX actB [v] H1 (fun x6 H1 => ∃ c, x6 = V.bl c ∧
      if c = true then spWr [v] H1 (fun x7 H1 => 0 + 1 + 1 ≤ sizeLine ∧ ∀ p2 : Addr, H1 p2 = none → p2 ≠ sysModules → spSame [x5, V.ref p2] (upd H1 p2 (HO.lst [V.str (Str.ofString "line"), x7])) (fun x H1 => ∃ c, x = V.bl c ∧ if c = false then QF H1 else (∃ x, some x5 = x) ∧ R H1) E1) E2
      else 0 + 1 + 1 ≤ sizeLine ∧ ∀ p2 : Addr, H1 p2 = none → p2 ≠ sysModules → spSame [x5, V.ref p2] (upd H1 p2 (HO.lst [V.str (Str.ofString "no act"), v])) (fun x H1 => ∃ c, x = V.bl c ∧ if c = false then QF H1 else (∃ x, some x5 = x) ∧ R H1) E3) E4) E5 := by
  have sz : sizeLine = 16777216 := sizeLine_eq
  refine ⟨v, d, t, rfl, dv, lz.a.lens, lz.b, fun e r G1 hr nr T1 fr => ?_, fun e r G1 hr nr T1 fr => ?_⟩
  · refine ⟨v, d, rfl, dv.mono T1, lz.a, fun G2 T2 => ⟨false, by rw [e], ?_⟩⟩
    rw [if_neg (by decide)]
    refine ⟨by rw [sz]; decide, fun q hq nq => ?_⟩
    obtain ⟨G3, e3, T3, fq⟩ := gen_new (.lst [V.str (Str.ofString "no act"), v]) hq
    rw [e3]
    have T03 := (T1.trans T2).trans T3
    refine ⟨r, q, Str.ofString "no act", v, v, d, rfl, T3 _ _ (T2 _ _ fr), fq, nr, nq, asc_of (by decide +kernel), by decide +kernel, dv.mono T03, dv.mono T03, lz.m, fun il => ?_, fun G4 K4 => ⟨true, rfl, ?_⟩⟩
    · obtain ⟨b, o, rfl, hb⟩ := dv_list_ref dv il
      refine ⟨rfl, fun e => ?_, fun e => ?_⟩
      · cases e
        rw [hr] at hb
        cases hb
      · cases e
        rw [T2 _ _ (T1 _ _ hb)] at hq
        cases hq
    · rw [if_neg (by decide)]
      exact ⟨⟨_, rfl⟩, k _ (keep_from T03 K4)⟩
  · obtain ⟨z, ds, ws, rfl, _, _⟩ := act_of e
    refine ⟨v, _, rfl, dv.mono T1, lz.a, fun G2 T2 => ⟨true, by rw [e], ?_⟩⟩
    rw [if_pos rfl]
    refine ⟨v, _, rfl, dv.mono (T1.trans T2), lz.a.lens, lz.b, e, fun G3 T3 => ⟨by rw [sz]; decide, fun q hq nq => ?_⟩⟩
    obtain ⟨G4, e4, T4, fq⟩ := gen_new (.lst [V.str (Str.ofString "line"), V.str (actT (.tuple (.str z :: ds)))]) hq
    rw [e4]
    have gl := (line_gdK (b := 500) (by decide) e fun d m i e => lz.b _ rfl i (List.mem_cons_of_mem _ (e ▸ m))).1
    refine ⟨r, q, Str.ofString "line", _, _, _, rfl, T4 _ _ (T3 _ _ (T2 _ _ fr)), fq, nr, nq, asc_of (by decide +kernel), by decide +kernel, .str _, .str _, mk_str gl.a (Nat.le_trans gl.l (by decide)), fun il => (by cases il), fun G5 K5 => ⟨true, rfl, ?_⟩⟩
    rw [if_neg (by decide)]
    refine ⟨⟨_, rfl⟩, k _ fun b o n h => ?_⟩
    exact keep_same rfl K5 _ _ (T4 _ _ (T3 _ _ (T2 _ _ (T1 _ _ h))))
def spRight : Sp := fun vs H Q _ => ∃ p N, vs = [.ref p] ∧ BoxAt H p N ∧ N ≤ 100 ∧ ∀ H', Ext1 p H H' → Q (.bl true) H'
section
variable {P : Program} {w : World} {K : PySem.W.Frag} {mg : Str → Option Value} {base : Heap}
theorem ok_l_right (T : Tx K mg w.params) : FnG P w K mg base 8 T.d_l_right.f T.d_l_right.fd ["_law_box_here"] spRight := by
  refine okG0 T.d_l_right.F sc_l_right (fun vs H Q E h => ?_) (fun cdv A outer s H vs Q E hg hr h => ?_)
  · obtain ⟨p, N, rfl, _⟩ := h
    rfl
  obtain ⟨p, N, rfl, hB, hN, k⟩ := h
  have sz : sizeLine = 16777216 := sizeLine_eq
  refine ⟨_, (pss_cons (ps_set (i := 1) sc_l_right.nd rfl (Or.inl rfl) (pe_cG (ok_l_take T) T.d_l_take.b takes0 hg (hr.mono (by decide)) T.d_l_take.m T.d_l_take.F.kp (pa_cons (pv 0) (pa_cons pe_int pa_nil))))
    (pss_cons (ps_set (i := 2) sc_l_right.nd rfl (Or.inl rfl) (pe_cG (ok_l_act T) T.d_l_act.b takes0 hg (hr.mono (by decide)) T.d_l_act.m T.d_l_act.F.kp (pa_cons (pv 0) pa_nil)))
    (pss_cons (ps_set (i := 3) sc_l_right.nd rfl (Or.inl rfl) (pe_cG (ok_l_written T) T.d_l_written.b takes0 hg (hr.mono (by decide)) T.d_l_written.m T.d_l_written.F.kp (pa_cons (pv 2) pa_nil)))
    (pss_cons (ps_set (i := 4) sc_l_right.nd rfl (Or.inl rfl) (pe_callTy call_tuple_of (by rfl) T.n_tuple (by decide +kernel) (pa_cons (pe_lc (own := [("_law_item_here", 5)]) (g := gName 5) (tt := tYes) rfl sc_l_right.nd (pi_tup (pv 2)) (blkOk_by (N := ["_law_box_here", "_law_turn", "_law_act_here", "_law_line_here", "_law_great", "_law_item_here", "_law_one", "_law_text", "_law_k", "_law_bad", "_law_wrong", "_law_due", "_law_told_here", "_law_asked", "_law_which", "_law_odd_here", "_law_other"]) (sc := defScope s_l_right) (by decide +kernel)) (fun _ _ _ _ _ => pg_name (i := 5) sc_l_right.nd rfl (Or.inl rfl)) (fun _ _ _ _ _ => pts_nil) (fun _ _ _ _ _ => (pe_ifExp (pt_val (pe_cG (ok_l_is_number T) T.d_l_is_number.b takes0 hg (hr.mono (by decide)) T.d_l_is_number.m T.d_l_is_number.F.kp (pa_cons (pv 5) pa_nil))) (pe_op op_add (pe_op op_pow pe_int pe_int) (pv 5)) (pv 5)))) pa_nil)))
    (pss_cons (ps_for PassesOwn.never rfl (pi_list (pe_lst1 (pa_cons (pv 2) (pa_cons (pv 4) pa_nil)))) (pg_name (i := 6) sc_l_right.nd rfl (Or.inl rfl))
      (pss_cons (ps_set (i := 7) sc_l_right.nd rfl (Or.inl rfl) (pe_cG (ok_l_written T) T.d_l_written.b takes0 hg (hr.mono (by decide)) T.d_l_written.m T.d_l_written.F.kp (pa_cons (pv 6) pa_nil)))
      (pss_one (ps_if (PW.pt (pw_or (pt_not (pt_val (pe_cG (ok_l_same T) T.d_l_same.b takes0 hg (hr.mono (by decide)) T.d_l_same.m T.d_l_same.F.kp (pa_cons (pe_cG (ok_l_line T) T.d_l_line.b takes0 hg (hr.mono (by decide)) T.d_l_line.m T.d_l_line.F.kp (pa_cons (pv 6) (pa_cons (pv 1) pa_nil))) (pa_cons (pe_lst1 (pa_cons pe_str (pa_cons (pv 7) pa_nil))) pa_nil))))) (pw_or1 (pt_not (pt_val (pe_cG (ok_l_same T) T.d_l_same.b takes0 hg (hr.mono (by decide)) T.d_l_same.m T.d_l_same.F.kp (pa_cons (pe_cG (ok_l_told T) T.d_l_told.b takes0 hg (hr.mono (by decide)) T.d_l_told.m T.d_l_told.F.kp (pa_cons (pv 7) (pa_cons (pe_op op_sub pe_int (pv 1)) pa_nil))) (pa_cons (pe_lst1 (pa_cons pe_str (pa_cons (pv 6) pa_nil))) pa_nil))))))))
        (pss_one (ps_ret pe_bl))
        pss_nil))))
    (pss_cons (ps_for PassesOwn.never rfl (pi_range1 (by rfl) T.n_range (pa_cons pe_int pa_nil)) (pg_name (i := 8) sc_l_right.nd rfl (Or.inl rfl))
      (pss_cons (ps_par (i := 9) (j := 10) rfl sc_l_right.nd rfl rfl (by decide) rfl rfl (pa_cons (pe_cG (ok_l_spoilt_line T) T.d_l_spoilt_line.b takes0 hg (hr.mono (by decide)) T.d_l_spoilt_line.m T.d_l_spoilt_line.F.kp (pa_cons (pv 0) (pa_cons (pv 3) pa_nil))) (pa_cons (pe_cG (ok_l_spoilt_act T) T.d_l_spoilt_act.b takes0 hg (hr.mono (by decide)) T.d_l_spoilt_act.m T.d_l_spoilt_act.F.kp (pa_cons (pv 0) (pa_cons (pv 2) pa_nil))) pa_nil)) (by rfl))
      (pss_cons (ps_set (i := 11) sc_l_right.nd rfl (Or.inl rfl) (pe_cG (ok_l_read T) T.d_l_read.b takes0 hg (hr.mono (by decide)) T.d_l_read.m T.d_l_read.F.kp (pa_cons (pv 9) pa_nil)))
      (pss_cons (ps_set (i := 12) sc_l_right.nd rfl (Or.inl rfl) (pe_cG (ok_l_told T) T.d_l_told.b takes0 hg (hr.mono (by decide)) T.d_l_told.m T.d_l_told.F.kp (pa_cons (pv 9) (pa_cons (pe_op op_modN (pe_op op_add (pv 8) (pv 1)) pe_int) pa_nil))))
      (pss_cons (ps_if (pt_not (pt_val (pe_cG (ok_l_same T) T.d_l_same.b takes0 hg (hr.mono (by decide)) T.d_l_same.m T.d_l_same.F.kp (pa_cons (pv 12) (pa_cons (pe_ifExp (pt_cmpR op_isN (pv 11) pe_non (nomark _)) (pe_lst1 (pa_cons pe_str (pa_cons (pv 9) pa_nil))) (pe_lst1 (pa_cons pe_str (pa_cons (pv 11) pa_nil)))) pa_nil)))))
        (pss_one (ps_ret pe_bl))
        pss_nil)
      (pss_cons (ps_if (PW.pt (pw_and (pt_cmpR op_notN (pv 11) pe_non (nomark _)) (pw_and1 (pt_cmpR (op_neD hr.units) (pe_cG (ok_l_line T) T.d_l_line.b takes0 hg (hr.mono (by decide)) T.d_l_line.m T.d_l_line.F.kp (pa_cons (pe_ix ix_list (pv 12) pe_int (fun _ _ => rfl)) (pa_cons (pv 1) pa_nil))) (pe_lst1 (pa_cons pe_str (pa_cons (pv 9) pa_nil))) (nomark _)))))
        (pss_one (ps_ret pe_bl))
        pss_nil)
      (pss_cons (ps_set (i := 13) sc_l_right.nd rfl (Or.inl rfl) (pe_cG (ok_l_line T) T.d_l_line.b takes0 hg (hr.mono (by decide)) T.d_l_line.m T.d_l_line.F.kp (pa_cons (pv 10) (pa_cons (pe_op op_modN (pe_op op_add (pv 8) (pv 1)) pe_int) pa_nil))))
      (pss_one (ps_if (pt_not (pt_val (pe_cG (ok_l_same T) T.d_l_same.b takes0 hg (hr.mono (by decide)) T.d_l_same.m T.d_l_same.F.kp (pa_cons (pv 13) (pa_cons (pe_ifExp (pt_val (pe_cG (ok_l_is_act T) T.d_l_is_act.b takes0 hg (hr.mono (by decide)) T.d_l_is_act.m T.d_l_is_act.F.kp (pa_cons (pv 10) pa_nil))) (pe_lst1 (pa_cons pe_str (pa_cons (pe_cG (ok_l_written T) T.d_l_written.b takes0 hg (hr.mono (by decide)) T.d_l_written.m T.d_l_written.F.kp (pa_cons (pv 10) pa_nil)) pa_nil))) (pe_lst1 (pa_cons pe_str (pa_cons (pv 10) pa_nil)))) pa_nil)))))
        (pss_one (ps_ret pe_bl))
        pss_nil)))))))))
    (pss_cons (ps_set (i := 14) sc_l_right.nd rfl (Or.inl rfl) (pe_cG (ok_l_take T) T.d_l_take.b takes0 hg (hr.mono (by decide)) T.d_l_take.m T.d_l_take.F.kp (pa_cons (pv 0) (pa_cons pe_int pa_nil))))
    (pss_cons (ps_par (i := 15) (j := 16) rfl sc_l_right.nd rfl rfl (by decide) rfl rfl (pa_cons (pe_cG (ok_l_odd T) T.d_l_odd.b takes0 hg (hr.mono (by decide)) T.d_l_odd.m T.d_l_odd.F.kp (pa_cons (pv 3) (pa_cons (pv 2) (pa_cons (pv 14) pa_nil)))) (pa_cons (pe_cG (ok_l_odd T) T.d_l_odd.b takes0 hg (hr.mono (by decide)) T.d_l_odd.m T.d_l_odd.F.kp (pa_cons (pv 3) (pa_cons (pv 2) (pa_cons (pv 14) pa_nil)))) pa_nil)) (by rfl))
    (pss_cons (ps_if (pt_not (pt_val (pe_cG (ok_l_same T) T.d_l_same.b takes0 hg (hr.mono (by decide)) T.d_l_same.m T.d_l_same.F.kp (pa_cons (pe_cG (ok_l_told T) T.d_l_told.b takes0 hg (hr.mono (by decide)) T.d_l_told.m T.d_l_told.F.kp (pa_cons (pv 15) (pa_cons (pv 1) pa_nil))) (pa_cons (pe_lst1 (pa_cons pe_str (pa_cons (pv 15) pa_nil))) pa_nil)))))
      (pss_one (ps_ret pe_bl))
      pss_nil)
    (pss_one (ps_ret (pe_or (pe_cmpR op_eq (pv 14) pe_int (nomark _)) (pe_one (pe_cG (ok_l_same T) T.d_l_same.b takes0 hg (hr.mono (by decide)) T.d_l_same.m T.d_l_same.F.kp (pa_cons (pe_cG (ok_l_line T) T.d_l_line.b takes0 hg (hr.mono (by decide)) T.d_l_line.m T.d_l_line.F.kp (pa_cons (pv 16) (pa_cons (pv 1) pa_nil))) (pa_cons (pe_lst1 (pa_cons pe_str (pa_cons (pv 16) pa_nil))) pa_nil)))))))))))))))), ?_⟩
  walk_at "rd"
  refine ⟨p, 2, N, rfl, hB, by omega, by decide, by decide, fun t H1 t0 t1 hB1 E1 => ?_⟩
  refine ⟨p, _, rfl, hB1, by omega, fun z ds a H2 ea sm na fa hB2 E2 => ?_⟩
  have E02 := ext_trans E1 E2
  have ap : a ≠ p := hB1.ne na
  have fl := act_flat ea
  have l3 : ds.length ≤ 3 := by
    have := fl.1
    simp only [List.length_cons] at this
    omega
  have sm21 : ∀ d ∈ ds, ∀ i, d = PyData.int i → i.natAbs < 10 ^ 21 := fun d m i e => by
    have := sm d m i e
    omega
  have sm500 : ∀ {es : List PyData}, (∀ d ∈ es, ∀ i, d = PyData.int i → i.natAbs < 10 ^ 21) → ∀ d ∈ es, ∀ i, d = PyData.int i → i.natAbs < 10 ^ 500 := fun h d m i e =>
    Nat.lt_of_lt_of_le (h d m i e) (by decide +kernel)
  have dvs : ∀ {G : Hp} (es : List PyData), (∀ d ∈ es, flat2 d = true) → DVs G (es.map fv) es := fun es => by
    induction es with
    | nil => exact fun _ => .nil
    | cons e es ih => exact fun h => .cons (fv_dv (h e (by simp))) (ih fun d m => h d (by simp [m]))
  have fds : ∀ d ∈ ds, flat2 d = true := fun d m => fl.2 d (by simp [m])
  have dvA : ∀ {G : Hp}, G a = some (.tup (.str z :: ds.map fv)) → DV G (.ref a) (.tuple (.str z :: ds)) := fun h => .tup h (.cons (.str z) (dvs ds fds))
  have lzA := act_lz ea (sm500 sm21)
  have lnA := line_gd ea sm21
  refine ⟨_, _, rfl, dvA fa, lzA.a.lens, lzA.b, ea, fun H3 S3 => ?_⟩
  have fa3 := S3 _ _ fa
  refine ⟨_, rfl, ?_⟩
  refine ⟨a, rfl, ⟨_, SqT.of fa3⟩, fun D hD => ?_⟩
  have dvA3 : DVs H3 (.str z :: ds.map fv) (.str z :: ds) := .cons (.str z) (dvs ds fds)
  refine lc_flat walk_tup ((PyData.str z :: ds).map fun d => fv (dgr d)) hD (by simp) (by simp; omega) (fun H' S => SqT.of (S _ _ fa3)) ?_ ?_
  · rintro i x y Ha Hb R hy S ⟨rfl, hx⟩ kR
    obtain ⟨d, hd, dv⟩ := dvs_get dvA3 hx
    rw [List.getElem?_map, hd] at hy
    cases hy
    refine ⟨rfl, ?_⟩
    walk_at "rd"
    have mem := List.mem_of_getElem? hd
    rcases flat_txt dv (fl.2 d mem) with ⟨y, rfl, rfl⟩ | ⟨n, rfl, rfl, n0⟩
    · refine ⟨_, _, rfl, .str y, false, rfl, ?_⟩
      rw [if_neg (by decide)]
      exact kR _ (Same.refl _)
    · refine ⟨_, _, rfl, .int n, true, by show V.bl (decide (0 ≤ n)) = _; rw [decide_eq_true n0], ?_⟩
      rw [if_pos rfl]
      refine ⟨⟨by decide, by decide, by decide⟩, ?_⟩
      refine ⟨_, _, rfl, rfl, ?_⟩
      exact kR _ (Same.refl _)
  intro H4 S4 f4
  walk_at "rd"
  refine ⟨_, .inl ⟨.of f4, fun l hl => ?_⟩⟩
  obtain ⟨H5, e5, S5, f5⟩ := gen_new (.tup ((PyData.str z :: ds).map fun d => fv (dgr d))) hl
  rw [e5]
  unfold tFor iList
  dsimp only [tLst1, tCons, tVar, tNil]
  refine ⟨_, rfl, _, rfl, ?_⟩
  refine ⟨by rw [sz]; simp, fun L hL nL => ⟨L, rfl, ⟨_, .of upd_same⟩, ?_⟩⟩
  obtain ⟨H6, e6, S6, f6⟩ := gen_new (.lst [V.ref a, V.ref l]) hL
  rw [e6]
  have fa6 := S6 _ _ (S5 _ _ (S4 _ _ fa3))
  have fl6 := S6 _ _ f5
  have S26 := ((S3.trans S4).trans S5).trans S6
  have hB6 := hB2.mono S26
  have E06 := ext_trans E02 (ext_same S26)
  refine for_list (K := K) (a := L) (D := { nx := _, rt := _, bk := fun _ _ => True, ct := fun _ _ => True }) (xs := [V.ref a, V.ref l]) (fun i σ H' => ∃ y6 y7, σ = [some (.ref p), some (.int t), some (.ref a), some (.str (actT (.tuple (.str z :: ds)))), some (.ref l), none, y6, y7, none, none, none, none, none, none, none, none, none] ∧ Same H6 H') ⟨_, _, rfl, Same.refl _⟩ (fun i σ H' _ ⟨_, _, _, S⟩ => .of (S _ _ f6)) ?_ ?_
  · rintro i x σ G hx ⟨y6, y7, rfl, S⟩
    walk_at "rd"
    obtain ⟨es, dv, eaE, smE⟩ : ∃ es, DV G x (.tuple (.str z :: es)) ∧ actB (.tuple (.str z :: es)) = true ∧ ∀ d ∈ es, ∀ i, d = PyData.int i → i.natAbs < 10 ^ 21 := by
      have fls : ∀ d ∈ ds.map dgr, flat2 d = true := fun d m => (act_flat (act_dgr ea)).2 d (by simp [m])
      match i, hx with
      | 0, hx =>
        cases hx
        exact ⟨ds, (dvA fa6).mono S, ea, sm21⟩
      | 1, hx =>
        cases hx
        refine ⟨ds.map dgr, DV.mono S (.tup fl6 ?_), act_dgr ea, fun d m i e => ?_⟩
        · rw [List.map_cons]
          refine .cons (.str z) ?_
          have := dvs (G := H6) (ds.map dgr) fls
          rw [List.map_map] at this
          exact this
        · obtain ⟨d0, m0, rfl⟩ := List.mem_map.mp m
          cases d0 with
          | int j =>
            have := sm _ m0 j rfl
            cases e
            omega
          | _ => cases e
    have lzE := act_lz eaE (sm500 smE)
    have lnE := (line_gd eaE smE).1
    refine ⟨_, _, rfl, dv, lzE.a.lens, lzE.b, eaE, fun G1 T1 => ?_⟩
    refine ⟨_, _, t, rfl, dv.mono T1, lzE.a.lens, lzE.b, (fun e => by rw [eaE] at e; cases e), fun _ r G2 hr nr T2 fr => ⟨by rw [sz]; decide, fun q hq nq => ?_⟩⟩
    obtain ⟨G3, e3, T3, fq⟩ := gen_new (.lst [V.str (Str.ofString "line"), V.str (actT (.tuple (.str z :: es)))]) hq
    rw [e3]
    refine ⟨r, q, Str.ofString "line", _, _, _, rfl, T3 _ _ fr, fq, nr, nq, asc_of (by decide +kernel), by decide +kernel, .str _, .str _, mk_str lnE.a (Nat.le_trans lnE.l (by decide)), fun e => (by cases e), fun G4 K4 => ⟨true, rfl, ?_⟩⟩
    have T4 : Same G3 G4 := keep_same rfl K4
    rw [if_neg (by decide)]
    refine ⟨_, _, _, rfl, .str _, fun y e => (by cases e; exact Nat.le_trans lnE.l (by decide)), fun e => ?_, fun r1 er r2 x2 G5 hr2 nr2 T5 fr2 dvx => ⟨by rw [sz]; decide, fun q2 hq2 nq2 => ?_⟩⟩
    · have : readP (actT (.tuple (.str z :: es))) = none := e
      rw [read_made eaE] at this
      cases this
    have er' : readP (actT (.tuple (.str z :: es))) = some r1 := er
    rw [read_made eaE] at er'
    cases er'
    obtain ⟨G6, e6, T6, fq2⟩ := gen_new (.lst [V.str (Str.ofString "act"), x]) hq2
    rw [e6]
    have T06 := (((T1.trans T2).trans T3).trans T4).trans (T5.trans T6)
    refine ⟨r2, q2, Str.ofString "act", _, _, _, rfl, T6 _ _ fr2, fq2, nr2, nq2, asc_of (by decide +kernel), by decide +kernel, dvx.mono T6, dv.mono T06, lzE.m, fun e => (by cases e), fun G7 K7 => ⟨true, rfl, ?_⟩⟩
    rw [if_neg (by decide)]
    exact ⟨⟨_, rfl⟩, S.trans (T06.trans (keep_same rfl K7))⟩
  · rintro σ G ⟨y6, y7, rfl, S⟩
    have fa7 := S _ _ fa6
    have hB7 := (hB6.mono S)
    have E07 := ext_trans E06 (ext_same S)
    dsimp only
    refine ⟨4, rfl, by decide, by decide, ?_⟩
    refine for_range (D := { nx := _, rt := _, bk := fun _ _ => True, ct := fun _ _ => True }) (fun i σ H' => ∃ y6 y7 y8 y9 y10 y11 y12 y13, σ = [some (.ref p), some (.int t), some (.ref a), some (.str (actT (.tuple (.str z :: ds)))), some (.ref l), none, y6, y7, y8, y9, y10, y11, y12, y13, none, none, none] ∧ BoxAt H' p (N + 301 + 20 * i) ∧ Ext1 p G H') ⟨_, _, _, _, _, _, _, _, rfl, hB7.le (by omega), Ext1.refl _ _⟩ ?_ ?_
    · rintro i σ F hi ⟨y6, y7, y8, y9, y10, y11, y12, y13, rfl, hBF, EF⟩
      have hi4 : i < 4 := by simpa using hi
      walk_at "rd"
      have faF := EF _ _ ap fa7
      refine ⟨p, _, _, rfl, hBF, by omega, lnA.1.a, lnA.2, lnA.1.l, fun y F1 ay ly hB1' X1 => ?_⟩
      refine ⟨p, _, a, z, ds, rfl, hB1', by omega, X1 _ _ ap faF, ea, sm, fun v d F2 dv lz nl hB2' X2 => ?_⟩
      have X02 := ext_trans X1 X2
      -- what is left to do with the spoilt act
      have fin : ∀ {F' : Hp}, Same F2 F' → ∀ H', KeepV d v F' H' → BoxAt H' p (N + 301 + 20 * (i + 1)) ∧ Ext1 p G H' := fun {F'} S2 H' K2 => by
        have kk := keep_from S2 K2
        constructor
        · refine (box_of hB2' fun o ho => kk _ _ (fun il e => ?_) ho).le (by omega)
          obtain ⟨q, e1, e2⟩ := nl il
          rw [e1] at e
          cases e
          obtain ⟨o', ho'⟩ : ∃ o, F1 p = some o := by
            obtain ⟨_, _, _, _, h, _⟩ := hB1'
            exact ⟨_, h⟩
          rw [ho'] at e2
          cases e2
        · refine ext_trans (ext_trans EF X1) fun b o nb ho => kk _ _ (fun il e => ?_) (X2 _ _ nb ho)
          obtain ⟨q, e1, e2⟩ := nl il
          rw [e1] at e
          cases e
          rw [ho] at e2
          cases e2
      refine ⟨y, rfl, ay, by omega, fun e F3 T3 => ?_, fun r e q F3 hq T3 dq => ?_⟩
      · refine ⟨by decide, _, .str y, _, rfl, .str y, fun y' e' => (by cases e'; omega), fun e' r F4 hr nr T4 fr => ?_, fun a' e' => ?_⟩
        · show ite _ _ _
          rw [if_pos rfl]
          refine ⟨by rw [sz]; decide, fun q hq nq => ?_⟩
          obtain ⟨F5, e5, T5, fq⟩ := gen_new (.lst [V.str (Str.ofString "no line"), V.str y]) hq
          rw [e5]
          refine ⟨r, q, Str.ofString "no line", _, _, _, rfl, T5 _ _ fr, fq, nr, nq, asc_of (by decide +kernel), by decide +kernel, .str _, .str _, mk_str ay (Nat.le_trans ly (by decide)), fun il => (by cases il), fun F6 K6 => ⟨true, rfl, ?_⟩⟩
          rw [if_neg (by decide), if_neg (by simp)]
          have T26 := (T3.trans T4).trans (T5.trans (keep_same rfl K6))
          refine ⟨by decide, asked_ok (dv.mono T26) lz fun H' K2 => fin T26 H' K2⟩
        · have : readP y = some a' := e'
          rw [e] at this
          cases this
      · obtain ⟨ar, er, lr, es, rfl⟩ := read_fact e
        have lr := lr (by omega)
        refine ⟨by decide, _, .str y, _, rfl, .str y, fun y' e' => (by cases e'; omega), fun e' => ?_, fun a' e' r F4 x4 hr nr T4 fr dvx => ?_⟩
        · have : readP y = none := e'
          rw [e] at this
          cases this
        have e2 : readP y = some a' := e'
        rw [e] at e2
        cases e2
        show ite _ _ _
        rw [if_neg (by simp)]
        refine ⟨by rw [sz]; decide, fun q3 hq3 nq3 => ?_⟩
        obtain ⟨F5, e5, T5, fq⟩ := gen_new (.lst [V.str (Str.ofString "act"), V.ref q]) hq3
        rw [e5]
        refine ⟨r, q3, Str.ofString "act", _, _, _, rfl, T5 _ _ fr, fq, nr, nq3, asc_of (by decide +kernel), by decide +kernel, dvx.mono T5, dq.mono (T4.trans T5), lr.m, fun il => (by cases il), fun F6 K6 => ⟨true, rfl, ?_⟩⟩
        have T6 : Same F5 F6 := keep_same rfl K6
        show ite _ _ _
        rw [if_neg (by decide), if_pos (by simp)]
        refine r_ixL (.of (T6 _ _ (T5 _ _ fr))) (at1 rfl) ?_
        refine ⟨_, _, t, rfl, dvx.mono (T5.trans T6), lr.a.lens, lr.b, (fun e' => by rw [ar] at e'; cases e'), fun _ r5 F7 hr5 nr5 T7 fr5 => ⟨by rw [sz]; decide, fun q4 hq4 nq4 => ?_⟩⟩
        obtain ⟨F8, e8, T8, fq4⟩ := gen_new (.lst [V.str (Str.ofString "line"), V.str y]) hq4
        rw [e8]
        rw [er] at fr5
        refine r_ne_strs (l := [Str.ofString "line", y]) (fun b hb => ?_) (T8 _ _ fr5) fq4 ⟨false, rfl, ?_⟩
        · simp only [List.mem_cons, List.not_mem_nil, or_false] at hb
          rcases hb with rfl | rfl
          · exact asc_of (by decide +kernel)
          · exact ay
        · show ite _ _ _
          rw [if_neg (by decide)]
          have T28 := ((T3.trans T4).trans (T5.trans T6)).trans (T7.trans T8)
          exact ⟨by decide, asked_ok (dv.mono T28) lz fun H' K2 => fin T28 H' K2⟩
    · rintro σ F ⟨y6, y7, y8, y9, y10, y11, y12, y13, rfl, hBF, EF⟩
      walk_at "rd"
      have fa0 := EF _ _ ap fa7
      refine ⟨p, 12, _, rfl, hBF, by simp; omega, by decide, by decide, fun wh F1 wh0 wh1 hB1' X1 => ?_⟩
      have fa1 := X1 _ _ ap fa0
      have EH : Ext1 p H F1 := ext_trans (ext_trans E07 EF) X1
      refine ⟨_, a, _, wh, rfl, wh0, wh1, dvA fa1, fun v1 d F2 hd dv1 nl1 S12 => ?_⟩
      refine ⟨_, a, _, wh, rfl, wh0, wh1, dvA (S12 _ _ fa1), fun v2 d' F3 hd' dv2 nl2 S23 => ?_⟩
      have dd : d' = d := by
        rw [hd] at hd'
        cases hd'
        rfl
      subst dd
      obtain ⟨lz, rdn, na6, sl, nn⟩ := odd_ok lnA.1 lzA ⟨_, rfl⟩ hd
      have nl1 : isL d' = true → ∃ q, v1 = .ref q ∧ F1 q = none := fun il => (nl1 il).resolve_left (nn il)
      have nl2 : isL d' = true → ∃ q, v2 = .ref q ∧ F2 q = none := fun il => (nl2 il).resolve_left (nn il)
      refine ⟨v1, d', t, rfl, dv1.mono S23, sl, fun _ r F4 hr nr T4 fr => ⟨by rw [sz]; decide, fun q hq nq => ?_⟩, fun a' e' => by rw [rdn] at e'; cases e'⟩
      obtain ⟨F5, e5, T5, fq⟩ := gen_new (.lst [V.str (Str.ofString "no line"), v1]) hq
      rw [e5]
      have T25 := S23.trans (T4.trans T5)
      refine ⟨r, q, Str.ofString "no line", v1, v1, d', rfl, T5 _ _ fr, fq, nr, nq, asc_of (by decide +kernel), by decide +kernel, dv1.mono T25, dv1.mono T25, lz.m, fun il => ?_, fun F6 K6 => ⟨true, rfl, ?_⟩⟩
      · obtain ⟨b, o, rfl, hb⟩ := dv_list_ref (dv1.mono S23) il
        refine ⟨rfl, fun e => ?_, fun e => ?_⟩
        · cases e
          rw [hr] at hb
          cases hb
        · cases e
          rw [T4 _ _ hb] at hq
          cases hq
      have K26 : Same F1 F6 := same_keep nl1 (S12.trans T25) K6
      rw [if_neg (by decide)]
      refine ⟨rfl, ?_⟩
      by_cases h6 : wh = 6
      · rw [if_pos (by rw [h6])]
        exact k _ (ext_trans EH (ext_same K26))
      rw [if_neg (fun e => h6 (by cases e; rfl))]
      have dv6 : DV F6 v2 d' := by
        by_cases il : isL d' = true
        · cases dv2 with
          | @lst b ys ds' hb nb hys =>
            obtain ⟨q2, e2, n2⟩ := nl2 il
            cases e2
            refine .lst (K6 _ _ (fun _ e => ?_) (T5 _ _ (T4 _ _ hb))) nb (dvs_flat hys (lz.m.l _ rfl).2.2)
            obtain ⟨b1, o1, e1, h1⟩ := dv_list_ref dv1 il
            rw [e1] at e
            cases e
            rw [h1] at n2
            cases n2
          | _ => cases il
        · exact dv2.mono ((T4.trans T5).trans (keep_same (by simpa using il) K6))
      have ab : actB d' = false := na6 fun e => h6 (by omega)
      refine ⟨v2, d', t, rfl, dv6, lz.a.lens, lz.b, fun _ r2 F7 hr2 nr2 T7 fr2 => ⟨by rw [sz]; decide, fun q2 hq2 nq2 => ?_⟩, fun e => by rw [ab] at e; cases e⟩
      obtain ⟨F8, e8, T8, fq2⟩ := gen_new (.lst [V.str (Str.ofString "no act"), v2]) hq2
      rw [e8]
      refine ⟨r2, q2, Str.ofString "no act", v2, v2, d', rfl, T8 _ _ fr2, fq2, nr2, nq2, asc_of (by decide +kernel), by decide +kernel, dv6.mono (T7.trans T8), dv6.mono (T7.trans T8), lz.m, fun il => ?_, fun F9 K9 => ?_⟩
      · obtain ⟨b, o, rfl, hb⟩ := dv_list_ref dv6 il
        refine ⟨rfl, fun e => ?_, fun e => ?_⟩
        · cases e
          rw [hr2] at hb
          cases hb
        · cases e
          rw [T7 _ _ hb] at hq2
          cases hq2
      · have nl2' : isL d' = true → ∃ q, v2 = .ref q ∧ F1 q = none := fun il => by
          obtain ⟨q, e, n⟩ := nl2 il
          exact ⟨q, e, none_of S12 n⟩
        exact k _ (ext_trans EH (ext_same (same_keep nl2' (K26.trans (T7.trans T8)) K9)))
end
end K57


namespace K57
open PySem L2 Nv

def spLaw (K : PySem.W.Frag) : Sp := fun vs H Q _ => ∃ (a : Addr) (ns : List Int), vs = [.ref a] ∧ SqL K H a (ns.map V.int) ∧ ns.length ≤ 63 ∧ ∀ H', Q (.bl true) H'
section
variable {P : Program} {w : World} {K : PySem.W.Frag} {mg : Str → Option Value} {base : Heap}
theorem ok_law (T : Tx K mg w.params) : FnG P w K mg base 9 T.d_law.f T.d_law.fd ["_law_script"] (spLaw K) := by
  refine okG0 T.d_law.F sc_law (fun vs H Q E h => ?_) (fun cdv A outer s H vs Q E hg hr h => ?_)
  · obtain ⟨a, ns, rfl, _⟩ := h
    rfl
  obtain ⟨a, ns, rfl, ha, hn, k⟩ := h
  refine ⟨_, (pss_cons (ps_for PassesOwn.never rfl (pi_range1 (by rfl) T.n_range (pa_cons (pe_callB (call_max2 rfl) (by rfl) T.n_max (by decide +kernel) (pa_cons pe_int (pa_cons (pe_callB (call_min2 rfl) (by rfl) T.n_min (by decide +kernel) (pa_cons pe_int (pa_cons (pe_callB call_len_seq (by rfl) T.n_len (by decide +kernel) (pa_cons (pv 0) pa_nil)) pa_nil))) pa_nil))) pa_nil)) (pg_name (i := 1) sc_law.nd rfl (Or.inl rfl))
      (pss_one (ps_if (pt_not (pt_val (pe_cG (ok_l_right T) T.d_l_right.b takes0 hg (hr.mono (by decide)) T.d_l_right.m T.d_l_right.F.kp (pa_cons (pe_cG (ok_l_box T) T.d_l_box.b takes0 hg (hr.mono (by decide)) T.d_l_box.m T.d_l_box.F.kp (pa_cons (pe_cG (ok_l_cell T) T.d_l_cell.b takes0 hg (hr.mono (by decide)) T.d_l_cell.m T.d_l_cell.F.kp (pa_cons (pv 0) (pa_cons (pv 1) pa_nil))) pa_nil)) pa_nil))))
        (pss_one (ps_ret pe_bl))
        pss_nil)))
    (pss_one (ps_ret pe_bl))), ?_⟩
  walk_at "rd"
  have lo : ∀ x : Int, 0 ≤ (if (if x < 12 then x else 12) > 6 then (if x < 12 then x else 12) else 6) ∧ (if (if x < 12 then x else 12) > 6 then (if x < 12 then x else 12) else 6) ≤ 12 := fun x => by
    split <;> split <;> omega
  have lo1 := lo ((ns.map V.int).length : Int)
  refine ⟨_, rfl, _, rfl, _, .inl ha, _, _, rfl, _, _, rfl, _, rfl, Int.le_trans (by decide) lo1.1, Int.lt_of_le_of_lt lo1.2 (by decide), ?_⟩
  refine for_range (fun i σ H' => Same H H' ∧ ∃ x, σ = [some (.ref a), x]) ⟨Same.refl H, _, rfl⟩ ?_ ?_
  · rintro i σ H1 hi ⟨S, x, rfl⟩
    have hi' : i < 12 := by
      have h2 := lo1.2
      have h1 := lo1.1
      have h3 : i < (if (if ((ns.map V.int).length : Int) < 12 then ((ns.map V.int).length : Int) else 12) > 6 then (if ((ns.map V.int).length : Int) < 12 then ((ns.map V.int).length : Int) else 12) else 6).toNat := hi
      omega
    walk_at "rd"
    refine ⟨a, ns, _, rfl, L2.Same.seq S ha, by omega, by omega, fun c H2 S2 => ?_⟩
    refine ⟨c, rfl, fun p H3 hp S3 b3 => ?_⟩
    refine ⟨p, _, rfl, b3, by decide, fun H4 e4 => ⟨_, rfl, ?_⟩⟩
    simp only [Bool.true_eq_false, ↓reduceIte]
    refine ⟨fun y o hy => ?_, _, rfl⟩
    have y2 := S2 _ _ (S _ _ hy)
    exact e4 _ _ (ne_of_none y2 hp) (S3 _ _ y2)
  · rintro σ H1 ⟨S, x, rfl⟩
    walk_at "rd"
    exact k _
end
end K57

namespace K57
open PySem PySem.W PyProof.Rows L2 Nv
theorem all_mk {P : Program} {w : World} {K : PySem.W.Frag} {h : Heap} {mg : Str → Option Value} {fa : Addr} (X : K.In h) (G : h.Ns mainGlobals mg) (hfa : mg "law" = some (.ref fa))
    {C_InvalidLine : Addr} {C_InvalidAct : Addr} {C_UnsaidError : Addr} {oc_x_InvalidLine : Value} {kV_x_InvalidLine : Value} {dc_x_InvalidLine : Value} {pm_x_InvalidLine : Value} {cd_x_InvalidLine : Value} {ct_x_InvalidLine : Value} {od_x_InvalidLine an_x_InvalidLine : Option Addr} {sl_x_InvalidLine : Array (Option Value)} {f_x_InvalidLine : Addr} {oc_x_InvalidAct : Value} {kV_x_InvalidAct : Value} {dc_x_InvalidAct : Value} {pm_x_InvalidAct : Value} {cd_x_InvalidAct : Value} {ct_x_InvalidAct : Value} {od_x_InvalidAct an_x_InvalidAct : Option Addr} {sl_x_InvalidAct : Array (Option Value)} {f_x_InvalidAct : Addr} {nm_e_InvalidLine q_e_InvalidLine : Str} {N_e_InvalidLine : Addr} {bs_e_InvalidLine bm_e_InvalidLine sub_e_InvalidLine : List Value} {sn_e_InvalidLine : List Str} {ab_e_InvalidLine : Bool} {col_e_InvalidLine : Option Bool} {dd_e_InvalidLine : Option Addr} {k0_e_InvalidLine k1_e_InvalidLine k2_e_InvalidLine k3_e_InvalidLine k5_e_InvalidLine : Option Value} {nm_e_InvalidAct q_e_InvalidAct : Str} {N_e_InvalidAct : Addr} {bs_e_InvalidAct bm_e_InvalidAct sub_e_InvalidAct : List Value} {sn_e_InvalidAct : List Str} {ab_e_InvalidAct : Bool} {col_e_InvalidAct : Option Bool} {dd_e_InvalidAct : Option Addr} {k0_e_InvalidAct k1_e_InvalidAct k2_e_InvalidAct k3_e_InvalidAct k5_e_InvalidAct : Option Value} {t_MOST_LETTERS : Tok} {t_MOST_SIGNS : Tok} {C_ACT_FORMS : Addr} {A_ACT_FORMS_tick : Addr} {A_ACT_FORMS_write : Addr} {A_ACT_FORMS_carry : Addr} {A_ACT_FORMS_drop : Addr} {A_ACT_FORMS_double : Addr} {A_ACT_FORMS_stop : Addr} {A_ACT_FORMS_cut : Addr} {A_ACT_FORMS_rise : Addr} {es_w_ACT_FORMS : Array DictEntry} {n_w_ACT_FORMS : Nat} {t_w_ACT_FORMS_0 t_w_ACT_FORMS_1 t_w_ACT_FORMS_2 t_w_ACT_FORMS_3 t_w_ACT_FORMS_4 t_w_ACT_FORMS_5 t_w_ACT_FORMS_6 t_w_ACT_FORMS_7 : Tok} {o_q_ACT_FORMS_tick : Obj} {n_q_ACT_FORMS_tick : Nat} {t_q_ACT_FORMS_tick_0 : Tok} {o_q_ACT_FORMS_write : Obj} {n_q_ACT_FORMS_write : Nat} {t_q_ACT_FORMS_write_0 t_q_ACT_FORMS_write_1 t_q_ACT_FORMS_write_2 : Tok} {o_q_ACT_FORMS_carry : Obj} {n_q_ACT_FORMS_carry : Nat} {t_q_ACT_FORMS_carry_0 : Tok} {o_q_ACT_FORMS_drop : Obj} {n_q_ACT_FORMS_drop : Nat} {t_q_ACT_FORMS_drop_0 : Tok} {o_q_ACT_FORMS_double : Obj} {n_q_ACT_FORMS_double : Nat} {t_q_ACT_FORMS_double_0 : Tok} {o_q_ACT_FORMS_stop : Obj} {n_q_ACT_FORMS_stop : Nat} {t_q_ACT_FORMS_stop_0 t_q_ACT_FORMS_stop_1 : Tok} {o_q_ACT_FORMS_cut : Obj} {n_q_ACT_FORMS_cut : Nat} {t_q_ACT_FORMS_cut_0 t_q_ACT_FORMS_cut_1 : Tok} {o_q_ACT_FORMS_rise : Obj} {n_q_ACT_FORMS_rise : Nat} {t_q_ACT_FORMS_rise_0 : Tok} {oc_d_is_int : Value} {kV_d_is_int : Value} {dc_d_is_int : Value} {pm_d_is_int : Value} {cd_d_is_int : Value} {ct_d_is_int : Value} {od_d_is_int an_d_is_int : Option Addr} {sl_d_is_int : Array (Option Value)} {f_d_is_int : Addr} {oc_d_is_count : Value} {kV_d_is_count : Value} {dc_d_is_count : Value} {pm_d_is_count : Value} {cd_d_is_count : Value} {ct_d_is_count : Value} {od_d_is_count an_d_is_count : Option Addr} {sl_d_is_count : Array (Option Value)} {f_d_is_count : Addr} {oc_d_is_signs : Value} {kV_d_is_signs : Value} {dc_d_is_signs : Value} {pm_d_is_signs : Value} {cd_d_is_signs : Value} {ct_d_is_signs : Value} {od_d_is_signs an_d_is_signs : Option Addr} {sl_d_is_signs : Array (Option Value)} {f_d_is_signs : Addr} {oc_d_is_numeral : Value} {kV_d_is_numeral : Value} {dc_d_is_numeral : Value} {pm_d_is_numeral : Value} {cd_d_is_numeral : Value} {ct_d_is_numeral : Value} {od_d_is_numeral an_d_is_numeral : Option Addr} {sl_d_is_numeral : Array (Option Value)} {f_d_is_numeral : Addr} {oc_d_is_cell : Value} {kV_d_is_cell : Value} {dc_d_is_cell : Value} {pm_d_is_cell : Value} {cd_d_is_cell : Value} {ct_d_is_cell : Value} {od_d_is_cell an_d_is_cell : Option Addr} {sl_d_is_cell : Array (Option Value)} {f_d_is_cell : Addr} {oc_d_is_text : Value} {kV_d_is_text : Value} {dc_d_is_text : Value} {pm_d_is_text : Value} {cd_d_is_text : Value} {ct_d_is_text : Value} {od_d_is_text an_d_is_text : Option Addr} {sl_d_is_text : Array (Option Value)} {f_d_is_text : Addr} {oc_d_form_of : Value} {kV_d_form_of : Value} {dc_d_form_of : Value} {pm_d_form_of : Value} {cd_d_form_of : Value} {ct_d_form_of : Value} {od_d_form_of an_d_form_of : Option Addr} {sl_d_form_of : Array (Option Value)} {f_d_form_of : Addr} {oc_d_is_act : Value} {kV_d_is_act : Value} {dc_d_is_act : Value} {pm_d_is_act : Value} {cd_d_is_act : Value} {ct_d_is_act : Value} {od_d_is_act an_d_is_act : Option Addr} {sl_d_is_act : Array (Option Value)} {f_d_is_act : Addr} {oc_d_is_item : Value} {kV_d_is_item : Value} {dc_d_is_item : Value} {pm_d_is_item : Value} {cd_d_is_item : Value} {ct_d_is_item : Value} {od_d_is_item an_d_is_item : Option Addr} {sl_d_is_item : Array (Option Value)} {f_d_is_item : Addr} {oc_d_act_line : Value} {kV_d_act_line : Value} {dc_d_act_line : Value} {pm_d_act_line : Value} {cd_d_act_line : Value} {ct_d_act_line : Value} {od_d_act_line an_d_act_line : Option Addr} {sl_d_act_line : Array (Option Value)} {f_d_act_line : Addr} {oc_d_read_act : Value} {kV_d_read_act : Value} {dc_d_read_act : Value} {pm_d_read_act : Value} {cd_d_read_act : Value} {ct_d_read_act : Value} {od_d_read_act an_d_read_act : Option Addr} {sl_d_read_act : Array (Option Value)} {f_d_read_act : Addr} {oc_d_act_in : Value} {kV_d_act_in : Value} {dc_d_act_in : Value} {pm_d_act_in : Value} {cd_d_act_in : Value} {ct_d_act_in : Value} {od_d_act_in an_d_act_in : Option Addr} {sl_d_act_in : Array (Option Value)} {f_d_act_in : Addr} {oc_d_item_in : Value} {kV_d_item_in : Value} {dc_d_item_in : Value} {pm_d_item_in : Value} {cd_d_item_in : Value} {ct_d_item_in : Value} {od_d_item_in an_d_item_in : Option Addr} {sl_d_item_in : Array (Option Value)} {f_d_item_in : Addr} {oc_d_l_cell : Value} {kV_d_l_cell : Value} {dc_d_l_cell : Value} {pm_d_l_cell : Value} {cd_d_l_cell : Value} {ct_d_l_cell : Value} {od_d_l_cell an_d_l_cell : Option Addr} {sl_d_l_cell : Array (Option Value)} {f_d_l_cell : Addr} {oc_d_l_box : Value} {kV_d_l_box : Value} {dc_d_l_box : Value} {pm_d_l_box : Value} {cd_d_l_box : Value} {ct_d_l_box : Value} {od_d_l_box an_d_l_box : Option Addr} {sl_d_l_box : Array (Option Value)} {f_d_l_box : Addr} {oc_d_l_take : Value} {kV_d_l_take : Value} {dc_d_l_take : Value} {pm_d_l_take : Value} {cd_d_l_take : Value} {ct_d_l_take : Value} {od_d_l_take an_d_l_take : Option Addr} {sl_d_l_take : Array (Option Value)} {f_d_l_take : Addr} {oc_d_l_kinds : Value} {kV_d_l_kinds : Value} {dc_d_l_kinds : Value} {pm_d_l_kinds : Value} {cd_d_l_kinds : Value} {ct_d_l_kinds : Value} {od_d_l_kinds an_d_l_kinds : Option Addr} {sl_d_l_kinds : Array (Option Value)} {f_d_l_kinds : Addr} {oc_d_l_signs : Value} {kV_d_l_signs : Value} {dc_d_l_signs : Value} {pm_d_l_signs : Value} {cd_d_l_signs : Value} {ct_d_l_signs : Value} {od_d_l_signs an_d_l_signs : Option Addr} {sl_d_l_signs : Array (Option Value)} {f_d_l_signs : Addr} {oc_d_l_item : Value} {kV_d_l_item : Value} {dc_d_l_item : Value} {pm_d_l_item : Value} {cd_d_l_item : Value} {ct_d_l_item : Value} {od_d_l_item an_d_l_item : Option Addr} {sl_d_l_item : Array (Option Value)} {f_d_l_item : Addr} {oc_d_l_act : Value} {kV_d_l_act : Value} {dc_d_l_act : Value} {pm_d_l_act : Value} {cd_d_l_act : Value} {ct_d_l_act : Value} {od_d_l_act an_d_l_act : Option Addr} {sl_d_l_act : Array (Option Value)} {f_d_l_act : Addr} {oc_d_l_is_number : Value} {kV_d_l_is_number : Value} {dc_d_l_is_number : Value} {pm_d_l_is_number : Value} {cd_d_l_is_number : Value} {ct_d_l_is_number : Value} {od_d_l_is_number an_d_l_is_number : Option Addr} {sl_d_l_is_number : Array (Option Value)} {f_d_l_is_number : Addr} {oc_d_l_is_cell : Value} {kV_d_l_is_cell : Value} {dc_d_l_is_cell : Value} {pm_d_l_is_cell : Value} {cd_d_l_is_cell : Value} {ct_d_l_is_cell : Value} {od_d_l_is_cell an_d_l_is_cell : Option Addr} {sl_d_l_is_cell : Array (Option Value)} {f_d_l_is_cell : Addr} {oc_d_l_is_text : Value} {kV_d_l_is_text : Value} {dc_d_l_is_text : Value} {pm_d_l_is_text : Value} {cd_d_l_is_text : Value} {ct_d_l_is_text : Value} {od_d_l_is_text an_d_l_is_text : Option Addr} {sl_d_l_is_text : Array (Option Value)} {f_d_l_is_text : Addr} {oc_d_l_is_act : Value} {kV_d_l_is_act : Value} {dc_d_l_is_act : Value} {pm_d_l_is_act : Value} {cd_d_l_is_act : Value} {ct_d_l_is_act : Value} {od_d_l_is_act an_d_l_is_act : Option Addr} {sl_d_l_is_act : Array (Option Value)} {f_d_l_is_act : Addr} {oc_d_l_written : Value} {kV_d_l_written : Value} {dc_d_l_written : Value} {pm_d_l_written : Value} {cd_d_l_written : Value} {ct_d_l_written : Value} {od_d_l_written an_d_l_written : Option Addr} {sl_d_l_written : Array (Option Value)} {f_d_l_written : Addr} {oc_d_l_number : Value} {kV_d_l_number : Value} {dc_d_l_number : Value} {pm_d_l_number : Value} {cd_d_l_number : Value} {ct_d_l_number : Value} {od_d_l_number an_d_l_number : Option Addr} {sl_d_l_number : Array (Option Value)} {f_d_l_number : Addr} {oc_d_l_read : Value} {kV_d_l_read : Value} {dc_d_l_read : Value} {pm_d_l_read : Value} {cd_d_l_read : Value} {ct_d_l_read : Value} {od_d_l_read an_d_l_read : Option Addr} {sl_d_l_read : Array (Option Value)} {f_d_l_read : Addr} {oc_d_l_told : Value} {kV_d_l_told : Value} {dc_d_l_told : Value} {pm_d_l_told : Value} {cd_d_l_told : Value} {ct_d_l_told : Value} {od_d_l_told an_d_l_told : Option Addr} {sl_d_l_told : Array (Option Value)} {f_d_l_told : Addr} {oc_d_l_line : Value} {kV_d_l_line : Value} {dc_d_l_line : Value} {pm_d_l_line : Value} {cd_d_l_line : Value} {ct_d_l_line : Value} {od_d_l_line an_d_l_line : Option Addr} {sl_d_l_line : Array (Option Value)} {f_d_l_line : Addr} {oc_d_l_spoilt_line : Value} {kV_d_l_spoilt_line : Value} {dc_d_l_spoilt_line : Value} {pm_d_l_spoilt_line : Value} {cd_d_l_spoilt_line : Value} {ct_d_l_spoilt_line : Value} {od_d_l_spoilt_line an_d_l_spoilt_line : Option Addr} {sl_d_l_spoilt_line : Array (Option Value)} {f_d_l_spoilt_line : Addr} {oc_d_l_spoilt_act : Value} {kV_d_l_spoilt_act : Value} {dc_d_l_spoilt_act : Value} {pm_d_l_spoilt_act : Value} {cd_d_l_spoilt_act : Value} {ct_d_l_spoilt_act : Value} {od_d_l_spoilt_act an_d_l_spoilt_act : Option Addr} {sl_d_l_spoilt_act : Array (Option Value)} {f_d_l_spoilt_act : Addr} {oc_d_l_odd : Value} {kV_d_l_odd : Value} {dc_d_l_odd : Value} {pm_d_l_odd : Value} {cd_d_l_odd : Value} {ct_d_l_odd : Value} {od_d_l_odd an_d_l_odd : Option Addr} {sl_d_l_odd : Array (Option Value)} {f_d_l_odd : Addr} {oc_d_l_same : Value} {kV_d_l_same : Value} {dc_d_l_same : Value} {pm_d_l_same : Value} {cd_d_l_same : Value} {ct_d_l_same : Value} {od_d_l_same an_d_l_same : Option Addr} {sl_d_l_same : Array (Option Value)} {f_d_l_same : Addr} {oc_d_l_right : Value} {kV_d_l_right : Value} {dc_d_l_right : Value} {pm_d_l_right : Value} {cd_d_l_right : Value} {ct_d_l_right : Value} {od_d_l_right an_d_l_right : Option Addr} {sl_d_l_right : Array (Option Value)} {f_d_l_right : Addr} {oc_d_law : Value} {kV_d_law : Value} {dc_d_law : Value} {pm_d_law : Value} {cd_d_law : Value} {ct_d_law : Value} {od_d_law an_d_law : Option Addr} {sl_d_law : Array (Option Value)} {f_d_law : Addr}
    (g_e_InvalidLine : PySem.W.nsIn K mainGlobals "InvalidLine" = some (some (.ref C_InvalidLine)))
    (g_e_InvalidAct : PySem.W.nsIn K mainGlobals "InvalidAct" = some (some (.ref C_InvalidAct)))
    (g_m_UnsaidError : PySem.W.nsIn K mainGlobals "UnsaidError" = some (some (.ref C_UnsaidError)))
    (g_g_MOST_LETTERS : PySem.W.nsIn K mainGlobals "MOST_LETTERS" = some (some (.int 8 t_MOST_LETTERS)))
    (g_g_MOST_SIGNS : PySem.W.nsIn K mainGlobals "MOST_SIGNS" = some (some (.int 40 t_MOST_SIGNS)))
    (g_m_ACT_FORMS : PySem.W.nsIn K mainGlobals "ACT_FORMS" = some (some (.ref C_ACT_FORMS)))
    (a_x_InvalidLine : PySem.W.findIn K (.ref C_InvalidLine) "__init__" = some (some (.ref f_x_InvalidLine)))
    (a_x_InvalidAct : PySem.W.findIn K (.ref C_InvalidAct) "__init__" = some (some (.ref f_x_InvalidAct)))
    (a_d_is_int : PySem.W.nsIn K mainGlobals "is_int" = some (some (.ref f_d_is_int)))
    (a_d_is_count : PySem.W.nsIn K mainGlobals "is_count" = some (some (.ref f_d_is_count)))
    (a_d_is_signs : PySem.W.nsIn K mainGlobals "is_signs" = some (some (.ref f_d_is_signs)))
    (a_d_is_numeral : PySem.W.nsIn K mainGlobals "is_numeral" = some (some (.ref f_d_is_numeral)))
    (a_d_is_cell : PySem.W.nsIn K mainGlobals "is_cell" = some (some (.ref f_d_is_cell)))
    (a_d_is_text : PySem.W.nsIn K mainGlobals "is_text" = some (some (.ref f_d_is_text)))
    (a_d_form_of : PySem.W.nsIn K mainGlobals "form_of" = some (some (.ref f_d_form_of)))
    (a_d_is_act : PySem.W.nsIn K mainGlobals "is_act" = some (some (.ref f_d_is_act)))
    (a_d_is_item : PySem.W.nsIn K mainGlobals "_is_item" = some (some (.ref f_d_is_item)))
    (a_d_act_line : PySem.W.nsIn K mainGlobals "act_line" = some (some (.ref f_d_act_line)))
    (a_d_read_act : PySem.W.nsIn K mainGlobals "read_act" = some (some (.ref f_d_read_act)))
    (a_d_act_in : PySem.W.nsIn K mainGlobals "_act_in" = some (some (.ref f_d_act_in)))
    (a_d_item_in : PySem.W.nsIn K mainGlobals "_item_in" = some (some (.ref f_d_item_in)))
    (a_d_l_cell : PySem.W.nsIn K mainGlobals "_law_cell" = some (some (.ref f_d_l_cell)))
    (a_d_l_box : PySem.W.nsIn K mainGlobals "_law_box" = some (some (.ref f_d_l_box)))
    (a_d_l_take : PySem.W.nsIn K mainGlobals "_law_take" = some (some (.ref f_d_l_take)))
    (a_d_l_kinds : PySem.W.nsIn K mainGlobals "_law_kinds" = some (some (.ref f_d_l_kinds)))
    (a_d_l_signs : PySem.W.nsIn K mainGlobals "_law_signs" = some (some (.ref f_d_l_signs)))
    (a_d_l_item : PySem.W.nsIn K mainGlobals "_law_item" = some (some (.ref f_d_l_item)))
    (a_d_l_act : PySem.W.nsIn K mainGlobals "_law_act" = some (some (.ref f_d_l_act)))
    (a_d_l_is_number : PySem.W.nsIn K mainGlobals "_law_is_number" = some (some (.ref f_d_l_is_number)))
    (a_d_l_is_cell : PySem.W.nsIn K mainGlobals "_law_is_cell" = some (some (.ref f_d_l_is_cell)))
    (a_d_l_is_text : PySem.W.nsIn K mainGlobals "_law_is_text" = some (some (.ref f_d_l_is_text)))
    (a_d_l_is_act : PySem.W.nsIn K mainGlobals "_law_is_act" = some (some (.ref f_d_l_is_act)))
    (a_d_l_written : PySem.W.nsIn K mainGlobals "_law_written" = some (some (.ref f_d_l_written)))
    (a_d_l_number : PySem.W.nsIn K mainGlobals "_law_number" = some (some (.ref f_d_l_number)))
    (a_d_l_read : PySem.W.nsIn K mainGlobals "_law_read" = some (some (.ref f_d_l_read)))
    (a_d_l_told : PySem.W.nsIn K mainGlobals "_law_told" = some (some (.ref f_d_l_told)))
    (a_d_l_line : PySem.W.nsIn K mainGlobals "_law_line" = some (some (.ref f_d_l_line)))
    (a_d_l_spoilt_line : PySem.W.nsIn K mainGlobals "_law_spoilt_line" = some (some (.ref f_d_l_spoilt_line)))
    (a_d_l_spoilt_act : PySem.W.nsIn K mainGlobals "_law_spoilt_act" = some (some (.ref f_d_l_spoilt_act)))
    (a_d_l_odd : PySem.W.nsIn K mainGlobals "_law_odd" = some (some (.ref f_d_l_odd)))
    (a_d_l_same : PySem.W.nsIn K mainGlobals "_law_same" = some (some (.ref f_d_l_same)))
    (a_d_l_right : PySem.W.nsIn K mainGlobals "_law_right" = some (some (.ref f_d_l_right)))
    (a_d_law : PySem.W.nsIn K mainGlobals "law" = some (some (.ref f_d_law)))
    (l_x_InvalidLine : K.lookup f_x_InvalidLine = some ⟨oc_x_InvalidLine, od_x_InvalidLine, .func (PySem.W.fnOf "__init__" "InvalidLine.__init__" (defArgs s_InvalidLine_init) (defBody s_InvalidLine_init) (defScope s_InvalidLine_init) .none kV_x_InvalidLine dc_x_InvalidLine pm_x_InvalidLine an_x_InvalidLine cd_x_InvalidLine ct_x_InvalidLine), sl_x_InvalidLine⟩)
    (l_x_InvalidAct : K.lookup f_x_InvalidAct = some ⟨oc_x_InvalidAct, od_x_InvalidAct, .func (PySem.W.fnOf "__init__" "InvalidAct.__init__" (defArgs s_InvalidAct_init) (defBody s_InvalidAct_init) (defScope s_InvalidAct_init) .none kV_x_InvalidAct dc_x_InvalidAct pm_x_InvalidAct an_x_InvalidAct cd_x_InvalidAct ct_x_InvalidAct), sl_x_InvalidAct⟩)
    (l_w_ACT_FORMS : K.lookup C_ACT_FORMS = some ⟨.type "dict", none, .dict es_w_ACT_FORMS n_w_ACT_FORMS, #[]⟩)
    (l_d_is_int : K.lookup f_d_is_int = some ⟨oc_d_is_int, od_d_is_int, .func (PySem.W.fnOf "is_int" "is_int" (defArgs s_is_int) (defBody s_is_int) (defScope s_is_int) .none kV_d_is_int dc_d_is_int pm_d_is_int an_d_is_int cd_d_is_int ct_d_is_int), sl_d_is_int⟩)
    (l_d_is_count : K.lookup f_d_is_count = some ⟨oc_d_is_count, od_d_is_count, .func (PySem.W.fnOf "is_count" "is_count" (defArgs s_is_count) (defBody s_is_count) (defScope s_is_count) .none kV_d_is_count dc_d_is_count pm_d_is_count an_d_is_count cd_d_is_count ct_d_is_count), sl_d_is_count⟩)
    (l_d_is_signs : K.lookup f_d_is_signs = some ⟨oc_d_is_signs, od_d_is_signs, .func (PySem.W.fnOf "is_signs" "is_signs" (defArgs s_is_signs) (defBody s_is_signs) (defScope s_is_signs) .none kV_d_is_signs dc_d_is_signs pm_d_is_signs an_d_is_signs cd_d_is_signs ct_d_is_signs), sl_d_is_signs⟩)
    (l_d_is_numeral : K.lookup f_d_is_numeral = some ⟨oc_d_is_numeral, od_d_is_numeral, .func (PySem.W.fnOf "is_numeral" "is_numeral" (defArgs s_is_numeral) (defBody s_is_numeral) (defScope s_is_numeral) .none kV_d_is_numeral dc_d_is_numeral pm_d_is_numeral an_d_is_numeral cd_d_is_numeral ct_d_is_numeral), sl_d_is_numeral⟩)
    (l_d_is_cell : K.lookup f_d_is_cell = some ⟨oc_d_is_cell, od_d_is_cell, .func (PySem.W.fnOf "is_cell" "is_cell" (defArgs s_is_cell) (defBody s_is_cell) (defScope s_is_cell) .none kV_d_is_cell dc_d_is_cell pm_d_is_cell an_d_is_cell cd_d_is_cell ct_d_is_cell), sl_d_is_cell⟩)
    (l_d_is_text : K.lookup f_d_is_text = some ⟨oc_d_is_text, od_d_is_text, .func (PySem.W.fnOf "is_text" "is_text" (defArgs s_is_text) (defBody s_is_text) (defScope s_is_text) .none kV_d_is_text dc_d_is_text pm_d_is_text an_d_is_text cd_d_is_text ct_d_is_text), sl_d_is_text⟩)
    (l_d_form_of : K.lookup f_d_form_of = some ⟨oc_d_form_of, od_d_form_of, .func (PySem.W.fnOf "form_of" "form_of" (defArgs s_form_of) (defBody s_form_of) (defScope s_form_of) .none kV_d_form_of dc_d_form_of pm_d_form_of an_d_form_of cd_d_form_of ct_d_form_of), sl_d_form_of⟩)
    (l_d_is_act : K.lookup f_d_is_act = some ⟨oc_d_is_act, od_d_is_act, .func (PySem.W.fnOf "is_act" "is_act" (defArgs s_is_act) (defBody s_is_act) (defScope s_is_act) .none kV_d_is_act dc_d_is_act pm_d_is_act an_d_is_act cd_d_is_act ct_d_is_act), sl_d_is_act⟩)
    (l_d_is_item : K.lookup f_d_is_item = some ⟨oc_d_is_item, od_d_is_item, .func (PySem.W.fnOf "_is_item" "_is_item" (defArgs s_is_item) (defBody s_is_item) (defScope s_is_item) .none kV_d_is_item dc_d_is_item pm_d_is_item an_d_is_item cd_d_is_item ct_d_is_item), sl_d_is_item⟩)
    (l_d_act_line : K.lookup f_d_act_line = some ⟨oc_d_act_line, od_d_act_line, .func (PySem.W.fnOf "act_line" "act_line" (defArgs s_act_line) (defBody s_act_line) (defScope s_act_line) .none kV_d_act_line dc_d_act_line pm_d_act_line an_d_act_line cd_d_act_line ct_d_act_line), sl_d_act_line⟩)
    (l_d_read_act : K.lookup f_d_read_act = some ⟨oc_d_read_act, od_d_read_act, .func (PySem.W.fnOf "read_act" "read_act" (defArgs s_read_act) (defBody s_read_act) (defScope s_read_act) .none kV_d_read_act dc_d_read_act pm_d_read_act an_d_read_act cd_d_read_act ct_d_read_act), sl_d_read_act⟩)
    (l_d_act_in : K.lookup f_d_act_in = some ⟨oc_d_act_in, od_d_act_in, .func (PySem.W.fnOf "_act_in" "_act_in" (defArgs s_act_in) (defBody s_act_in) (defScope s_act_in) .none kV_d_act_in dc_d_act_in pm_d_act_in an_d_act_in cd_d_act_in ct_d_act_in), sl_d_act_in⟩)
    (l_d_item_in : K.lookup f_d_item_in = some ⟨oc_d_item_in, od_d_item_in, .func (PySem.W.fnOf "_item_in" "_item_in" (defArgs s_item_in) (defBody s_item_in) (defScope s_item_in) .none kV_d_item_in dc_d_item_in pm_d_item_in an_d_item_in cd_d_item_in ct_d_item_in), sl_d_item_in⟩)
    (l_d_l_cell : K.lookup f_d_l_cell = some ⟨oc_d_l_cell, od_d_l_cell, .func (PySem.W.fnOf "_law_cell" "_law_cell" (defArgs s_l_cell) (defBody s_l_cell) (defScope s_l_cell) .none kV_d_l_cell dc_d_l_cell pm_d_l_cell an_d_l_cell cd_d_l_cell ct_d_l_cell), sl_d_l_cell⟩)
    (l_d_l_box : K.lookup f_d_l_box = some ⟨oc_d_l_box, od_d_l_box, .func (PySem.W.fnOf "_law_box" "_law_box" (defArgs s_l_box) (defBody s_l_box) (defScope s_l_box) .none kV_d_l_box dc_d_l_box pm_d_l_box an_d_l_box cd_d_l_box ct_d_l_box), sl_d_l_box⟩)
    (l_d_l_take : K.lookup f_d_l_take = some ⟨oc_d_l_take, od_d_l_take, .func (PySem.W.fnOf "_law_take" "_law_take" (defArgs s_l_take) (defBody s_l_take) (defScope s_l_take) .none kV_d_l_take dc_d_l_take pm_d_l_take an_d_l_take cd_d_l_take ct_d_l_take), sl_d_l_take⟩)
    (l_d_l_kinds : K.lookup f_d_l_kinds = some ⟨oc_d_l_kinds, od_d_l_kinds, .func (PySem.W.fnOf "_law_kinds" "_law_kinds" (defArgs s_l_kinds) (defBody s_l_kinds) (defScope s_l_kinds) .none kV_d_l_kinds dc_d_l_kinds pm_d_l_kinds an_d_l_kinds cd_d_l_kinds ct_d_l_kinds), sl_d_l_kinds⟩)
    (l_d_l_signs : K.lookup f_d_l_signs = some ⟨oc_d_l_signs, od_d_l_signs, .func (PySem.W.fnOf "_law_signs" "_law_signs" (defArgs s_l_signs) (defBody s_l_signs) (defScope s_l_signs) .none kV_d_l_signs dc_d_l_signs pm_d_l_signs an_d_l_signs cd_d_l_signs ct_d_l_signs), sl_d_l_signs⟩)
    (l_d_l_item : K.lookup f_d_l_item = some ⟨oc_d_l_item, od_d_l_item, .func (PySem.W.fnOf "_law_item" "_law_item" (defArgs s_l_item) (defBody s_l_item) (defScope s_l_item) .none kV_d_l_item dc_d_l_item pm_d_l_item an_d_l_item cd_d_l_item ct_d_l_item), sl_d_l_item⟩)
    (l_d_l_act : K.lookup f_d_l_act = some ⟨oc_d_l_act, od_d_l_act, .func (PySem.W.fnOf "_law_act" "_law_act" (defArgs s_l_act) (defBody s_l_act) (defScope s_l_act) .none kV_d_l_act dc_d_l_act pm_d_l_act an_d_l_act cd_d_l_act ct_d_l_act), sl_d_l_act⟩)
    (l_d_l_is_number : K.lookup f_d_l_is_number = some ⟨oc_d_l_is_number, od_d_l_is_number, .func (PySem.W.fnOf "_law_is_number" "_law_is_number" (defArgs s_l_is_number) (defBody s_l_is_number) (defScope s_l_is_number) .none kV_d_l_is_number dc_d_l_is_number pm_d_l_is_number an_d_l_is_number cd_d_l_is_number ct_d_l_is_number), sl_d_l_is_number⟩)
    (l_d_l_is_cell : K.lookup f_d_l_is_cell = some ⟨oc_d_l_is_cell, od_d_l_is_cell, .func (PySem.W.fnOf "_law_is_cell" "_law_is_cell" (defArgs s_l_is_cell) (defBody s_l_is_cell) (defScope s_l_is_cell) .none kV_d_l_is_cell dc_d_l_is_cell pm_d_l_is_cell an_d_l_is_cell cd_d_l_is_cell ct_d_l_is_cell), sl_d_l_is_cell⟩)
    (l_d_l_is_text : K.lookup f_d_l_is_text = some ⟨oc_d_l_is_text, od_d_l_is_text, .func (PySem.W.fnOf "_law_is_text" "_law_is_text" (defArgs s_l_is_text) (defBody s_l_is_text) (defScope s_l_is_text) .none kV_d_l_is_text dc_d_l_is_text pm_d_l_is_text an_d_l_is_text cd_d_l_is_text ct_d_l_is_text), sl_d_l_is_text⟩)
    (l_d_l_is_act : K.lookup f_d_l_is_act = some ⟨oc_d_l_is_act, od_d_l_is_act, .func (PySem.W.fnOf "_law_is_act" "_law_is_act" (defArgs s_l_is_act) (defBody s_l_is_act) (defScope s_l_is_act) .none kV_d_l_is_act dc_d_l_is_act pm_d_l_is_act an_d_l_is_act cd_d_l_is_act ct_d_l_is_act), sl_d_l_is_act⟩)
    (l_d_l_written : K.lookup f_d_l_written = some ⟨oc_d_l_written, od_d_l_written, .func (PySem.W.fnOf "_law_written" "_law_written" (defArgs s_l_written) (defBody s_l_written) (defScope s_l_written) .none kV_d_l_written dc_d_l_written pm_d_l_written an_d_l_written cd_d_l_written ct_d_l_written), sl_d_l_written⟩)
    (l_d_l_number : K.lookup f_d_l_number = some ⟨oc_d_l_number, od_d_l_number, .func (PySem.W.fnOf "_law_number" "_law_number" (defArgs s_l_number) (defBody s_l_number) (defScope s_l_number) .none kV_d_l_number dc_d_l_number pm_d_l_number an_d_l_number cd_d_l_number ct_d_l_number), sl_d_l_number⟩)
    (l_d_l_read : K.lookup f_d_l_read = some ⟨oc_d_l_read, od_d_l_read, .func (PySem.W.fnOf "_law_read" "_law_read" (defArgs s_l_read) (defBody s_l_read) (defScope s_l_read) .none kV_d_l_read dc_d_l_read pm_d_l_read an_d_l_read cd_d_l_read ct_d_l_read), sl_d_l_read⟩)
    (l_d_l_told : K.lookup f_d_l_told = some ⟨oc_d_l_told, od_d_l_told, .func (PySem.W.fnOf "_law_told" "_law_told" (defArgs s_l_told) (defBody s_l_told) (defScope s_l_told) .none kV_d_l_told dc_d_l_told pm_d_l_told an_d_l_told cd_d_l_told ct_d_l_told), sl_d_l_told⟩)
    (l_d_l_line : K.lookup f_d_l_line = some ⟨oc_d_l_line, od_d_l_line, .func (PySem.W.fnOf "_law_line" "_law_line" (defArgs s_l_line) (defBody s_l_line) (defScope s_l_line) .none kV_d_l_line dc_d_l_line pm_d_l_line an_d_l_line cd_d_l_line ct_d_l_line), sl_d_l_line⟩)
    (l_d_l_spoilt_line : K.lookup f_d_l_spoilt_line = some ⟨oc_d_l_spoilt_line, od_d_l_spoilt_line, .func (PySem.W.fnOf "_law_spoilt_line" "_law_spoilt_line" (defArgs s_l_spoilt_line) (defBody s_l_spoilt_line) (defScope s_l_spoilt_line) .none kV_d_l_spoilt_line dc_d_l_spoilt_line pm_d_l_spoilt_line an_d_l_spoilt_line cd_d_l_spoilt_line ct_d_l_spoilt_line), sl_d_l_spoilt_line⟩)
    (l_d_l_spoilt_act : K.lookup f_d_l_spoilt_act = some ⟨oc_d_l_spoilt_act, od_d_l_spoilt_act, .func (PySem.W.fnOf "_law_spoilt_act" "_law_spoilt_act" (defArgs s_l_spoilt_act) (defBody s_l_spoilt_act) (defScope s_l_spoilt_act) .none kV_d_l_spoilt_act dc_d_l_spoilt_act pm_d_l_spoilt_act an_d_l_spoilt_act cd_d_l_spoilt_act ct_d_l_spoilt_act), sl_d_l_spoilt_act⟩)
    (l_d_l_odd : K.lookup f_d_l_odd = some ⟨oc_d_l_odd, od_d_l_odd, .func (PySem.W.fnOf "_law_odd" "_law_odd" (defArgs s_l_odd) (defBody s_l_odd) (defScope s_l_odd) .none kV_d_l_odd dc_d_l_odd pm_d_l_odd an_d_l_odd cd_d_l_odd ct_d_l_odd), sl_d_l_odd⟩)
    (l_d_l_same : K.lookup f_d_l_same = some ⟨oc_d_l_same, od_d_l_same, .func (PySem.W.fnOf "_law_same" "_law_same" (defArgs s_l_same) (defBody s_l_same) (defScope s_l_same) .none kV_d_l_same dc_d_l_same pm_d_l_same an_d_l_same cd_d_l_same ct_d_l_same), sl_d_l_same⟩)
    (l_d_l_right : K.lookup f_d_l_right = some ⟨oc_d_l_right, od_d_l_right, .func (PySem.W.fnOf "_law_right" "_law_right" (defArgs s_l_right) (defBody s_l_right) (defScope s_l_right) .none kV_d_l_right dc_d_l_right pm_d_l_right an_d_l_right cd_d_l_right ct_d_l_right), sl_d_l_right⟩)
    (l_d_law : K.lookup f_d_law = some ⟨oc_d_law, od_d_law, .func (PySem.W.fnOf "law" "law" (defArgs s_law) (defBody s_law) (defScope s_law) .none kV_d_law dc_d_law pm_d_law an_d_law cd_d_law ct_d_law), sl_d_law⟩)
    (l_zzw_ACT_FORMS : es_w_ACT_FORMS.toList = [{ hash := PyData.keyHash w.params "tick", key := .str "tick" t_w_ACT_FORMS_0, val := .ref A_ACT_FORMS_tick }, { hash := PyData.keyHash w.params "write", key := .str "write" t_w_ACT_FORMS_1, val := .ref A_ACT_FORMS_write }, { hash := PyData.keyHash w.params "carry", key := .str "carry" t_w_ACT_FORMS_2, val := .ref A_ACT_FORMS_carry }, { hash := PyData.keyHash w.params "drop", key := .str "drop" t_w_ACT_FORMS_3, val := .ref A_ACT_FORMS_drop }, { hash := PyData.keyHash w.params "double", key := .str "double" t_w_ACT_FORMS_4, val := .ref A_ACT_FORMS_double }, { hash := PyData.keyHash w.params "stop", key := .str "stop" t_w_ACT_FORMS_5, val := .ref A_ACT_FORMS_stop }, { hash := PyData.keyHash w.params "cut", key := .str "cut" t_w_ACT_FORMS_6, val := .ref A_ACT_FORMS_cut }, { hash := PyData.keyHash w.params "rise", key := .str "rise" t_w_ACT_FORMS_7, val := .ref A_ACT_FORMS_rise }])
    (l_zzzq_ACT_FORMS_tick : K.lookup A_ACT_FORMS_tick = some o_q_ACT_FORMS_tick)
    (l_zzzq_ACT_FORMS_write : K.lookup A_ACT_FORMS_write = some o_q_ACT_FORMS_write)
    (l_zzzq_ACT_FORMS_carry : K.lookup A_ACT_FORMS_carry = some o_q_ACT_FORMS_carry)
    (l_zzzq_ACT_FORMS_drop : K.lookup A_ACT_FORMS_drop = some o_q_ACT_FORMS_drop)
    (l_zzzq_ACT_FORMS_double : K.lookup A_ACT_FORMS_double = some o_q_ACT_FORMS_double)
    (l_zzzq_ACT_FORMS_stop : K.lookup A_ACT_FORMS_stop = some o_q_ACT_FORMS_stop)
    (l_zzzq_ACT_FORMS_cut : K.lookup A_ACT_FORMS_cut = some o_q_ACT_FORMS_cut)
    (l_zzzq_ACT_FORMS_rise : K.lookup A_ACT_FORMS_rise = some o_q_ACT_FORMS_rise)
    (xl_e_InvalidLine : K.lookup C_InvalidLine = some (excClassObj nm_e_InvalidLine q_e_InvalidLine C_InvalidLine N_e_InvalidLine bs_e_InvalidLine bm_e_InvalidLine true sn_e_InvalidLine sub_e_InvalidLine ab_e_InvalidLine col_e_InvalidLine dd_e_InvalidLine k0_e_InvalidLine k1_e_InvalidLine k2_e_InvalidLine k3_e_InvalidLine k5_e_InvalidLine "ValueError.__new__"))
    (xl_e_InvalidAct : K.lookup C_InvalidAct = some (excClassObj nm_e_InvalidAct q_e_InvalidAct C_InvalidAct N_e_InvalidAct bs_e_InvalidAct bm_e_InvalidAct true sn_e_InvalidAct sub_e_InvalidAct ab_e_InvalidAct col_e_InvalidAct dd_e_InvalidAct k0_e_InvalidAct k1_e_InvalidAct k2_e_InvalidAct k3_e_InvalidAct k5_e_InvalidAct "ValueError.__new__"))
    (c_x_InvalidLine : PySem.W.codeIn K cd_x_InvalidLine "InvalidLine.__init__" = true)
    (kp_x_InvalidLine : PySem.W.keepIn K (.ref f_x_InvalidLine) = true)
    (c_x_InvalidAct : PySem.W.codeIn K cd_x_InvalidAct "InvalidAct.__init__" = true)
    (kp_x_InvalidAct : PySem.W.keepIn K (.ref f_x_InvalidAct) = true)
    (rv_e_InvalidLine : PySem.HandSPX.refsVE bm_e_InvalidLine = true)
    (sa_e_InvalidLine : PySem.W.findIn K (.ref C_InvalidLine) "__setattr__" = some (some (.builtin "object.__setattr__")))
    (eb_C_InvalidLine : PySem.W.subIn K (.ref C_InvalidLine) (.type "BaseException") = some true)
    (ty_C_InvalidLine : PySem.W.typeIn K (.ref C_InvalidLine) = some (.type "type"))
    (kc_C_InvalidLine : PySem.W.keepIn K (.ref C_InvalidLine) = true)
    (ti_e_InvalidLine : PySem.W.typeIn K (.ref f_x_InvalidLine) = some (.type "function"))
    (nf_e_InvalidLine : PySem.W.findIn K (.ref C_InvalidLine) "given" = some none)
    (ga_e_InvalidLine : PySem.W.findIn K (.ref C_InvalidLine) "__getattribute__" = some (some (.builtin "BaseException.__getattribute__")))
    (gt_e_InvalidLine : PySem.W.findIn K (.ref C_InvalidLine) "__getattr__" = some none)
    (hd_C_InvalidLine : PySem.W.hasDictIn K C_InvalidLine = true)
    (ncl_e_InvalidLine : PySem.W.findIn K (.ref C_InvalidLine) "__class__" = some (some (.builtin "object.__class__")))
    (nsp : PySem.W.specialIn K (.builtin "object.__class__") "__get__" = some (some (.builtin "getset_descriptor.__get__")))
    (ntk : PySem.W.takesIn K (.builtin "object.__class__") = some true)
    (nmo_e_InvalidLine : PySem.W.mroIn K C_InvalidLine (.type "object") = some true)
    (rv_e_InvalidAct : PySem.HandSPX.refsVE bm_e_InvalidAct = true)
    (sa_e_InvalidAct : PySem.W.findIn K (.ref C_InvalidAct) "__setattr__" = some (some (.builtin "object.__setattr__")))
    (eb_C_InvalidAct : PySem.W.subIn K (.ref C_InvalidAct) (.type "BaseException") = some true)
    (ty_C_InvalidAct : PySem.W.typeIn K (.ref C_InvalidAct) = some (.type "type"))
    (kc_C_InvalidAct : PySem.W.keepIn K (.ref C_InvalidAct) = true)
    (ti_e_InvalidAct : PySem.W.typeIn K (.ref f_x_InvalidAct) = some (.type "function"))
    (nf_e_InvalidAct : PySem.W.findIn K (.ref C_InvalidAct) "given" = some none)
    (ga_e_InvalidAct : PySem.W.findIn K (.ref C_InvalidAct) "__getattribute__" = some (some (.builtin "BaseException.__getattribute__")))
    (gt_e_InvalidAct : PySem.W.findIn K (.ref C_InvalidAct) "__getattr__" = some none)
    (hd_C_InvalidAct : PySem.W.hasDictIn K C_InvalidAct = true)
    (ncl_e_InvalidAct : PySem.W.findIn K (.ref C_InvalidAct) "__class__" = some (some (.builtin "object.__class__")))
    (nmo_e_InvalidAct : PySem.W.mroIn K C_InvalidAct (.type "object") = some true)
    (su_C_InvalidLine_C_InvalidLine : PySem.W.subIn K (.ref C_InvalidLine) (.ref C_InvalidLine) = some true)
    (su_C_InvalidAct_C_InvalidAct : PySem.W.subIn K (.ref C_InvalidAct) (.ref C_InvalidAct) = some true)
    (lo_w_ACT_FORMS : (C_ACT_FORMS == sysModules) = false)
    (lc_q_ACT_FORMS_tick : o_q_ACT_FORMS_tick.cls = .type "tuple")
    (ld_q_ACT_FORMS_tick : o_q_ACT_FORMS_tick.data = .seq #[.str "house" t_q_ACT_FORMS_tick_0] n_q_ACT_FORMS_tick)
    (lc_q_ACT_FORMS_write : o_q_ACT_FORMS_write.cls = .type "tuple")
    (ld_q_ACT_FORMS_write : o_q_ACT_FORMS_write.data = .seq #[.str "house" t_q_ACT_FORMS_write_0, .str "cell" t_q_ACT_FORMS_write_1, .str "text" t_q_ACT_FORMS_write_2] n_q_ACT_FORMS_write)
    (lc_q_ACT_FORMS_carry : o_q_ACT_FORMS_carry.cls = .type "tuple")
    (ld_q_ACT_FORMS_carry : o_q_ACT_FORMS_carry.data = .seq #[.str "index" t_q_ACT_FORMS_carry_0] n_q_ACT_FORMS_carry)
    (lc_q_ACT_FORMS_drop : o_q_ACT_FORMS_drop.cls = .type "tuple")
    (ld_q_ACT_FORMS_drop : o_q_ACT_FORMS_drop.data = .seq #[.str "index" t_q_ACT_FORMS_drop_0] n_q_ACT_FORMS_drop)
    (lc_q_ACT_FORMS_double : o_q_ACT_FORMS_double.cls = .type "tuple")
    (ld_q_ACT_FORMS_double : o_q_ACT_FORMS_double.data = .seq #[.str "index" t_q_ACT_FORMS_double_0] n_q_ACT_FORMS_double)
    (lc_q_ACT_FORMS_stop : o_q_ACT_FORMS_stop.cls = .type "tuple")
    (ld_q_ACT_FORMS_stop : o_q_ACT_FORMS_stop.data = .seq #[.str "house" t_q_ACT_FORMS_stop_0, .str "count" t_q_ACT_FORMS_stop_1] n_q_ACT_FORMS_stop)
    (lc_q_ACT_FORMS_cut : o_q_ACT_FORMS_cut.cls = .type "tuple")
    (ld_q_ACT_FORMS_cut : o_q_ACT_FORMS_cut.data = .seq #[.str "house" t_q_ACT_FORMS_cut_0, .str "count" t_q_ACT_FORMS_cut_1] n_q_ACT_FORMS_cut)
    (lc_q_ACT_FORMS_rise : o_q_ACT_FORMS_rise.cls = .type "tuple")
    (ld_q_ACT_FORMS_rise : o_q_ACT_FORMS_rise.data = .seq #[.str "house" t_q_ACT_FORMS_rise_0] n_q_ACT_FORMS_rise)
    (z_n_abs : PySem.W.nsIn K mainGlobals "abs" = some none)
    (z_n_all : PySem.W.nsIn K mainGlobals "all" = some none)
    (z_n_bool : PySem.W.nsIn K mainGlobals "bool" = some none)
    (z_n_int : PySem.W.nsIn K mainGlobals "int" = some none)
    (z_n_isinstance : PySem.W.nsIn K mainGlobals "isinstance" = some none)
    (z_n_len : PySem.W.nsIn K mainGlobals "len" = some none)
    (z_n_list : PySem.W.nsIn K mainGlobals "list" = some none)
    (z_n_max : PySem.W.nsIn K mainGlobals "max" = some none)
    (z_n_min : PySem.W.nsIn K mainGlobals "min" = some none)
    (z_n_range : PySem.W.nsIn K mainGlobals "range" = some none)
    (z_n_repr : PySem.W.nsIn K mainGlobals "repr" = some none)
    (z_n_str : PySem.W.nsIn K mainGlobals "str" = some none)
    (z_n_sum : PySem.W.nsIn K mainGlobals "sum" = some none)
    (z_n_tuple : PySem.W.nsIn K mainGlobals "tuple" = some none)
    (z_n_zip : PySem.W.nsIn K mainGlobals "zip" = some none)
    (c_d_is_int : PySem.W.codeIn K cd_d_is_int "is_int" = true)
    (kp_d_is_int : PySem.W.keepIn K (.ref f_d_is_int) = true)
    (c_d_is_count : PySem.W.codeIn K cd_d_is_count "is_count" = true)
    (kp_d_is_count : PySem.W.keepIn K (.ref f_d_is_count) = true)
    (c_d_is_signs : PySem.W.codeIn K cd_d_is_signs "is_signs" = true)
    (kp_d_is_signs : PySem.W.keepIn K (.ref f_d_is_signs) = true)
    (c_d_is_numeral : PySem.W.codeIn K cd_d_is_numeral "is_numeral" = true)
    (kp_d_is_numeral : PySem.W.keepIn K (.ref f_d_is_numeral) = true)
    (c_d_is_cell : PySem.W.codeIn K cd_d_is_cell "is_cell" = true)
    (kp_d_is_cell : PySem.W.keepIn K (.ref f_d_is_cell) = true)
    (c_d_is_text : PySem.W.codeIn K cd_d_is_text "is_text" = true)
    (kp_d_is_text : PySem.W.keepIn K (.ref f_d_is_text) = true)
    (c_d_form_of : PySem.W.codeIn K cd_d_form_of "form_of" = true)
    (kp_d_form_of : PySem.W.keepIn K (.ref f_d_form_of) = true)
    (c_d_is_act : PySem.W.codeIn K cd_d_is_act "is_act" = true)
    (kp_d_is_act : PySem.W.keepIn K (.ref f_d_is_act) = true)
    (c_d_is_item : PySem.W.codeIn K cd_d_is_item "_is_item" = true)
    (kp_d_is_item : PySem.W.keepIn K (.ref f_d_is_item) = true)
    (c_d_act_line : PySem.W.codeIn K cd_d_act_line "act_line" = true)
    (kp_d_act_line : PySem.W.keepIn K (.ref f_d_act_line) = true)
    (c_d_read_act : PySem.W.codeIn K cd_d_read_act "read_act" = true)
    (kp_d_read_act : PySem.W.keepIn K (.ref f_d_read_act) = true)
    (c_d_act_in : PySem.W.codeIn K cd_d_act_in "_act_in" = true)
    (kp_d_act_in : PySem.W.keepIn K (.ref f_d_act_in) = true)
    (c_d_item_in : PySem.W.codeIn K cd_d_item_in "_item_in" = true)
    (kp_d_item_in : PySem.W.keepIn K (.ref f_d_item_in) = true)
    (c_d_l_cell : PySem.W.codeIn K cd_d_l_cell "_law_cell" = true)
    (kp_d_l_cell : PySem.W.keepIn K (.ref f_d_l_cell) = true)
    (c_d_l_box : PySem.W.codeIn K cd_d_l_box "_law_box" = true)
    (kp_d_l_box : PySem.W.keepIn K (.ref f_d_l_box) = true)
    (c_d_l_take : PySem.W.codeIn K cd_d_l_take "_law_take" = true)
    (kp_d_l_take : PySem.W.keepIn K (.ref f_d_l_take) = true)
    (c_d_l_kinds : PySem.W.codeIn K cd_d_l_kinds "_law_kinds" = true)
    (kp_d_l_kinds : PySem.W.keepIn K (.ref f_d_l_kinds) = true)
    (c_d_l_signs : PySem.W.codeIn K cd_d_l_signs "_law_signs" = true)
    (kp_d_l_signs : PySem.W.keepIn K (.ref f_d_l_signs) = true)
    (c_d_l_item : PySem.W.codeIn K cd_d_l_item "_law_item" = true)
    (kp_d_l_item : PySem.W.keepIn K (.ref f_d_l_item) = true)
    (c_d_l_act : PySem.W.codeIn K cd_d_l_act "_law_act" = true)
    (kp_d_l_act : PySem.W.keepIn K (.ref f_d_l_act) = true)
    (c_d_l_is_number : PySem.W.codeIn K cd_d_l_is_number "_law_is_number" = true)
    (kp_d_l_is_number : PySem.W.keepIn K (.ref f_d_l_is_number) = true)
    (c_d_l_is_cell : PySem.W.codeIn K cd_d_l_is_cell "_law_is_cell" = true)
    (kp_d_l_is_cell : PySem.W.keepIn K (.ref f_d_l_is_cell) = true)
    (c_d_l_is_text : PySem.W.codeIn K cd_d_l_is_text "_law_is_text" = true)
    (kp_d_l_is_text : PySem.W.keepIn K (.ref f_d_l_is_text) = true)
    (c_d_l_is_act : PySem.W.codeIn K cd_d_l_is_act "_law_is_act" = true)
    (kp_d_l_is_act : PySem.W.keepIn K (.ref f_d_l_is_act) = true)
    (c_d_l_written : PySem.W.codeIn K cd_d_l_written "_law_written" = true)
    (kp_d_l_written : PySem.W.keepIn K (.ref f_d_l_written) = true)
    (c_d_l_number : PySem.W.codeIn K cd_d_l_number "_law_number" = true)
    (kp_d_l_number : PySem.W.keepIn K (.ref f_d_l_number) = true)
    (c_d_l_read : PySem.W.codeIn K cd_d_l_read "_law_read" = true)
    (kp_d_l_read : PySem.W.keepIn K (.ref f_d_l_read) = true)
    (c_d_l_told : PySem.W.codeIn K cd_d_l_told "_law_told" = true)
    (kp_d_l_told : PySem.W.keepIn K (.ref f_d_l_told) = true)
    (c_d_l_line : PySem.W.codeIn K cd_d_l_line "_law_line" = true)
    (kp_d_l_line : PySem.W.keepIn K (.ref f_d_l_line) = true)
    (c_d_l_spoilt_line : PySem.W.codeIn K cd_d_l_spoilt_line "_law_spoilt_line" = true)
    (kp_d_l_spoilt_line : PySem.W.keepIn K (.ref f_d_l_spoilt_line) = true)
    (c_d_l_spoilt_act : PySem.W.codeIn K cd_d_l_spoilt_act "_law_spoilt_act" = true)
    (kp_d_l_spoilt_act : PySem.W.keepIn K (.ref f_d_l_spoilt_act) = true)
    (c_d_l_odd : PySem.W.codeIn K cd_d_l_odd "_law_odd" = true)
    (kp_d_l_odd : PySem.W.keepIn K (.ref f_d_l_odd) = true)
    (c_d_l_same : PySem.W.codeIn K cd_d_l_same "_law_same" = true)
    (kp_d_l_same : PySem.W.keepIn K (.ref f_d_l_same) = true)
    (c_d_l_right : PySem.W.codeIn K cd_d_l_right "_law_right" = true)
    (kp_d_l_right : PySem.W.keepIn K (.ref f_d_l_right) = true)
    (c_d_law : PySem.W.codeIn K cd_d_law "law" = true)
    (kp_d_law : PySem.W.keepIn K (.ref f_d_law) = true) :
    ∃ fd : FuncData, (∀ (s : Shared) (v : Value), BindsTo s fd ⟨[v], []⟩ [("_law_script", v)]) ∧ ∀ base : Heap, K.In base → base.Ns mainGlobals mg → FnG P w K mg base 9 fa fd ["_law_script"] (spLaw K) := by
  have e := hfa.symm.trans (mg_of X G a_d_law)
  cases e
  have F_x_InvalidLine := fun_mk (st := s_InvalidLine_init) l_x_InvalidLine c_x_InvalidLine kp_x_InvalidLine
  have b_x_InvalidLine := F_x_InvalidLine.binds (ps := ["self", "given"]) fun _ _ _ _ _ _ us hl => match us, hl with | [_, _], _ => rfl
  have F_x_InvalidAct := fun_mk (st := s_InvalidAct_init) l_x_InvalidAct c_x_InvalidAct kp_x_InvalidAct
  have b_x_InvalidAct := F_x_InvalidAct.binds (ps := ["self", "given"]) fun _ _ _ _ _ _ us hl => match us, hl with | [_, _], _ => rfl
  have F_d_is_int := fun_mk (st := s_is_int) l_d_is_int c_d_is_int kp_d_is_int
  have F_d_is_count := fun_mk (st := s_is_count) l_d_is_count c_d_is_count kp_d_is_count
  have F_d_is_signs := fun_mk (st := s_is_signs) l_d_is_signs c_d_is_signs kp_d_is_signs
  have F_d_is_numeral := fun_mk (st := s_is_numeral) l_d_is_numeral c_d_is_numeral kp_d_is_numeral
  have F_d_is_cell := fun_mk (st := s_is_cell) l_d_is_cell c_d_is_cell kp_d_is_cell
  have F_d_is_text := fun_mk (st := s_is_text) l_d_is_text c_d_is_text kp_d_is_text
  have F_d_form_of := fun_mk (st := s_form_of) l_d_form_of c_d_form_of kp_d_form_of
  have F_d_is_act := fun_mk (st := s_is_act) l_d_is_act c_d_is_act kp_d_is_act
  have F_d_is_item := fun_mk (st := s_is_item) l_d_is_item c_d_is_item kp_d_is_item
  have F_d_act_line := fun_mk (st := s_act_line) l_d_act_line c_d_act_line kp_d_act_line
  have F_d_read_act := fun_mk (st := s_read_act) l_d_read_act c_d_read_act kp_d_read_act
  have F_d_act_in := fun_mk (st := s_act_in) l_d_act_in c_d_act_in kp_d_act_in
  have F_d_item_in := fun_mk (st := s_item_in) l_d_item_in c_d_item_in kp_d_item_in
  have F_d_l_cell := fun_mk (st := s_l_cell) l_d_l_cell c_d_l_cell kp_d_l_cell
  have F_d_l_box := fun_mk (st := s_l_box) l_d_l_box c_d_l_box kp_d_l_box
  have F_d_l_take := fun_mk (st := s_l_take) l_d_l_take c_d_l_take kp_d_l_take
  have F_d_l_kinds := fun_mk (st := s_l_kinds) l_d_l_kinds c_d_l_kinds kp_d_l_kinds
  have F_d_l_signs := fun_mk (st := s_l_signs) l_d_l_signs c_d_l_signs kp_d_l_signs
  have F_d_l_item := fun_mk (st := s_l_item) l_d_l_item c_d_l_item kp_d_l_item
  have F_d_l_act := fun_mk (st := s_l_act) l_d_l_act c_d_l_act kp_d_l_act
  have F_d_l_is_number := fun_mk (st := s_l_is_number) l_d_l_is_number c_d_l_is_number kp_d_l_is_number
  have F_d_l_is_cell := fun_mk (st := s_l_is_cell) l_d_l_is_cell c_d_l_is_cell kp_d_l_is_cell
  have F_d_l_is_text := fun_mk (st := s_l_is_text) l_d_l_is_text c_d_l_is_text kp_d_l_is_text
  have F_d_l_is_act := fun_mk (st := s_l_is_act) l_d_l_is_act c_d_l_is_act kp_d_l_is_act
  have F_d_l_written := fun_mk (st := s_l_written) l_d_l_written c_d_l_written kp_d_l_written
  have F_d_l_number := fun_mk (st := s_l_number) l_d_l_number c_d_l_number kp_d_l_number
  have F_d_l_read := fun_mk (st := s_l_read) l_d_l_read c_d_l_read kp_d_l_read
  have F_d_l_told := fun_mk (st := s_l_told) l_d_l_told c_d_l_told kp_d_l_told
  have F_d_l_line := fun_mk (st := s_l_line) l_d_l_line c_d_l_line kp_d_l_line
  have F_d_l_spoilt_line := fun_mk (st := s_l_spoilt_line) l_d_l_spoilt_line c_d_l_spoilt_line kp_d_l_spoilt_line
  have F_d_l_spoilt_act := fun_mk (st := s_l_spoilt_act) l_d_l_spoilt_act c_d_l_spoilt_act kp_d_l_spoilt_act
  have F_d_l_odd := fun_mk (st := s_l_odd) l_d_l_odd c_d_l_odd kp_d_l_odd
  have F_d_l_same := fun_mk (st := s_l_same) l_d_l_same c_d_l_same kp_d_l_same
  have F_d_l_right := fun_mk (st := s_l_right) l_d_l_right c_d_l_right kp_d_l_right
  have F_d_law := fun_mk (st := s_law) l_d_law c_d_law kp_d_law
  let T : Tx K mg w.params := {
    C_InvalidLine := C_InvalidLine,
    C_InvalidAct := C_InvalidAct,
    C_UnsaidError := C_UnsaidError,
    x_InvalidLine := ⟨f_x_InvalidLine, _, F_x_InvalidLine, b_x_InvalidLine, fun us ws h1 h2 => match us, ws, h1, h2 with | [_], [_], _, _ => rfl⟩,
    x_InvalidAct := ⟨f_x_InvalidAct, _, F_x_InvalidAct, b_x_InvalidAct, fun us ws h1 h2 => match us, ws, h1, h2 with | [_], [_], _, _ => rfl⟩,
    e_InvalidLine := ⟨mg_of X G g_e_InvalidLine, ⟨⟨_, _, _, _, _, _, _, _, _, _, _, _, _, _, _, xl_e_InvalidLine, rv_e_InvalidLine⟩, sa_e_InvalidLine, eb_C_InvalidLine, ty_C_InvalidLine, kc_C_InvalidLine⟩, a_x_InvalidLine, ti_e_InvalidLine, nf_e_InvalidLine, ⟨ga_e_InvalidLine, gt_e_InvalidLine, eb_C_InvalidLine, hd_C_InvalidLine, ncl_e_InvalidLine, nsp, ntk, nmo_e_InvalidLine⟩⟩,
    e_InvalidAct := ⟨mg_of X G g_e_InvalidAct, ⟨⟨_, _, _, _, _, _, _, _, _, _, _, _, _, _, _, xl_e_InvalidAct, rv_e_InvalidAct⟩, sa_e_InvalidAct, eb_C_InvalidAct, ty_C_InvalidAct, kc_C_InvalidAct⟩, a_x_InvalidAct, ti_e_InvalidAct, nf_e_InvalidAct, ⟨ga_e_InvalidAct, gt_e_InvalidAct, eb_C_InvalidAct, hd_C_InvalidAct, ncl_e_InvalidAct, nsp, ntk, nmo_e_InvalidAct⟩⟩,
    m_InvalidLine := mg_of X G g_e_InvalidLine,
    m_InvalidAct := mg_of X G g_e_InvalidAct,
    m_UnsaidError := mg_of X G g_m_UnsaidError,
    x_InvalidLine_InvalidLine := PySem.W.exm_ref eb_C_InvalidLine hd_C_InvalidLine ty_C_InvalidLine su_C_InvalidLine_C_InvalidLine,
    x_InvalidAct_InvalidAct := PySem.W.exm_ref eb_C_InvalidAct hd_C_InvalidAct ty_C_InvalidAct su_C_InvalidAct_C_InvalidAct,
    t_MOST_LETTERS := t_MOST_LETTERS,
    g_MOST_LETTERS := mg_of X G g_g_MOST_LETTERS,
    t_MOST_SIGNS := t_MOST_SIGNS,
    g_MOST_SIGNS := mg_of X G g_g_MOST_SIGNS,
    C_ACT_FORMS := C_ACT_FORMS,
    A_ACT_FORMS_tick := A_ACT_FORMS_tick,
    A_ACT_FORMS_write := A_ACT_FORMS_write,
    A_ACT_FORMS_carry := A_ACT_FORMS_carry,
    A_ACT_FORMS_drop := A_ACT_FORMS_drop,
    A_ACT_FORMS_double := A_ACT_FORMS_double,
    A_ACT_FORMS_stop := A_ACT_FORMS_stop,
    A_ACT_FORMS_cut := A_ACT_FORMS_cut,
    A_ACT_FORMS_rise := A_ACT_FORMS_rise,
    m_ACT_FORMS := mg_of X G g_m_ACT_FORMS,
    w_ACT_FORMS := WDict.mk' [t_w_ACT_FORMS_0, t_w_ACT_FORMS_1, t_w_ACT_FORMS_2, t_w_ACT_FORMS_3, t_w_ACT_FORMS_4, t_w_ACT_FORMS_5, t_w_ACT_FORMS_6, t_w_ACT_FORMS_7] lo_w_ACT_FORMS l_w_ACT_FORMS rfl l_zzw_ACT_FORMS,
    q_ACT_FORMS_tick := ⟨_, _, _, l_zzzq_ACT_FORMS_tick, lc_q_ACT_FORMS_tick, ld_q_ACT_FORMS_tick, (show 1 ≤ sizeLine from by decide +kernel), (.cons ⟨_, rfl⟩ .nil)⟩,
    q_ACT_FORMS_write := ⟨_, _, _, l_zzzq_ACT_FORMS_write, lc_q_ACT_FORMS_write, ld_q_ACT_FORMS_write, (show 3 ≤ sizeLine from by decide +kernel), (.cons ⟨_, rfl⟩ (.cons ⟨_, rfl⟩ (.cons ⟨_, rfl⟩ .nil)))⟩,
    q_ACT_FORMS_carry := ⟨_, _, _, l_zzzq_ACT_FORMS_carry, lc_q_ACT_FORMS_carry, ld_q_ACT_FORMS_carry, (show 1 ≤ sizeLine from by decide +kernel), (.cons ⟨_, rfl⟩ .nil)⟩,
    q_ACT_FORMS_drop := ⟨_, _, _, l_zzzq_ACT_FORMS_drop, lc_q_ACT_FORMS_drop, ld_q_ACT_FORMS_drop, (show 1 ≤ sizeLine from by decide +kernel), (.cons ⟨_, rfl⟩ .nil)⟩,
    q_ACT_FORMS_double := ⟨_, _, _, l_zzzq_ACT_FORMS_double, lc_q_ACT_FORMS_double, ld_q_ACT_FORMS_double, (show 1 ≤ sizeLine from by decide +kernel), (.cons ⟨_, rfl⟩ .nil)⟩,
    q_ACT_FORMS_stop := ⟨_, _, _, l_zzzq_ACT_FORMS_stop, lc_q_ACT_FORMS_stop, ld_q_ACT_FORMS_stop, (show 2 ≤ sizeLine from by decide +kernel), (.cons ⟨_, rfl⟩ (.cons ⟨_, rfl⟩ .nil))⟩,
    q_ACT_FORMS_cut := ⟨_, _, _, l_zzzq_ACT_FORMS_cut, lc_q_ACT_FORMS_cut, ld_q_ACT_FORMS_cut, (show 2 ≤ sizeLine from by decide +kernel), (.cons ⟨_, rfl⟩ (.cons ⟨_, rfl⟩ .nil))⟩,
    q_ACT_FORMS_rise := ⟨_, _, _, l_zzzq_ACT_FORMS_rise, lc_q_ACT_FORMS_rise, ld_q_ACT_FORMS_rise, (show 1 ≤ sizeLine from by decide +kernel), (.cons ⟨_, rfl⟩ .nil)⟩,
    n_abs := mg_none_of X G z_n_abs,
    n_all := mg_none_of X G z_n_all,
    n_bool := mg_none_of X G z_n_bool,
    n_int := mg_none_of X G z_n_int,
    n_isinstance := mg_none_of X G z_n_isinstance,
    n_len := mg_none_of X G z_n_len,
    n_list := mg_none_of X G z_n_list,
    n_max := mg_none_of X G z_n_max,
    n_min := mg_none_of X G z_n_min,
    n_range := mg_none_of X G z_n_range,
    n_repr := mg_none_of X G z_n_repr,
    n_str := mg_none_of X G z_n_str,
    n_sum := mg_none_of X G z_n_sum,
    n_tuple := mg_none_of X G z_n_tuple,
    n_zip := mg_none_of X G z_n_zip,
    d_is_int := ⟨f_d_is_int, _, F_d_is_int, mg_of X G a_d_is_int, fun us hl => match us, hl with | [_], _ => rfl, fun us ws h1 h2 => match us, ws, h1, h2 with | [], [_], _, _ => rfl⟩,
    d_is_count := ⟨f_d_is_count, _, F_d_is_count, mg_of X G a_d_is_count, fun us hl => match us, hl with | [_], _ => rfl, fun us ws h1 h2 => match us, ws, h1, h2 with | [], [_], _, _ => rfl⟩,
    d_is_signs := ⟨f_d_is_signs, _, F_d_is_signs, mg_of X G a_d_is_signs, fun us hl => match us, hl with | [_], _ => rfl, fun us ws h1 h2 => match us, ws, h1, h2 with | [], [_], _, _ => rfl⟩,
    d_is_numeral := ⟨f_d_is_numeral, _, F_d_is_numeral, mg_of X G a_d_is_numeral, fun us hl => match us, hl with | [_], _ => rfl, fun us ws h1 h2 => match us, ws, h1, h2 with | [], [_], _, _ => rfl⟩,
    d_is_cell := ⟨f_d_is_cell, _, F_d_is_cell, mg_of X G a_d_is_cell, fun us hl => match us, hl with | [_], _ => rfl, fun us ws h1 h2 => match us, ws, h1, h2 with | [], [_], _, _ => rfl⟩,
    d_is_text := ⟨f_d_is_text, _, F_d_is_text, mg_of X G a_d_is_text, fun us hl => match us, hl with | [_], _ => rfl, fun us ws h1 h2 => match us, ws, h1, h2 with | [], [_], _, _ => rfl⟩,
    d_form_of := ⟨f_d_form_of, _, F_d_form_of, mg_of X G a_d_form_of, fun us hl => match us, hl with | [_], _ => rfl, fun us ws h1 h2 => match us, ws, h1, h2 with | [], [_], _, _ => rfl⟩,
    d_is_act := ⟨f_d_is_act, _, F_d_is_act, mg_of X G a_d_is_act, fun us hl => match us, hl with | [_], _ => rfl, fun us ws h1 h2 => match us, ws, h1, h2 with | [], [_], _, _ => rfl⟩,
    d_is_item := ⟨f_d_is_item, _, F_d_is_item, mg_of X G a_d_is_item, fun us hl => match us, hl with | [_, _], _ => rfl, fun us ws h1 h2 => match us, ws, h1, h2 with | [], [_, _], _, _ => rfl⟩,
    d_act_line := ⟨f_d_act_line, _, F_d_act_line, mg_of X G a_d_act_line, fun us hl => match us, hl with | [_], _ => rfl, fun us ws h1 h2 => match us, ws, h1, h2 with | [], [_], _, _ => rfl⟩,
    d_read_act := ⟨f_d_read_act, _, F_d_read_act, mg_of X G a_d_read_act, fun us hl => match us, hl with | [_], _ => rfl, fun us ws h1 h2 => match us, ws, h1, h2 with | [], [_], _, _ => rfl⟩,
    d_act_in := ⟨f_d_act_in, _, F_d_act_in, mg_of X G a_d_act_in, fun us hl => match us, hl with | [_], _ => rfl, fun us ws h1 h2 => match us, ws, h1, h2 with | [], [_], _, _ => rfl⟩,
    d_item_in := ⟨f_d_item_in, _, F_d_item_in, mg_of X G a_d_item_in, fun us hl => match us, hl with | [_, _], _ => rfl, fun us ws h1 h2 => match us, ws, h1, h2 with | [], [_, _], _, _ => rfl⟩,
    d_l_cell := ⟨f_d_l_cell, _, F_d_l_cell, mg_of X G a_d_l_cell, fun us hl => match us, hl with | [_, _], _ => rfl, fun us ws h1 h2 => match us, ws, h1, h2 with | [], [_, _], _, _ => rfl⟩,
    d_l_box := ⟨f_d_l_box, _, F_d_l_box, mg_of X G a_d_l_box, fun us hl => match us, hl with | [_], _ => rfl, fun us ws h1 h2 => match us, ws, h1, h2 with | [], [_], _, _ => rfl⟩,
    d_l_take := ⟨f_d_l_take, _, F_d_l_take, mg_of X G a_d_l_take, fun us hl => match us, hl with | [_, _], _ => rfl, fun us ws h1 h2 => match us, ws, h1, h2 with | [], [_, _], _, _ => rfl⟩,
    d_l_kinds := ⟨f_d_l_kinds, _, F_d_l_kinds, mg_of X G a_d_l_kinds, fun us hl => match us, hl with | [_], _ => rfl, fun us ws h1 h2 => match us, ws, h1, h2 with | [], [_], _, _ => rfl⟩,
    d_l_signs := ⟨f_d_l_signs, _, F_d_l_signs, mg_of X G a_d_l_signs, fun us hl => match us, hl with | [], _ => rfl, fun us ws h1 h2 => match us, ws, h1, h2 with | [], [], _, _ => rfl⟩,
    d_l_item := ⟨f_d_l_item, _, F_d_l_item, mg_of X G a_d_l_item, fun us hl => match us, hl with | [_, _], _ => rfl, fun us ws h1 h2 => match us, ws, h1, h2 with | [], [_, _], _, _ => rfl⟩,
    d_l_act := ⟨f_d_l_act, _, F_d_l_act, mg_of X G a_d_l_act, fun us hl => match us, hl with | [_], _ => rfl, fun us ws h1 h2 => match us, ws, h1, h2 with | [], [_], _, _ => rfl⟩,
    d_l_is_number := ⟨f_d_l_is_number, _, F_d_l_is_number, mg_of X G a_d_l_is_number, fun us hl => match us, hl with | [_], _ => rfl, fun us ws h1 h2 => match us, ws, h1, h2 with | [], [_], _, _ => rfl⟩,
    d_l_is_cell := ⟨f_d_l_is_cell, _, F_d_l_is_cell, mg_of X G a_d_l_is_cell, fun us hl => match us, hl with | [_], _ => rfl, fun us ws h1 h2 => match us, ws, h1, h2 with | [], [_], _, _ => rfl⟩,
    d_l_is_text := ⟨f_d_l_is_text, _, F_d_l_is_text, mg_of X G a_d_l_is_text, fun us hl => match us, hl with | [_], _ => rfl, fun us ws h1 h2 => match us, ws, h1, h2 with | [], [_], _, _ => rfl⟩,
    d_l_is_act := ⟨f_d_l_is_act, _, F_d_l_is_act, mg_of X G a_d_l_is_act, fun us hl => match us, hl with | [_], _ => rfl, fun us ws h1 h2 => match us, ws, h1, h2 with | [], [_], _, _ => rfl⟩,
    d_l_written := ⟨f_d_l_written, _, F_d_l_written, mg_of X G a_d_l_written, fun us hl => match us, hl with | [_], _ => rfl, fun us ws h1 h2 => match us, ws, h1, h2 with | [], [_], _, _ => rfl⟩,
    d_l_number := ⟨f_d_l_number, _, F_d_l_number, mg_of X G a_d_l_number, fun us hl => match us, hl with | [_], _ => rfl, fun us ws h1 h2 => match us, ws, h1, h2 with | [], [_], _, _ => rfl⟩,
    d_l_read := ⟨f_d_l_read, _, F_d_l_read, mg_of X G a_d_l_read, fun us hl => match us, hl with | [_], _ => rfl, fun us ws h1 h2 => match us, ws, h1, h2 with | [], [_], _, _ => rfl⟩,
    d_l_told := ⟨f_d_l_told, _, F_d_l_told, mg_of X G a_d_l_told, fun us hl => match us, hl with | [_, _], _ => rfl, fun us ws h1 h2 => match us, ws, h1, h2 with | [], [_, _], _, _ => rfl⟩,
    d_l_line := ⟨f_d_l_line, _, F_d_l_line, mg_of X G a_d_l_line, fun us hl => match us, hl with | [_, _], _ => rfl, fun us ws h1 h2 => match us, ws, h1, h2 with | [], [_, _], _, _ => rfl⟩,
    d_l_spoilt_line := ⟨f_d_l_spoilt_line, _, F_d_l_spoilt_line, mg_of X G a_d_l_spoilt_line, fun us hl => match us, hl with | [_, _], _ => rfl, fun us ws h1 h2 => match us, ws, h1, h2 with | [], [_, _], _, _ => rfl⟩,
    d_l_spoilt_act := ⟨f_d_l_spoilt_act, _, F_d_l_spoilt_act, mg_of X G a_d_l_spoilt_act, fun us hl => match us, hl with | [_, _], _ => rfl, fun us ws h1 h2 => match us, ws, h1, h2 with | [], [_, _], _, _ => rfl⟩,
    d_l_odd := ⟨f_d_l_odd, _, F_d_l_odd, mg_of X G a_d_l_odd, fun us hl => match us, hl with | [_, _, _], _ => rfl, fun us ws h1 h2 => match us, ws, h1, h2 with | [], [_, _, _], _, _ => rfl⟩,
    d_l_same := ⟨f_d_l_same, _, F_d_l_same, mg_of X G a_d_l_same, fun us hl => match us, hl with | [_, _], _ => rfl, fun us ws h1 h2 => match us, ws, h1, h2 with | [], [_, _], _, _ => rfl⟩,
    d_l_right := ⟨f_d_l_right, _, F_d_l_right, mg_of X G a_d_l_right, fun us hl => match us, hl with | [_], _ => rfl, fun us ws h1 h2 => match us, ws, h1, h2 with | [], [_], _, _ => rfl⟩,
    d_law := ⟨fa, _, F_d_law, mg_of X G a_d_law, fun us hl => match us, hl with | [_], _ => rfl, fun us ws h1 h2 => match us, ws, h1, h2 with | [], [_], _, _ => rfl⟩ }
  exact ⟨_, fun s v => .of_eq rfl, fun base _ _ => ok_law T⟩
end K57

open PySem PySem.W PyProof.Rows
set_option maxRecDepth 100000 in
set_option maxHeartbeats 0 in
theorem PySem.Challenge.cw_neverunsaid_k57_acts_as_lines_holds : PySem.Challenge.rw_neverunsaid_k57_acts_as_lines.Holds := by
  w_on; o_law; k_head; (case hw => w_witness2)
  k_fill
  refine Nv.walkG (l := PySem.Challenge.rw_neverunsaid_k57_acts_as_lines) (n := 63) (k := 9) (x := "_law_script") (sp := K57.spLaw) rfl (by decide) rfl ⟨rfl, by decide, by decide⟩ (fun w h Y => PySem.W.kIn_of Y) ?F ?S
  case F =>
    intro w mg fa h KX G hmg
    refine' K57.all_mk KX G hmg ?g_e_InvalidLine ?g_e_InvalidAct ?g_m_UnsaidError ?g_g_MOST_LETTERS ?g_g_MOST_SIGNS ?g_m_ACT_FORMS ?a_x_InvalidLine ?a_x_InvalidAct ?a_d_is_int ?a_d_is_count ?a_d_is_signs ?a_d_is_numeral ?a_d_is_cell ?a_d_is_text ?a_d_form_of ?a_d_is_act ?a_d_is_item ?a_d_act_line ?a_d_read_act ?a_d_act_in ?a_d_item_in ?a_d_l_cell ?a_d_l_box ?a_d_l_take ?a_d_l_kinds ?a_d_l_signs ?a_d_l_item ?a_d_l_act ?a_d_l_is_number ?a_d_l_is_cell ?a_d_l_is_text ?a_d_l_is_act ?a_d_l_written ?a_d_l_number ?a_d_l_read ?a_d_l_told ?a_d_l_line ?a_d_l_spoilt_line ?a_d_l_spoilt_act ?a_d_l_odd ?a_d_l_same ?a_d_l_right ?a_d_law ?l_x_InvalidLine ?l_x_InvalidAct ?l_w_ACT_FORMS ?l_d_is_int ?l_d_is_count ?l_d_is_signs ?l_d_is_numeral ?l_d_is_cell ?l_d_is_text ?l_d_form_of ?l_d_is_act ?l_d_is_item ?l_d_act_line ?l_d_read_act ?l_d_act_in ?l_d_item_in ?l_d_l_cell ?l_d_l_box ?l_d_l_take ?l_d_l_kinds ?l_d_l_signs ?l_d_l_item ?l_d_l_act ?l_d_l_is_number ?l_d_l_is_cell ?l_d_l_is_text ?l_d_l_is_act ?l_d_l_written ?l_d_l_number ?l_d_l_read ?l_d_l_told ?l_d_l_line ?l_d_l_spoilt_line ?l_d_l_spoilt_act ?l_d_l_odd ?l_d_l_same ?l_d_l_right ?l_d_law ?l_zzw_ACT_FORMS ?l_zzzq_ACT_FORMS_tick ?l_zzzq_ACT_FORMS_write ?l_zzzq_ACT_FORMS_carry ?l_zzzq_ACT_FORMS_drop ?l_zzzq_ACT_FORMS_double ?l_zzzq_ACT_FORMS_stop ?l_zzzq_ACT_FORMS_cut ?l_zzzq_ACT_FORMS_rise ?xl_e_InvalidLine ?xl_e_InvalidAct ?c_x_InvalidLine ?kp_x_InvalidLine ?c_x_InvalidAct ?kp_x_InvalidAct ?rv_e_InvalidLine ?sa_e_InvalidLine ?eb_C_InvalidLine ?ty_C_InvalidLine ?kc_C_InvalidLine ?ti_e_InvalidLine ?nf_e_InvalidLine ?ga_e_InvalidLine ?gt_e_InvalidLine ?hd_C_InvalidLine ?ncl_e_InvalidLine ?nsp ?ntk ?nmo_e_InvalidLine ?rv_e_InvalidAct ?sa_e_InvalidAct ?eb_C_InvalidAct ?ty_C_InvalidAct ?kc_C_InvalidAct ?ti_e_InvalidAct ?nf_e_InvalidAct ?ga_e_InvalidAct ?gt_e_InvalidAct ?hd_C_InvalidAct ?ncl_e_InvalidAct ?nmo_e_InvalidAct ?su_C_InvalidLine_C_InvalidLine ?su_C_InvalidAct_C_InvalidAct ?lo_w_ACT_FORMS ?lc_q_ACT_FORMS_tick ?ld_q_ACT_FORMS_tick ?lc_q_ACT_FORMS_write ?ld_q_ACT_FORMS_write ?lc_q_ACT_FORMS_carry ?ld_q_ACT_FORMS_carry ?lc_q_ACT_FORMS_drop ?ld_q_ACT_FORMS_drop ?lc_q_ACT_FORMS_double ?ld_q_ACT_FORMS_double ?lc_q_ACT_FORMS_stop ?ld_q_ACT_FORMS_stop ?lc_q_ACT_FORMS_cut ?ld_q_ACT_FORMS_cut ?lc_q_ACT_FORMS_rise ?ld_q_ACT_FORMS_rise ?z_n_abs ?z_n_all ?z_n_bool ?z_n_int ?z_n_isinstance ?z_n_len ?z_n_list ?z_n_max ?z_n_min ?z_n_range ?z_n_repr ?z_n_str ?z_n_sum ?z_n_tuple ?z_n_zip ?c_d_is_int ?kp_d_is_int ?c_d_is_count ?kp_d_is_count ?c_d_is_signs ?kp_d_is_signs ?c_d_is_numeral ?kp_d_is_numeral ?c_d_is_cell ?kp_d_is_cell ?c_d_is_text ?kp_d_is_text ?c_d_form_of ?kp_d_form_of ?c_d_is_act ?kp_d_is_act ?c_d_is_item ?kp_d_is_item ?c_d_act_line ?kp_d_act_line ?c_d_read_act ?kp_d_read_act ?c_d_act_in ?kp_d_act_in ?c_d_item_in ?kp_d_item_in ?c_d_l_cell ?kp_d_l_cell ?c_d_l_box ?kp_d_l_box ?c_d_l_take ?kp_d_l_take ?c_d_l_kinds ?kp_d_l_kinds ?c_d_l_signs ?kp_d_l_signs ?c_d_l_item ?kp_d_l_item ?c_d_l_act ?kp_d_l_act ?c_d_l_is_number ?kp_d_l_is_number ?c_d_l_is_cell ?kp_d_l_is_cell ?c_d_l_is_text ?kp_d_l_is_text ?c_d_l_is_act ?kp_d_l_is_act ?c_d_l_written ?kp_d_l_written ?c_d_l_number ?kp_d_l_number ?c_d_l_read ?kp_d_l_read ?c_d_l_told ?kp_d_l_told ?c_d_l_line ?kp_d_l_line ?c_d_l_spoilt_line ?kp_d_l_spoilt_line ?c_d_l_spoilt_act ?kp_d_l_spoilt_act ?c_d_l_odd ?kp_d_l_odd ?c_d_l_same ?kp_d_l_same ?c_d_l_right ?kp_d_l_right ?c_d_law ?kp_d_law
    (case g_e_InvalidLine => k_is)
    (case g_e_InvalidAct => k_is)
    (case g_m_UnsaidError => k_is)
    (case g_g_MOST_LETTERS => k_is)
    (case g_g_MOST_SIGNS => k_is)
    (case g_m_ACT_FORMS => k_is)
    (case a_x_InvalidLine => k_is)
    (case a_x_InvalidAct => k_is)
    (case a_d_is_int => k_is)
    (case a_d_is_count => k_is)
    (case a_d_is_signs => k_is)
    (case a_d_is_numeral => k_is)
    (case a_d_is_cell => k_is)
    (case a_d_is_text => k_is)
    (case a_d_form_of => k_is)
    (case a_d_is_act => k_is)
    (case a_d_is_item => k_is)
    (case a_d_act_line => k_is)
    (case a_d_read_act => k_is)
    (case a_d_act_in => k_is)
    (case a_d_item_in => k_is)
    (case a_d_l_cell => k_is)
    (case a_d_l_box => k_is)
    (case a_d_l_take => k_is)
    (case a_d_l_kinds => k_is)
    (case a_d_l_signs => k_is)
    (case a_d_l_item => k_is)
    (case a_d_l_act => k_is)
    (case a_d_l_is_number => k_is)
    (case a_d_l_is_cell => k_is)
    (case a_d_l_is_text => k_is)
    (case a_d_l_is_act => k_is)
    (case a_d_l_written => k_is)
    (case a_d_l_number => k_is)
    (case a_d_l_read => k_is)
    (case a_d_l_told => k_is)
    (case a_d_l_line => k_is)
    (case a_d_l_spoilt_line => k_is)
    (case a_d_l_spoilt_act => k_is)
    (case a_d_l_odd => k_is)
    (case a_d_l_same => k_is)
    (case a_d_l_right => k_is)
    (case a_d_law => k_is)
    (case l_x_InvalidLine => k_is)
    (case l_x_InvalidAct => k_is)
    (case l_w_ACT_FORMS => k_is)
    (case l_d_is_int => k_is)
    (case l_d_is_count => k_is)
    (case l_d_is_signs => k_is)
    (case l_d_is_numeral => k_is)
    (case l_d_is_cell => k_is)
    (case l_d_is_text => k_is)
    (case l_d_form_of => k_is)
    (case l_d_is_act => k_is)
    (case l_d_is_item => k_is)
    (case l_d_act_line => k_is)
    (case l_d_read_act => k_is)
    (case l_d_act_in => k_is)
    (case l_d_item_in => k_is)
    (case l_d_l_cell => k_is)
    (case l_d_l_box => k_is)
    (case l_d_l_take => k_is)
    (case l_d_l_kinds => k_is)
    (case l_d_l_signs => k_is)
    (case l_d_l_item => k_is)
    (case l_d_l_act => k_is)
    (case l_d_l_is_number => k_is)
    (case l_d_l_is_cell => k_is)
    (case l_d_l_is_text => k_is)
    (case l_d_l_is_act => k_is)
    (case l_d_l_written => k_is)
    (case l_d_l_number => k_is)
    (case l_d_l_read => k_is)
    (case l_d_l_told => k_is)
    (case l_d_l_line => k_is)
    (case l_d_l_spoilt_line => k_is)
    (case l_d_l_spoilt_act => k_is)
    (case l_d_l_odd => k_is)
    (case l_d_l_same => k_is)
    (case l_d_l_right => k_is)
    (case l_d_law => k_is)
    (case l_zzw_ACT_FORMS => rfl)
    (case l_zzzq_ACT_FORMS_tick => k_is)
    (case l_zzzq_ACT_FORMS_write => k_is)
    (case l_zzzq_ACT_FORMS_carry => k_is)
    (case l_zzzq_ACT_FORMS_drop => k_is)
    (case l_zzzq_ACT_FORMS_double => k_is)
    (case l_zzzq_ACT_FORMS_stop => k_is)
    (case l_zzzq_ACT_FORMS_cut => k_is)
    (case l_zzzq_ACT_FORMS_rise => k_is)
    (case xl_e_InvalidLine => k_is)
    (case xl_e_InvalidAct => k_is)
    (case c_x_InvalidLine => k_is)
    (case kp_x_InvalidLine => k_is)
    (case c_x_InvalidAct => k_is)
    (case kp_x_InvalidAct => k_is)
    (case rv_e_InvalidLine => decide +kernel)
    (case sa_e_InvalidLine => k_is)
    (case eb_C_InvalidLine => k_is)
    (case ty_C_InvalidLine => k_is)
    (case kc_C_InvalidLine => k_is)
    (case ti_e_InvalidLine => k_is)
    (case nf_e_InvalidLine => k_is)
    (case ga_e_InvalidLine => k_is)
    (case gt_e_InvalidLine => k_is)
    (case hd_C_InvalidLine => k_is)
    (case ncl_e_InvalidLine => k_is)
    (case nsp => k_is)
    (case ntk => k_is)
    (case nmo_e_InvalidLine => k_is)
    (case rv_e_InvalidAct => decide +kernel)
    (case sa_e_InvalidAct => k_is)
    (case eb_C_InvalidAct => k_is)
    (case ty_C_InvalidAct => k_is)
    (case kc_C_InvalidAct => k_is)
    (case ti_e_InvalidAct => k_is)
    (case nf_e_InvalidAct => k_is)
    (case ga_e_InvalidAct => k_is)
    (case gt_e_InvalidAct => k_is)
    (case hd_C_InvalidAct => k_is)
    (case ncl_e_InvalidAct => k_is)
    (case nmo_e_InvalidAct => k_is)
    (case su_C_InvalidLine_C_InvalidLine => k_is)
    (case su_C_InvalidAct_C_InvalidAct => k_is)
    (case lo_w_ACT_FORMS => rfl)
    (case lc_q_ACT_FORMS_tick => rfl)
    (case ld_q_ACT_FORMS_tick => rfl)
    (case lc_q_ACT_FORMS_write => rfl)
    (case ld_q_ACT_FORMS_write => rfl)
    (case lc_q_ACT_FORMS_carry => rfl)
    (case ld_q_ACT_FORMS_carry => rfl)
    (case lc_q_ACT_FORMS_drop => rfl)
    (case ld_q_ACT_FORMS_drop => rfl)
    (case lc_q_ACT_FORMS_double => rfl)
    (case ld_q_ACT_FORMS_double => rfl)
    (case lc_q_ACT_FORMS_stop => rfl)
    (case ld_q_ACT_FORMS_stop => rfl)
    (case lc_q_ACT_FORMS_cut => rfl)
    (case ld_q_ACT_FORMS_cut => rfl)
    (case lc_q_ACT_FORMS_rise => rfl)
    (case ld_q_ACT_FORMS_rise => rfl)
    (case z_n_abs => k_is)
    (case z_n_all => k_is)
    (case z_n_bool => k_is)
    (case z_n_int => k_is)
    (case z_n_isinstance => k_is)
    (case z_n_len => k_is)
    (case z_n_list => k_is)
    (case z_n_max => k_is)
    (case z_n_min => k_is)
    (case z_n_range => k_is)
    (case z_n_repr => k_is)
    (case z_n_str => k_is)
    (case z_n_sum => k_is)
    (case z_n_tuple => k_is)
    (case z_n_zip => k_is)
    (case c_d_is_int => k_is)
    (case kp_d_is_int => k_is)
    (case c_d_is_count => k_is)
    (case kp_d_is_count => k_is)
    (case c_d_is_signs => k_is)
    (case kp_d_is_signs => k_is)
    (case c_d_is_numeral => k_is)
    (case kp_d_is_numeral => k_is)
    (case c_d_is_cell => k_is)
    (case kp_d_is_cell => k_is)
    (case c_d_is_text => k_is)
    (case kp_d_is_text => k_is)
    (case c_d_form_of => k_is)
    (case kp_d_form_of => k_is)
    (case c_d_is_act => k_is)
    (case kp_d_is_act => k_is)
    (case c_d_is_item => k_is)
    (case kp_d_is_item => k_is)
    (case c_d_act_line => k_is)
    (case kp_d_act_line => k_is)
    (case c_d_read_act => k_is)
    (case kp_d_read_act => k_is)
    (case c_d_act_in => k_is)
    (case kp_d_act_in => k_is)
    (case c_d_item_in => k_is)
    (case kp_d_item_in => k_is)
    (case c_d_l_cell => k_is)
    (case kp_d_l_cell => k_is)
    (case c_d_l_box => k_is)
    (case kp_d_l_box => k_is)
    (case c_d_l_take => k_is)
    (case kp_d_l_take => k_is)
    (case c_d_l_kinds => k_is)
    (case kp_d_l_kinds => k_is)
    (case c_d_l_signs => k_is)
    (case kp_d_l_signs => k_is)
    (case c_d_l_item => k_is)
    (case kp_d_l_item => k_is)
    (case c_d_l_act => k_is)
    (case kp_d_l_act => k_is)
    (case c_d_l_is_number => k_is)
    (case kp_d_l_is_number => k_is)
    (case c_d_l_is_cell => k_is)
    (case kp_d_l_is_cell => k_is)
    (case c_d_l_is_text => k_is)
    (case kp_d_l_is_text => k_is)
    (case c_d_l_is_act => k_is)
    (case kp_d_l_is_act => k_is)
    (case c_d_l_written => k_is)
    (case kp_d_l_written => k_is)
    (case c_d_l_number => k_is)
    (case kp_d_l_number => k_is)
    (case c_d_l_read => k_is)
    (case kp_d_l_read => k_is)
    (case c_d_l_told => k_is)
    (case kp_d_l_told => k_is)
    (case c_d_l_line => k_is)
    (case kp_d_l_line => k_is)
    (case c_d_l_spoilt_line => k_is)
    (case kp_d_l_spoilt_line => k_is)
    (case c_d_l_spoilt_act => k_is)
    (case kp_d_l_spoilt_act => k_is)
    (case c_d_l_odd => k_is)
    (case kp_d_l_odd => k_is)
    (case c_d_l_same => k_is)
    (case kp_d_l_same => k_is)
    (case c_d_l_right => k_is)
    (case kp_d_l_right => k_is)
    (case c_d_law => k_is)
    (case kp_d_law => k_is)
  case S => exact fun K H a ns hl hS => ⟨a, ns, rfl, hS, hl, fun _ => rfl⟩
