import PyProof.Rows.All
import Wide.All
import OpenK.AllK
import Wide.FinOn
import HandS.ForMost
import HandS.ForExc
import HandS.IsInst
import HandS.StrMore
import HandS.Style
import HandS.Property
import HandS.Flow
import HandS.TryMany
import HandS.ExcInit
import HandS.ExcIs
import HandS.ExcField
import HandS.Defaults
import HandS.Wide
import HandS.Walk
import HandS.FStr
import HandS.Conv
import HandS.SortInts
import HandS.More
import PyProof.CallFns
import PyProof.FString3
import PyProof.Rows.StrIntSpec
import PyProof.P3Eq
import HandS.HotCalls
import PyProof.InstEq
import HandS.Small
import PyProof.Rows.StrSplitMax
import PyProof.StrLawsIn
import PyProof.FitsReplace
import PyProof.ReprRoads
import HandS.NamedTupGet
import HandS.OwnEq
import HandS.MakeKw
import PyProof.StrLawsChain
import HandS.Zip
import HandS.Zip0
import HandS.WrittenGet
import PyProof.ZipIter
import HandS.Sort
import HandS.TupAny
import HandS.RaiseMore
import PyProof.Rows.StrCase
import HandS.ExcValue
import HandS.DeepEq
import HandS.DictComp
import KE.KRevSl
import KE.OsRunLaw
import PySem.Challenge.RW_neverunsaid_k00_errors
set_option Elab.async false
set_option linter.all false
set_option maxRecDepth 100000
set_option maxHeartbeats 4000000
namespace K00T
open PySem PySem.W PyProof.Rows
local macro_rules | `(tactic| k_head) => `(tactic| k_headL)
set_option maxHeartbeats 0 in
open_top walked for PySem.Challenge.rw_neverunsaid_k00_errors
end K00T
namespace Nv
open PySem PySem.Spec PyProof.Rows L2

/-- a def's promise where no repr is under way -/
structure FnG (P : Program) (w : World) (K : PySem.W.Frag) (mg : Str → Option Value) (base : Heap) (k : Nat)
    (f : Addr) (fd : FuncData) (ps : List Str) (sp : Sp) : Prop where
  len : ∀ vs H Q E, sp vs H Q E → vs.length = ps.length
  run : ∀ (A : Around) (outer : List Env) (s : Shared) (H : Hp) (args : Args) (us : List Value) (vs : List V) (Q : VK) (E : XK),
    A.guards = some [] → Room k A → Env0 P w K mg base A outer s H → BindsTo s fd args (ps.zip us) → Vals vs us →
    sp vs H Q E → codeAny (model P w) A (.call (.ref f) args) (CR (L2.CX P w) outer P w H s Q E) s

section
variable {P : Program} {w : World} {K : PySem.W.Frag} {mg : Str → Option Value} {base : Heap} {k : Nat}
    {f : Addr} {fd : FuncData} {ps : List Str} {sp : Sp}
theorem FnG.mono {j : Nat} (F : FnG P w K mg base j f fd ps sp) (h : j ≤ k) : FnG P w K mg base k f fd ps sp :=
  ⟨F.len, fun A o s H a us vs Q E hg hr => F.run A o s H a us vs Q E hg (hr.mono h)⟩
theorem FnG.imp {sp' : Sp} (F : FnG P w K mg base k f fd ps sp) (h : ∀ vs H Q E, sp' vs H Q E → sp vs H Q E) :
    FnG P w K mg base k f fd ps sp' :=
  ⟨fun vs H Q E z => F.len vs H Q E (h _ _ _ _ z),
    fun A o s H a us vs Q E hg hr he hb hv hs => F.run A o s H a us vs Q E hg hr he hb hv (h _ _ _ _ hs)⟩
/-- a def by its body -/
theorem okG {x qual : Str} {st : Stmt} {N : List Str} (F : Fun K x qual st f fd) (S : FnScope N ps (defScope st))
    (len : ∀ vs H Q E, sp vs H Q E → vs.length = ps.length)
    (body : ∀ (cdv : Value) (A : Around) (outer : List Env) (s : Shared) (H : Hp) (vs : List V) (Q : VK) (E : XK),
      A.guards = some [] → Room k (A.deeper (envOfC qual (defScope st) s.heap.objs.size f cdv)) → sp vs H Q E →
      ∃ t, PSs (cxOf (L2.CX P w) P w K mg base N qual (defScope st) f cdv A outer s H E) (defBody st) t ∧
        t { nx := fun _ H' => Q .non H', rt := Q } (start N vs) H) :
    FnG P w K mg base (k + 1) f fd ps sp := by
  obtain ⟨oc, od, kV, doc, pm, an, cdv, ct, osl, rfl, lk, hcd⟩ := F.ex
  refine ⟨len, ?_⟩
  intro A outer s H args us vs Q E hg hr e0 hb r hsp
  have hl := len _ _ _ _ hsp
  have stays : ∀ b o, base.get? b = some o → s.heap.get? b = some o := fun b o e => (e0.bs b o e).1
  have KX : K.In s.heap := e0.mod.kin.keeps stays
  have kinds : ∀ y ∈ ps.zip us, (defScope st).names.lookup y.1 = some .local ∨
      ((defScope st).names.lookup y.1 = some .cell ∧
        ((cellsFrom (s.heap.objs.size + 1) (defScope st).names []).lookup y.1).isSome = true) := by
    intro y hy
    rcases S.par y.1 (List.of_mem_zip (a := y.1) (b := y.2) hy).1 with q | q
    · exact Or.inl q
    · exact Or.inr ⟨q, PySem.W.cellsFrom_some _ _ _ (Or.inl q)⟩
  refine codeAny_call_function hr.depth (KX _ _ lk) rfl S.co S.gen rfl (PySem.W.codeRec_of KX hcd) (hb _ _ _ _ ?_)
  refine wpAny_newFunctionEnv_cells S.kind kinds ?_
  intro env he s1 x
  subst he
  refine ⟨(e0.mod.nolimit.keeps stays).keeps x.toInCall.keep, codeAny_func ?_⟩
  obtain ⟨t, ht, hq⟩ := body cdv A outer s H vs Q E hg (hr.deeper _) hsp
  have I := inv_start (CX := L2.CX P w) (E := E) S hr.hd e0 hl r x
  refine wpAny_mono (ht.run [] s1 (start N vs) H _ I hq) ?_ (fun _ _ z => z)
  intro fl s' hs
  have fin : ∀ {σ' : L2.St} {H' : Hp} {v : V} {u : Value},
      Inv (cxOf (L2.CX P w) P w K mg base N qual (defScope st) f cdv A outer s H E) [] σ' H' s' → RelV v u → Q v H' →
      CE outer P w H s Q u s' := fun {σ' H' v u} J rv q => ⟨v, H', J.os, J.bare, J.base, J.hok, rv, q⟩
  cases fl with
  | next => obtain ⟨_, _, J, q⟩ := hs; exact fin (v := V.non) (u := Value.none) J rfl q
  | ret u => obtain ⟨_, _, _, J, rv, q⟩ := hs; exact fin J rv q
  | brk => obtain ⟨_, _, _, q⟩ := hs; exact q.elim
  | cont => obtain ⟨_, _, _, q⟩ := hs; exact q.elim
end

/-! calls -/
section
variable {X : Cx} {W : WX} {k : Nat} {f C : Addr} {fd : FuncData} {ps ks : List Str} {sp : Sp} {x m : Str}
    {p pos apos : Pos} {e o : Expr} {es : List Expr} {kws : List Keyword} {ta : TE} {t tk' : TA}
theorem runG {pins : List (Addr × Obj)} {σ : L2.St} {H : Hp} {s : Shared} {Q : VK} {us us2 : List Value} {vs : List V} {kw : List (Str × Value)}
    (F : FnG X.prog X.w X.K X.mg X.base k f fd ps sp) (tk : Takes X W) (hG : X.A.guards = some []) (hr : Room k X.A)
    (hb : BindsTo s fd ⟨us, kw⟩ (ps.zip us2)) (I : Inv X pins σ H s) (r : Vals vs us2) (h : sp vs H Q (WE W σ)) :
    wpAny (model X.prog X.w) X.A (call (.ref f) us kw) (EP X pins σ Q) X.xe s := by
  refine wpAny_call (codeAny_mono (F.run X.A X.stack s H ⟨us, kw⟩ us2 vs Q (WE W σ) hG hr I.env0 hb r h) ?_)
  intro r s' hq
  cases r with
  | error er => exact passAt tk σ pins H s er s' I hq
  | ok fl =>
    cases fl with
    | ret u => exact I.after hq
    | next => exact hq.elim
    | brk => exact hq.elim
    | cont => exact hq.elim
theorem lenG {us : List Value} {vs : List V} {H : Hp} {Q : VK} {E : XK} (F : FnG X.prog X.w X.K X.mg X.base k f fd ps sp)
    (r : Vals vs us) (h : sp vs H Q E) : us.length = ps.length := by
  rw [← r.length]
  exact F.len _ _ _ _ h
/-- all parameters are given by position -/
def Pos1 (fd : FuncData) (ps : List Str) : Prop := ∀ us : List Value, us.length = ps.length → bindArgs fd ⟨us, []⟩ = pure (ps.zip us)
/-- n parameters are given by position, those behind them by their names -/
def Kw1 (fd : FuncData) (ps ks : List Str) (n : Nat) : Prop :=
  ∀ us ws : List Value, us.length = n → ws.length = ks.length → bindArgs fd ⟨us, ks.zip ws⟩ = pure (ps.zip (us ++ ws))
/-- f(e, ..), also where it may raise -/
def tCG (sp : Sp) (W : WX) (t : TA) : TE := fun σ H Q => t σ H fun vs H1 => sp vs H1 Q (WE W σ)
theorem pe_cG (F : FnG X.prog X.w X.K X.mg X.base k f fd ps sp) (b : Pos1 fd ps) (tk : Takes X W) (hG : X.A.guards = some []) (hr : Room k X.A)
    (hm : X.mg x = some (.ref f)) (hk : PySem.W.keepIn X.K (.ref f) = true) (ha : PA X (e :: es) t) (hg : Gl X x := by rfl)
    (hdb : (x == ("__debug__" : Str)) = false := by decide) (he : starEach (e :: es) X.env = (false, eval e X.env) :: starEach es X.env := by rfl)
    (hpl : (backTo pos (starEach es X.env)).any (·.1) = false := by rfl) : PE X (.Call (.Name x p) (e :: es) [] pos) (tCG sp W t) := by
  constructor
  intro pins s σ H Q I h
  refine wpAny_Call_Name_kw (ld_glob I hg hm ?_ hdb)
  refine PySem.W.callWith_K (h₀ := X.base) I.ok.mod.kin hk (thn (ha.run pos pins s σ H _ I h) ?_) he hpl
  intro us s1 ⟨vs, H1, I1, r, q⟩
  exact ⟨I1.kIn, runG F tk hG hr (.of_eq (b _ (lenG F r q))) I1 r q⟩
theorem pe_cG0 (F : FnG X.prog X.w X.K X.mg X.base k f fd ps sp) (b : Pos1 fd ps) (tk : Takes X W) (hG : X.A.guards = some []) (hr : Room k X.A)
    (hm : X.mg x = some (.ref f)) (hk : PySem.W.keepIn X.K (.ref f) = true) (hg : Gl X x := by rfl)
    (hdb : (x == ("__debug__" : Str)) = false := by decide) : PE X (.Call (.Name x p) [] [] pos) (tCG sp W tNil) := by
  constructor
  intro pins s σ H Q I h
  refine wpAny_Call_Name_kw (ld_glob I hg hm ?_ hdb)
  exact PySem.W.callWith_K0 I.kIn hk (runG F tk hG hr (.of_eq (b [] (lenG F .nil h))) I .nil h)
/-- f(k = e, ..), keywords in the parameters' order -/
theorem pe_cGk (F : FnG X.prog X.w X.K X.mg X.base k f fd ps sp) (b : Kw1 fd ps ks 0) (hlen : ps.length = ks.length) (tk : Takes X W) (hG : X.A.guards = some []) (hr : Room k X.A)
    (hm : X.mg x = some (.ref f)) (hk : PySem.W.keepIn X.K (.ref f) = true) (ha : PK X kws t) (hg : Gl X x := by rfl)
    (hall : (backToKw pos (keywordEach kws X.env)).all (·.1.isSome) = true := by rfl) (hks : (backToKw pos (keywordEach kws X.env)).filterMap (·.1) = ks := by rfl)
    (hdb : (x == ("__debug__" : Str)) = false := by decide)
    (hpl : ((backTo pos (starEach [] X.env)).any (·.1) || (backToKw pos (keywordEach kws X.env)).any (·.1.isNone)) = false := by rfl) :
    PE X (.Call (.Name x p) [] kws pos) (tCG sp W t) := by
  constructor
  intro pins s σ H Q I h
  refine wpAny_Call_Name_kw (ld_glob I hg hm ?_ hdb)
  refine PySem.W.callWith_KW0 (h₀ := X.base) I.ok.mod.kin hk hall ?_ hpl
  refine thn (ha.run pos pins s σ H _ I h) ?_
  intro ws s2 ⟨zs, H2, I2, rz, q2⟩
  refine ⟨I2.kIn, ?_⟩
  rw [hks]
  exact runG F tk hG hr (.of_eq (b [] ws rfl ((lenG F rz q2).trans hlen))) I2 rz q2
/-- o.m(e, ..) -/
def tMG (C : Addr) (m : Str) (sp : Sp) (W : WX) (ta : TE) (t : TA) : TE := fun σ H Q => ta σ H fun x H1 => ∃ a dx fs, x = .ref a ∧ H1 a = some (.ins C dx fs) ∧
  fs.lookup m = none ∧ t σ H1 fun vs H2 => sp (x :: vs) H2 Q (WE W σ)
theorem pe_mG {pl : Sem Bool} (he : PE X o ta) (c : Cls X.K C) (hm : Meth X.K C m f) (F : FnG X.prog X.w X.K X.mg X.base k f fd ps sp) (b : Pos1 fd ps) (tk : Takes X W)
    (hG : X.A.guards = some []) (hr : Room k X.A) (ha : PA X (e :: es) t)
    (hst : starEach (e :: es) X.env = (false, eval e X.env) :: starEach es X.env := by rfl) (hpl : (backTo pos (starEach es X.env)).any (·.1) = false := by rfl)
    (ht : eval (.Call (.Attribute o m apos) (e :: es) [] pos) X.env = (do
      let ov ← eval o X.env
      standAt apos.atName
      let (f, first) ← holding [ov] (getMethod ov m pl)
      callWith pos f first (backTo pos (starEach (e :: es) X.env)) (backToKw pos (keywordEach [] X.env))) := by rfl) :
    PE X (.Call (.Attribute o m apos) (e :: es) [] pos) (tMG C m sp W ta t) := by
  constructor
  intro pins s σ H Q I h
  refine PySem.W.methodCall_KW (pl := pl) (thn (he.run pins s σ H _ I h) ?_) ht
  intro u s1 ⟨x, H1, I1, rx, a, dx, fs, ex, ea, l, q⟩
  subst ex
  obtain rfl : u = Value.ref a := rx
  refine getmeth_ok I1 ea c hm l ?_
  refine PySem.W.callWith_K (first := [.ref a]) (h₀ := X.base) I.ok.mod.kin hm.kp (thn (ha.run pos pins s1 σ H1 _ I1 q) ?_) hst hpl
  intro us s2 ⟨vs, H2, I2, r, q2⟩
  have r2 : Vals (V.ref a :: vs) (Value.ref a :: us) := .cons rfl r
  exact ⟨I2.kIn, runG (us := .ref a :: us) F tk hG hr (.of_eq (b _ (lenG F r2 q2))) I2 r2 q2⟩
theorem pe_mG0 {pl : Sem Bool} (he : PE X o ta) (c : Cls X.K C) (hm : Meth X.K C m f) (F : FnG X.prog X.w X.K X.mg X.base k f fd ps sp) (b : Pos1 fd ps) (tk : Takes X W)
    (hG : X.A.guards = some []) (hr : Room k X.A)
    (ht : eval (.Call (.Attribute o m apos) [] [] pos) X.env = (do
      let ov ← eval o X.env
      standAt apos.atName
      let (f, first) ← holding [ov] (getMethod ov m pl)
      callWith pos f first (backTo pos (starEach [] X.env)) (backToKw pos (keywordEach [] X.env))) := by rfl) :
    PE X (.Call (.Attribute o m apos) [] [] pos) (tMG C m sp W ta tNil) := by
  constructor
  intro pins s σ H Q I h
  refine PySem.W.methodCall_KW (pl := pl) (thn (he.run pins s σ H _ I h) ?_) ht
  intro u s1 ⟨x, H1, I1, rx, a, dx, fs, ex, ea, l, q⟩
  subst ex
  obtain rfl : u = Value.ref a := rx
  refine getmeth_ok I1 ea c hm l ?_
  have r2 : Vals [V.ref a] [Value.ref a] := .cons rfl .nil
  exact PySem.W.callWith_K0 (first := [.ref a]) I1.kIn hm.kp (runG (us := [.ref a]) F tk hG hr (.of_eq (b _ (lenG F r2 q))) I1 r2 q)
/-- o.m(k = e, ..) -/
theorem pe_mGk {pl : Sem Bool} (he : PE X o ta) (c : Cls X.K C) (hm : Meth X.K C m f) (F : FnG X.prog X.w X.K X.mg X.base k f fd ps sp) (b : Kw1 fd ps ks 1) (hlen : ps.length = ks.length + 1) (tk : Takes X W)
    (hG : X.A.guards = some []) (hr : Room k X.A) (ha : PK X kws t)
    (hall : (backToKw pos (keywordEach kws X.env)).all (·.1.isSome) = true := by rfl) (hks : (backToKw pos (keywordEach kws X.env)).filterMap (·.1) = ks := by rfl)
    (hpl : ((backTo pos (starEach [] X.env)).any (·.1) || (backToKw pos (keywordEach kws X.env)).any (·.1.isNone)) = false := by rfl)
    (ht : eval (.Call (.Attribute o m apos) [] kws pos) X.env = (do
      let ov ← eval o X.env
      standAt apos.atName
      let (f, first) ← holding [ov] (getMethod ov m pl)
      callWith pos f first (backTo pos (starEach [] X.env)) (backToKw pos (keywordEach kws X.env))) := by rfl) :
    PE X (.Call (.Attribute o m apos) [] kws pos) (tMG C m sp W ta t) := by
  constructor
  intro pins s σ H Q I h
  refine PySem.W.methodCall_KW (pl := pl) (thn (he.run pins s σ H _ I h) ?_) ht
  intro u s1 ⟨x, H1, I1, rx, a, dx, fs, ex, ea, l, q⟩
  subst ex
  obtain rfl : u = Value.ref a := rx
  refine getmeth_ok I1 ea c hm l ?_
  refine PySem.W.callWith_KW0 (first := [.ref a]) (h₀ := X.base) I.ok.mod.kin hm.kp hall ?_ hpl
  refine thn (ha.run pos pins s1 σ H1 _ I1 q) ?_
  intro ws s2 ⟨zs, H2, I2, rz, q2⟩
  refine ⟨I2.kIn, ?_⟩
  rw [hks]
  have r2 : Vals (V.ref a :: zs) (Value.ref a :: ws) := .cons rfl rz
  have hw : ws.length = ks.length := by
    have z := lenG F r2 q2
    rw [List.length_cons, hlen] at z
    omega
  exact runG (us := [.ref a]) F tk hG hr (.of_eq (b [.ref a] ws rfl hw)) I2 r2 q2
end
end Nv

namespace Nv
open PySem PySem.Spec PyProof.Rows L2

/-- the law's call, from an abstract heap that tracks the script alone or nothing -/
theorem law_from {P : Program} {w : World} {K : PySem.W.Frag} {mg mb : Str → Option Value} {k : Nat} {fa a : Addr} {fd : FuncData} {x : Str} {sp : Sp}
    {s₁ : Shared} {vs : List Value} {H : Hp}
    (KX : K.In s₁.heap) (hns : s₁.heap.Ns mainGlobals mg) (hb : s₁.heap.Ns builtinsNs mb) (hbb : ∀ x : Str, x ≠ "__name__" → mb x = bootBuiltins x)
    (hlim : s₁.heap.NoLimit) (hg : s₁.gens = #[]) (ha : s₁.heap.get? a = some { cls := .type "list", data := .seq vs.toArray }) (hr : Room k callerA)
    (F : ∀ base : Heap, K.In base → base.Ns mainGlobals mg → FnG P w K mg base k fa fd [x] sp) (hbind : ∀ (s : Shared) (u : Value), BindsTo s fd ⟨[u], []⟩ [(x, u)])
    (hok : HOk P w H s₁.heap) (only : ∀ b, H b = none ∨ (b = a ∧ K.lookup a = none ∧ ∃ o xs, H b = some (.frz o (.lst xs))))
    (hsp : sp [.ref a] H (fun v _ => v = .bl true) fun _ _ _ => False) :
    codeAny (model P w) callerA (.call (.ref fa) ⟨[.ref a], []⟩)
      (fun r s' => r = .ok (.ret (.bool true)) ∧ OldK s₁.heap s'.heap ∧ s'.os = s₁.os ∧ AllBare s'.gens) s₁ := by
  have notA : ∀ {b : Addr} {o : Obj} {es : Array DictEntry} {ep : Nat}, s₁.heap.get? b = some o → o.data = .dict es ep → H b = none := by
    intro b o es ep e d
    rcases only b with z | ⟨z, _, _⟩
    · exact z
    · subst z
      rw [ha] at e
      cases e
      cases (show Data.seq vs.toArray _ = Data.dict es ep from d)
  have nsKeep : ∀ {b : Addr} {m : Str → Option Value}, s₁.heap.Ns b m → (hidT s₁.heap H).Ns b m := by
    intro b m ⟨o, es, ep, e, d, r⟩
    exact ⟨o, es, ep, hidT_get e (notA e d), d, r⟩
  have kin : K.In (hidT s₁.heap H) := by
    intro b o e
    refine hidT_get (KX b o e) ?_
    rcases only b with z | ⟨z, z2, _⟩
    · exact z
    · rw [z, z2] at e
      cases e
  have lim : (hidT s₁.heap H).NoLimit := by
    obtain ⟨mc, h1, h2⟩ := hlim
    exact ⟨mc, nsKeep h1, h2⟩
  have md : Mod K mg (hidT s₁.heap H) := ⟨kin, nsKeep hns, ⟨mb, nsKeep hb, hbb⟩, lim⟩
  have noF : ∀ b : Addr, b ∉ frs [] := fun b z => by
    cases (show b ∈ ([] : List Addr) from z)
  have e0 : Env0 P w K mg (hidT s₁.heap H) callerA [] s₁ H :=
    ⟨rfl, md, fun b o e => of_hidT e, Nat.le_of_eq (hidT_size _ _), trivial, fun b z => absurd z (noF b), hok, .of_eq hg⟩
  refine codeAny_mono ((F _ kin (nsKeep hns)).run callerA [] s₁ H ⟨[.ref a], []⟩ [.ref a] [.ref a] _ _ rfl hr e0 (hbind s₁ (.ref a)) (.cons rfl .nil) hsp) ?_
  intro r s' h
  cases r with
  | error e =>
    obtain ⟨_, _, _, _, _, _, _, _, _, _, _, _, z⟩ := h
    exact z.elim
  | ok fl =>
    cases fl with
    | next => exact h.elim
    | brk => exact h.elim
    | cont => exact h.elim
    | ret u =>
      obtain ⟨v, H', os, bare, un, hok', rv, q⟩ := h
      have q1 : v = .bl true := q
      subst q1
      obtain rfl : u = Value.bool true := rv
      refine ⟨rfl, OldK.of_keep ?_, os, bare⟩
      intro b o e
      rcases only b with z | ⟨_, _, ob, xs, z⟩
      · exact un.keep b o e z (noF b) (fun z => by cases z)
      · have z2 := un.frzs b ob _ z
        have e1 := (hok b _ z).1
        have e2 := (hok' b _ z2).1
        rw [e] at e1
        cases e1
        exact e2

/-- the end of a law's row: its promise as a FnG -/
theorem walkG {l : PySem.W.OpenLaw} {n k : Nat} {q : Program} {loose : List Str} {XP : (Str → Option Value) → Heap → Prop} {YP : World → Heap → Prop}
    {d : DefRec} {K : Params → PySem.W.Frag} {sp : PySem.W.Frag → Sp} {x : Str}
    (hn : l.most = some n) (hn2 : n ≤ sizeLine) (hdf : d.params.defaults = []) (hr : Room k callerA)
    (hY : ∀ (w : World) (h : Heap), YP w h → (K w.params).In h)
    (F : ∀ (w : World) (mg : Str → Option Value) (fa : Addr) (h : Heap), (K w.params).In h → h.Ns mainGlobals mg → mg d.name = some (.ref fa) →
      ∃ fd : FuncData, (∀ (s : Shared) (u : Value), BindsTo s fd ⟨[u], []⟩ [(x, u)]) ∧
        ∀ base : Heap, (K w.params).In base → base.Ns mainGlobals mg → FnG l.prog w (K w.params) mg base k fa fd [x] (sp (K w.params)))
    (hsp : ∀ (K : PySem.W.Frag) (H : Hp) (a : Addr) (ns : List Int), ns.length ≤ n → SqL K H a (ns.map V.int) → sp K [.ref a] H (fun v _ => v = .bl true) fun _ _ _ => False) :
    PySem.W.WalkO q loose XP YP l.row.toRowW d [] (fun f vs => PySem.call f vs) := by
  refine Att.attach_call hn hdf ?_
  intro w s₀ s₁ mg mb fa o pm cd doc a vs ns G Y ho hd hcd hmg hobj hints hlen hg
  have KX := hY w _ Y
  obtain ⟨fd, hb, hF⟩ := F w mg fa _ KX G.T.g hmg
  have rv := vals_ints hints
  have lv := hints.length
  have hlz : ns.length ≤ sizeLine := Nat.le_trans hlen hn2
  cases hk : (K w.params).lookup a with
  | some ob =>
    have e := KX a ob hk
    rw [hobj] at e
    cases e
    refine law_from (H := fun _ => none) KX G.T.g G.T.b G.T.builtins G.T.nolimit hg hobj hr hF hb (fun b u z => by cases z) (fun _ => .inl rfl) (hsp _ _ a ns hlen ?_)
    exact .inr ⟨_, vs.toArray, _, hk, rfl, rfl, rfl, by rw [List.size_toArray, lv]; exact hlz, by simpa using rv⟩
  | none =>
    have at1 : ∀ (o : HO) , (fun b => if b = a then some o else none : Hp) a = some o := fun o => if_pos rfl
    refine law_from (H := fun b => if b = a then some (.frz { cls := .type "list", data := .seq vs.toArray } (.lst (ns.map V.int))) else none)
      KX G.T.g G.T.b G.T.builtins G.T.nolimit hg hobj hr hF hb ?_ ?_ (hsp _ _ a ns hlen (.inl (.inr ⟨_, at1 _⟩)))
    · intro b u z
      by_cases h : b = a
      · subst h
        rw [at1] at z
        cases z
        exact ⟨hobj, by rw [List.length_map]; exact hlz, vs, _, rv, hobj⟩
      · have z2 := (if_neg h).symm.trans z
        cases z2
    · intro b
      by_cases h : b = a
      · exact .inr ⟨h, hk, _, _, if_pos h⟩
      · exact .inl (if_neg h)
end Nv

namespace Nv
open PySem PySem.Spec PyProof.Rows L2

/-! data that stands in the heap, dicts too -/
def keyD : Key → PyData
  | .inl i => .int i
  | .inr x => .str x
mutual
inductive DV (H : Hp) : V → PyData → Prop
  | non : DV H .non .none
  | bl (b : Bool) : DV H (.bl b) (.bool b)
  | int (i : Int) : DV H (.int i) (.int i)
  | str (x : Str) : DV H (.str x) (.str x)
  | lst {a : Addr} {xs : List V} {ds : List PyData} : H a = some (.lst xs) → a ≠ sysModules → DVs H xs ds → DV H (.ref a) (.list ds)
  | tup {a : Addr} {xs : List V} {ds : List PyData} : H a = some (.tup xs) → DVs H xs ds → DV H (.ref a) (.tuple ds)
  | dct {a : Addr} {kvs : List (Key × V)} {ds : List (PyData × PyData)} : H a = some (.dK kvs) → DVk H kvs ds → DV H (.ref a) (.dict ds)
inductive DVs (H : Hp) : List V → List PyData → Prop
  | nil : DVs H [] []
  | cons {v : V} {vs : List V} {d : PyData} {ds : List PyData} : DV H v d → DVs H vs ds → DVs H (v :: vs) (d :: ds)
inductive DVk (H : Hp) : List (Key × V) → List (PyData × PyData) → Prop
  | nil : DVk H [] []
  | cons {k : Key} {v : V} {vs : List (Key × V)} {d : PyData} {ds : List (PyData × PyData)} : DV H v d → DVk H vs ds → DVk H ((k, v) :: vs) ((keyD k, d) :: ds)
end
mutual
theorem DV.mono {H H' : Hp} (e : ∀ a o, H a = some o → H' a = some o) : ∀ {v : V} {d : PyData}, DV H v d → DV H' v d
  | _, _, .non => .non
  | _, _, .bl b => .bl b
  | _, _, .int i => .int i
  | _, _, .str x => .str x
  | _, _, .lst h n r => .lst (e _ _ h) n (DVs.mono e r)
  | _, _, .tup h r => .tup (e _ _ h) (DVs.mono e r)
  | _, _, .dct h r => .dct (e _ _ h) (DVk.mono e r)
theorem DVs.mono {H H' : Hp} (e : ∀ a o, H a = some o → H' a = some o) : ∀ {vs : List V} {ds : List PyData}, DVs H vs ds → DVs H' vs ds
  | _, _, .nil => .nil
  | _, _, .cons h r => .cons (DV.mono e h) (DVs.mono e r)
theorem DVk.mono {H H' : Hp} (e : ∀ a o, H a = some o → H' a = some o) : ∀ {vs : List (Key × V)} {ds : List (PyData × PyData)}, DVk H vs ds → DVk H' vs ds
  | _, _, .nil => .nil
  | _, _, .cons h r => .cons (DV.mono e h) (DVk.mono e r)
end

section
variable {X : Cx} {pins : List (Addr × Obj)} {σ : L2.St} {H : Hp} {s : Shared}
theorem readsKey {w : World} {h : Heap} {k : Key} {v : Value} (e : keyIs k v = true) : Reads h v (keyD k) [] := by
  rcases keyIs_shape e with ⟨i, t, rfl, rfl⟩ | ⟨x, t, rfl, rfl⟩
  · exact .int i t
  · exact .str x t
mutual
theorem DV.reads (I : Inv X pins σ H s) : ∀ {v : V} {d : PyData} {u : Value}, DV H v d → RelV v u → ∃ as, Reads s.heap u d as ∧ sysModules ∉ as
  | _, _, u, .non, r => by
    cases (show u = Value.none from r)
    exact ⟨[], .none, by simp⟩
  | _, _, u, .bl b, r => by
    cases (show u = Value.bool b from r)
    exact ⟨[], .bool b, by simp⟩
  | _, _, u, .int i, r => by
    obtain ⟨t, rfl⟩ := (show ∃ t, u = Value.int i t from r)
    exact ⟨[], .int i t, by simp⟩
  | _, _, u, .str x, r => by
    obtain ⟨t, rfl⟩ := (show ∃ t, u = Value.str x t from r)
    exact ⟨[], .str x t, by simp⟩
  | _, _, u, @DV.lst _ a xs ds h n q, r => by
    cases (show u = Value.ref a from r)
    obtain ⟨_, its, m, rv, e⟩ := (show ObjOk X.prog X.w H s.heap a (.lst xs) from I.hok a _ h)
    obtain ⟨as, ra, na⟩ := DVs.reads I q rv
    refine ⟨a :: as, .list e rfl rfl ra, fun z => ?_⟩
    rcases List.mem_cons.mp z with z | z
    · exact n z.symm
    · exact na z
  | _, _, u, @DV.tup _ a xs ds h q, r => by
    cases (show u = Value.ref a from r)
    obtain ⟨_, its, rv, o, e1, e2, m, e3⟩ := (show ObjOk X.prog X.w H s.heap a (.tup xs) from I.hok a _ h)
    obtain ⟨as, ra, na⟩ := DVs.reads I q rv
    exact ⟨as, .tuple e1 e2 e3 ra, na⟩
  | _, _, u, @DV.dct _ a kvs ds h q, r => by
    cases (show u = Value.ref a from r)
    obtain ⟨_, ns, vs, rel, o, es, ep, e1, e2, e3, _, pr, _⟩ := (show ObjOk X.prog X.w H s.heap a (.dK kvs) from I.hok a _ h)
    obtain ⟨as, bs, k1, k2, n1, n2⟩ := DVk.reads I q rel pr
    refine ⟨a :: as ++ bs, .dict e1 e2.1 e3 k1 k2, fun z => ?_⟩
    have na : a ≠ sysModules := fun z => by
      rw [z] at ns
      simp at ns
    rcases List.mem_cons.mp z with z | z
    · exact na z.symm
    · rcases List.mem_append.mp z with z | z
      · exact n1 z
      · exact n2 z
theorem DVs.reads (I : Inv X pins σ H s) : ∀ {vs : List V} {ds : List PyData} {us : List Value}, DVs H vs ds → Vals vs us → ∃ as, ReadsAll s.heap us ds as ∧ sysModules ∉ as
  | _, _, _, .nil, .nil => ⟨[], .nil, by simp⟩
  | _, _, _, .cons h q, .cons r t => by
    obtain ⟨as, r1, n1⟩ := DV.reads I h r
    obtain ⟨bs, r2, n2⟩ := DVs.reads I q t
    exact ⟨as ++ bs, .cons r1 r2, fun z => (List.mem_append.mp z).elim n1 n2⟩
theorem DVk.reads (I : Inv X pins σ H s) : ∀ {kvs : List (Key × V)} {ds : List (PyData × PyData)} {vs : List (Key × Value)} {es : List DictEntry}, DVk H kvs ds → KV kvs vs → Pairs (mixKind X.prog X.w) es vs →
    ∃ as bs, ReadsAll s.heap (es.map (fun x => x.key)) (ds.map (fun x => x.1)) as ∧ ReadsAll s.heap (es.map (fun x => x.val)) (ds.map (fun x => x.2)) bs ∧ sysModules ∉ as ∧ sysModules ∉ bs
  | _, _, _, _, .nil, .nil, p => by
    cases p
    exact ⟨[], [], .nil, .nil, by simp, by simp⟩
  | _, _, _, _, .cons (k := k) h q, .cons r t, p => by
    cases p with
    | cons p1 p2 p3 =>
      obtain ⟨rk, rv⟩ := r
      rw [← rk, mixKind_is] at p1
      rw [← p2] at rv
      obtain ⟨as, r1, n1⟩ := DV.reads I h rv
      obtain ⟨bs, cs, r2, r3, n2, n3⟩ := DVk.reads I q t p3
      have rd := readsKey (w := X.w) (h := s.heap) p1
      exact ⟨[] ++ bs, as ++ cs, .cons rd r2, .cons r1 r3, by simpa using n2, fun z => (List.mem_append.mp z).elim n1 n3⟩
end

/-- repr(x), x a list, a tuple or a dict of data -/
def rRepr : List V → Hp → VK → Prop := fun xs H Q => ∃ (a : Addr) (d : PyData), xs = [.ref a] ∧ DV H (.ref a) d ∧ d.showable = true ∧ d.depth ≤ 60 ∧ d.shown.length ≤ sizeLine ∧ Q (.str d.shown) H
theorem call_repr (hG : X.A.guards = some []) (hu : X.A.units + 64 < cLine) : CallR X (.builtin "repr") rRepr := by
  intro pins s σ H xs us Q I r h
  obtain ⟨a, d, rfl, hd, hs, hp, hz, q⟩ := h
  cases r with
  | cons r1 r2 =>
    cases r2
    cases r1
    obtain ⟨as, rd, na⟩ := DV.reads I hd rfl
    exact repr_of_reads' rd hs (fun _ => na) hG (by omega) (fun _ _ e => e) (fun h' u tk k => ⟨.str d.shown, H, I.kept k, ⟨u, rfl⟩, q⟩) hz
end
end Nv

namespace PySem.W
open PySem PySem.Spec PySem.Calls PyProof.Rows
section
variable {prog : Program} {w : World} {A : Around} {E : Value → Shared → Prop} {s : Shared} {K : Frag} {x D : Addr} {ox : Obj} {od : Option Obj}
/-- what isinstance asks of the class D of an own exception -/
structure NvCls (K : Frag) (D : Addr) : Prop where
  ga : findIn K (.ref D) "__getattribute__" = some (some (.builtin "BaseException.__getattribute__"))
  gt : findIn K (.ref D) "__getattr__" = some none
  sub : subIn K (.ref D) (.type "BaseException") = some true
  dct : hasDictIn K D = true
  cl : findIn K (.ref D) "__class__" = some (some (.builtin "object.__class__"))
  sp : specialIn K (.builtin "object.__class__") "__get__" = some (some (.builtin "getset_descriptor.__get__"))
  tk : takesIn K (.builtin "object.__class__") = some true
  mo : mroIn K D (.type "object") = some true
theorem nv_find (c : NvCls K D) : findObj K D od "__class__" = some (.bind (.builtin "getset_descriptor.__get__") (.builtin "object.__class__")) := by
  have hs : (clsIn K D).isSome = true := by
    obtain ⟨cd, h, _⟩ := any_some c.dct
    rw [h]
    rfl
  cases od with
  | none => exact findObj_dataN hs c.cl c.sp c.tk
  | some o => exact findObj_data hs c.cl c.sp c.tk
theorem nv_class {Q : Option Value → Shared → Prop} (c : NvCls K D) (X : K.In s.heap) (I : InstAt s.heap x ox D od)
    (h : Q (some (.ref D)) { s with toks := s.toks + 1 }) : wpAny (model prog w) A (getAttr? (.ref x) "__class__") Q E s := by
  have e1 : (false && onTheHeap (Value.builtin "BaseException.__getattribute__")) = false := rfl
  have e2 : (Value.builtin "BaseException.__getattribute__" == Value.builtin "object.__getattribute__") = false := by decide +kernel
  have e3 : (onTheHeap (Value.ref D) && Value.builtin "BaseException.__getattribute__" == Value.builtin "object.__getattribute__") = false := by
    rw [e2]
    rfl
  obtain ⟨hp, g, d, t, os⟩ := s
  have T0 := I.type (M := model prog w)
  have T1 := looks_findIn (M := model prog w) X c.ga
  have T2 := looks_findIn (M := model prog w) X c.gt
  have T3 := looks_find (M := model prog w) X I (nv_find (od := od) c)
  have T4 : Looks (model prog w) hp (isInstance (.ref x) (.type "BaseException")) true := T0.andThen (looks_subIn X c.sub)
  unfold getAttr? getAttrBy? getAttrBy
  refine wpAny_bind (wpAny_mkText (wpAny_bind (wpAny_attempt ?_)))
  refine wpAny_holding (wpAny_bind (T0.at (wpAny_bind (T1.at ?_))))
  show wpAny _ _ (if (onTheHeap (Value.ref D) && Value.builtin "BaseException.__getattribute__" == Value.builtin "object.__getattribute__") = true then _ else _) _ _ _
  rw [e3, if_neg Bool.false_ne_true]
  unfold getAttrByItsOwn hookBefore
  refine wpAny_bind ?_
  rw [if_pos (show onTheHeap (Value.ref D) = true from rfl)]
  refine T2.at (wpAny_bind (wpAny_attempt (wpAny_holding ?_)))
  unfold callGetattribute
  rw [e1, if_neg Bool.false_ne_true]
  unfold boundAndCalled
  rw [PySem.F.excAttr_ValueError.ga.bind (.ref x)]
  refine wpAny_bind (wpAny_pure ?_)
  show wpAny _ _ (call (.builtin "BaseException.__getattribute__") [.ref x, .str "__class__" t]) _ _ _
  refine wpAny_call (codeAny_call_builtin PySem.F.excAttr_ValueError.ga.plain PySem.F.entry_bexc_ga ?_)
  refine @check_slot (model prog w) _ _ ⟨hp, g, d, t + 1, os⟩ "BaseException.__getattribute__" "BaseException" "__getattribute__" (.ref x)
    [.str "__class__" t] [] _ (by decide +kernel) (by decide +kernel) T4 (PySem.F.args_bexc_ga (.ref x) (.str "__class__" t)) ?_
  unfold Builtin.«object.__getattribute__»
  refine wpAny_bind (wpAny_of_eq (a := ((Value.ref x : Value), [Value.str "__class__" t])) (by first | rfl | (simp only [slotArgs]; rfl)) ?_)
  refine wpAny_bind (wpAny_pure (wpAny_bind (T0.at (wpAny_bind (T3.at ?_)))))
  show wpAny _ _ (holding [Value.builtin "object.__class__"] (call (.builtin "getset_descriptor.__get__") [.builtin "object.__class__", .ref x, .ref D]) >>= ret) _ _ _
  refine wpAny_bind (wpAny_holding (wpAny_call (class_get (s := ⟨hp, g, d, t + 1, os⟩) (ox := ox) (od := od) X I c.mo ?_)))
  refine wpAny_pure ?_
  show wpAny _ _ (handedOut (.ref D)) _ _ _
  rw [handedOut_of (v := .ref D) rfl]
  first
    | exact wpAny_pure (wpAny_pure h)
    | exact wpAny_pure h
    | exact wpAny_pure (wpAny_bind (wpAny_pure (wpAny_pure h)))
theorem nv_kit (c : NvCls K D) : KitX K (.ref x) (.ref D) (fun h => ∃ od, InstAt h x ox D od) := by
  obtain ⟨cdD, hcD, _⟩ := any_some c.dct
  refine ⟨fun _ _ _ ⟨_, I⟩ => I.type, fun _ _ X _ => ?_, fun h tp dd its n sl X htp => ?_, fun X ⟨_, I⟩ k => nv_class c X I k⟩
  · unfold clsIn at hcD
    split at hcD
    · rename_i ho
      intro A' Q' E' s' k q
      unfold isType loadHead
      exact wpAny_bind (wpAny_loadPart (k _ _ (X _ _ ho)) (wpAny_pure q))
    · cases hcD
  · cases q : (Value.ref D == Value.ref tp) with
    | false => rfl
    | true =>
      have e : D = tp := Value.ref.inj (beq_iff_eq.mp q)
      subst e
      unfold clsIn at hcD
      split at hcD
      · rename_i ho
        have z := (X _ _ ho).symm.trans htp
        cases z
      · cases hcD
end
end PySem.W
namespace Nv
open PySem PySem.Spec PyProof.Rows L2

/-- isinstance(e, c), e the exception that the suite holds, with a dict of its own or without -/
def rIsX (K : PySem.W.Frag) (cls : Value) (a : Addr) : List V → Hp → VK → Prop := fun xs H Q => ∃ (D : Addr) (c : V) (cv : Value) (b : Bool), xs = [.ref a, c] ∧ cls = .ref D ∧
  PySem.W.NvCls K D ∧ (∀ u, RelV c u → u = cv) ∧ PySem.W.kitOne K (.ref D) cv = some b ∧ (∀ dd, H dd = H dd) ∧ Q (.bl b) H
/-- the dict of the held exception, if it has one, stands in the heap -/
def XDict (H : Hp) (d : Option Addr) : Prop := ∀ dd, d = some dd → ∃ fs, H dd = some (.xd fs)
def rIsXd (K : PySem.W.Frag) (cls : Value) (d : Option Addr) (a : Addr) : List V → Hp → VK → Prop := fun xs H Q => ∃ (D : Addr) (c : V) (cv : Value) (b : Bool), xs = [.ref a, c] ∧ cls = .ref D ∧
  PySem.W.NvCls K D ∧ (∀ u, RelV c u → u = cv) ∧ PySem.W.kitOne K (.ref D) cv = some b ∧ XDict H d ∧ Q (.bl b) H
theorem call_isX {X : Cx} {a : Addr} {oe : Obj} {cls : Value} {d : Option Addr} {pn : List (Addr × Obj)} (hz : Zc cls d oe) (hf : ∃ vs, oe.data = .fields vs) :
    CallR (X.suite a ((a, oe) :: pn)) (.builtin "isinstance") (rIsXd X.K cls d a) := by
  intro pins s σ H xs us Q I r h
  obtain ⟨D, c, cv, b, rfl, rfl, C, hcv, e, hx, q⟩ := h
  cases r with
  | cons rx rr =>
    cases rr with
    | cons rt rr =>
      cases rr
      cases rx
      have ec := hcv _ rt
      subst ec
      obtain ⟨hget, _⟩ := I.pin (a, oe) (List.mem_append.mpr (.inl List.mem_cons_self))
      obtain ⟨vs, hv⟩ := hf
      have J : ∃ od, PySem.W.InstAt s.heap a oe D od := by
        have no : PySem.W.notCls oe = true := by
          unfold PySem.W.notCls
          rw [hv] <;> rfl
        cases d with
        | none => exact ⟨none, hget, hz.1, no, by rw [hz.2]; trivial⟩
        | some dd =>
          obtain ⟨fs, hd⟩ := hx dd rfl
          obtain ⟨mA, ⟨od, es, ep, ho, _⟩, _⟩ := (show ObjOk X.prog X.w H s.heap dd (.xd fs) from I.hok dd _ hd)
          exact ⟨some od, hget, hz.1, no, by rw [hz.2]; exact ho⟩
      exact PySem.W.kia_one (PySem.W.nv_kit C) I.kIn J e (fun z => nomatch z) fun tk => ⟨.bl b, H, I.kept (t' := tk) fun _ _ z => z, rfl, q⟩
end Nv

namespace Nv
open PySem PySem.Spec PyProof.Rows L2

/-- an except clause's class, the slot of its name, the reading of its suite -/
abbrev Cls3 := Value × Nat × (Addr → Value → Option Addr → TS)
/-- the ends behind a suite: its name is gone -/
def gone (i : Nat) (D : Ends) : Ends :=
  { nx := fun σ' H' => D.nx (σ'.set i none) H', rt := D.rt, bk := fun σ' H' => D.bk (σ'.set i none) H', ct := fun σ' H' => D.ct (σ'.set i none) H' }
def wAsN (K : PySem.W.Frag) (Wout : WX) (D : Ends) : List Cls3 → WX
  | [] => Wout
  | (c, i, ts) :: r => fun cls d σ H => ∃ b, PySem.W.exmOne K cls c = some b ∧
      (b = true → ∀ a, H a = none → ts a cls d (gone i D) (σ.set i (some (.ref a))) H) ∧ (b = false → wAsN K Wout D r cls d σ H)
inductive HdsAs (X : Cx) : List ExceptHandler → List Cls3 → Prop
  | nil : HdsAs X [] []
  | cons {x n : Str} {c : Value} {i : Nat} {ts : Addr → Value → Option Addr → TS} {b₀ : Stmt} {suite : List Stmt} {np pos' : Pos} {hds : List ExceptHandler} {l : List Cls3}
      (hi : X.N[i]? = some n) (hln : X.env.kindOf n = some .local) (hc : Names X x c)
      (hsu : ∀ (a : Addr) (oe : Obj) (cls : Value) (d : Option Addr) (pn : List (Addr × Obj)), Zc cls d oe → (∃ vs, oe.data = .fields vs) → PSs (X.suite a ((a, oe) :: pn)) (b₀ :: suite) (ts a cls d))
      (r : HdsAs X hds l) : HdsAs X (.ExceptHandler (some (.Name x np)) (some n) (b₀ :: suite) pos' :: hds) ((c, i, ts) :: l)

section
variable {X : Cx} {pins : List (Addr × Obj)} {σ : L2.St} {H : Hp}
theorem field_not_frame {B h : Heap} {l : List Env} {a : Addr} {o : Obj} {vs : Array Value} (ff : h.FunFrames B l) (e : h.get? a = some o) (dd : o.data = .fields vs) : a ∉ frs l := fun hm => by
  obtain ⟨_, o', e', hnf⟩ := ff.mem hm
  rw [e] at e'
  cases e'
  exact hnf _ dd
/-- the clauses, one behind another, at an exception that is on the ground -/
theorem clauses (hs : X.stack = X.env :: X.outer) (hf : X.env.frame = some X.env.locals) (hN : X.N.Nodup) {Wout : WX} (tk : Takes X Wout) {D : Ends} {sI s' : Shared} {a : Addr} {B h3 : Heap} {cls : Value} {d : Option Addr}
    (ok : X.Ok) (J : Inv X pins σ H sI) (nb : ∀ b o, sI.heap.get? b = some o → b ∉ frs X.stack → B.get? b = some o) (na : H a = none) (os : s'.os = sI.os) (ag : AllBare s'.gens)
    (up : sI.heap.UpToSlots s'.heap) (up3 : s'.heap.UpToSlots h3) (fl3 : HandSPX.FlyingZ B (X.env :: X.outer) a (Zc cls d) h3) :
    ∀ {hds : List ExceptHandler} {l : List Cls3}, HdsAs X hds l → wAsN X.K Wout D l cls d σ H → wpAny (model X.prog X.w) X.A (handleBy (.ref a) X.env hds) (SP X pins D) X.xe { s' with heap := h3 } := by
  have J3 : Inv X pins σ H { s' with heap := h3 } := J.landed nb fl3.1 (up.trans up3) os ag
  obtain ⟨oe3, vs3, he3, hz3, hd3⟩ := fl3.there
  have nfr := field_not_frame fl3.2.2.1 he3 hd3
  have nL : a ≠ X.env.locals := fun z => nfr (List.mem_filterMap.mpr ⟨X.env, List.mem_cons_self, by rw [hf, z]⟩)
  have nF : a ∉ X.fs := fun hm => by
    obtain ⟨e, he, q⟩ := List.mem_filterMap.mp hm
    exact nfr (List.mem_filterMap.mpr ⟨e, List.mem_cons_of_mem _ he, q⟩)
  have S3 := J3.suite he3 hd3 na nL nF
  intro hds l hk
  induction hk with
  | nil =>
    intro w
    refine wpAny_handleBy_nil ?_
    obtain ⟨_, _, _, oe, vs, T, oT, _, he, hz, hd, h1, _⟩ := id fl3
    unfold PySem.passOn
    refine wpAny_bind (wpAny_field he hd h1 ?_)
    rw [if_neg (show ¬ ((Value.ref T == Value.none) = true) from by simp)]
    have fin : wpAny (model X.prog X.w) X.A (setFlight (.ref a) X.env.frame) (fun _ s4 => wpAny (model X.prog X.w) X.A (throw (.ref a) : Sem Flow) (SP X pins D) X.xe s4) X.xe { s' with heap := h3 } := by
      rw [hf]
      refine HandSPX.setFlight_upZ fl3 ?_
      intro h4 hh4 up4
      refine wpAny_throw (tk _ _ ?_)
      exact ⟨a, B, sI, pins, σ, H, cls, d, rfl, J, nb, (up.trans up3).trans up4, .inr (.inr (by rw [hs]; exact hh4)), na, os, ag, w⟩
    first
      | exact wpAny_bind (wpAny_pure (wpAny_bind fin))
      | exact wpAny_bind fin
  | @cons x n c i ts b₀ suite np pos' hds2 l2 hi hln hc hsu r ih =>
    intro w
    obtain ⟨b, hb1, hyes, hno⟩ := w
    refine wpAny_handleBy_cons (codeAny_handlers_test ?_) (by intro q; cases q)
    have LT : PySem.W.Looks (model X.prog X.w) h3 (typeOf (.ref a)) cls := fun A Q E s k q => wpAny_typeOf_ref (k _ _ he3) (by rw [hz3.1]; exact q)
    have LM := PySem.W.exm_one (M := model X.prog X.w) (J3.kIn) LT hb1
    have test : ∀ {Q : Value → Shared → Prop} {E : Value → Shared → Prop}, Q c { s' with heap := h3 } →
        wpAny (model X.prog X.w) (X.A.mark (some (.ref a))) (eval (.Name x np) X.env) Q E { s' with heap := h3 } := by
      intro Q E q
      obtain ⟨hg, hdbg, hm | ⟨hm, hv, hnn⟩⟩ := hc
      · exact ld_glob (X := X.suite a ((a, oe3) :: (X.pn ++ pins))) S3 hg hm q hdbg
      · exact ld_blt (X := X.suite a ((a, oe3) :: (X.pn ++ pins))) S3 hg hm hv q hnn hdbg
    refine test (LM.here ?_)
    cases b with
    | false =>
      show wpAny _ X.A (handleBy (.ref a) X.env hds2) _ _ _
      exact ih (hno rfl)
    | true =>
      refine codeAny_handlers_suite_as ?_
      refine HandSPX.lands_againZ fl3 ?_
      intro h4 fl4 up4
      have J4 : Inv X pins σ H { s' with heap := h4 } := J.landed nb fl4.1 ((up.trans up3).trans up4) os ag
      obtain ⟨oe4, vs4, he4, hz4, hd4⟩ := fl4.there
      have S4 := J4.suite he4 hd4 na nL nF
      refine store_ok (X := X.suite a ((a, oe4) :: (X.pn ++ pins))) (v := .ref a) S4 hN hi (.inl hln) rfl ?_ (.inr hln)
      intro s5 S5
      refine wpAny_mono ((hsu a oe4 cls d (X.pn ++ pins) hz4 ⟨_, hd4⟩).run [] s5 _ H _ S5 (hyes rfl a na)) ?_ (fun _ _ z => z.elim)
      intro f s6 hsp
      have end_ : ∀ {σ6 : L2.St} {H6 : Hp} {Q : Shared → Prop}, Inv (X.suite a ((a, oe4) :: (X.pn ++ pins))) [] σ6 H6 s6 → (∀ s7, Inv X pins (σ6.set i none) H6 s7 → Q s7) →
          wpAny (model X.prog X.w) X.A (do bindName X.env n .none; unbindBehindTheSuite X.env n pos') (fun _ s7 => Q s7) X.xe s6 :=
        fun {σ6 H6 Q} S6 hq => gone_ok (S6.unsuite ok) hN hi hln hq
      cases f with
      | ret u =>
        obtain ⟨v6, σ6, H6, S6, r6, q6⟩ := hsp
        exact end_ S6 fun s7 J7 => ⟨_, _, _, J7, r6, q6⟩
      | next =>
        obtain ⟨σ6, H6, S6, q6⟩ := hsp
        exact end_ S6 fun s7 J7 => ⟨_, _, J7, q6⟩
      | brk =>
        obtain ⟨σ6, H6, S6, q6⟩ := hsp
        exact end_ S6 fun s7 J7 => ⟨_, _, J7, q6⟩
      | cont =>
        obtain ⟨σ6, H6, S6, q6⟩ := hsp
        exact end_ S6 fun s7 J7 => ⟨_, _, J7, q6⟩

/-- try: body / except x1 as n1: .. / except x2 as n2: .. -/
theorem ps_try_asN {body : List Stmt} {h₀ : ExceptHandler} {hds : List ExceptHandler} {l : List Cls3} {pos : Pos} {tb : WX → TS} {Wout : WX}
    (hs : X.stack = X.env :: X.outer) (hf : X.env.frame = some X.env.locals) (hN : X.N.Nodup) (tk : Takes X Wout)
    (hb : ∀ (W : WX) (pn : List (Addr × Obj)) (xe : Value → Shared → Prop), Takes (X.tr pn xe) W → PassesOwn (model X.prog X.w) X.A X.env xe → PSs (X.tr pn xe) body (tb W))
    (hh : HdsAs X (h₀ :: hds) l) : PS X (.Try body (h₀ :: hds) [] [] pos) (fun D σ H => tb (wAsN X.K Wout D l) D σ H) := by
  constructor
  intro pins s σ H D I h
  have ok := I.ok
  have hfr : X.A.frames = some (X.env :: X.outer) := by rw [ok.frames, hs]
  refine wpAny_Try_except ?_
  have run := (hb (wAsN X.K Wout D l) (X.pn ++ pins) (fun e s₁ => wpAny (model X.prog X.w) X.A (noteFrame e X.env)
    (fun _ s₂ => wpAny (model X.prog X.w) X.A (setFlight e none) (fun _ s₃ => wpAny (model X.prog X.w) X.A (handleBy e X.env (h₀ :: hds)) (SP X pins D) X.xe s₃) X.xe s₂) X.xe s₁) ?_ PassesOwn.looking).run [] s σ H D (I.toTry _) h
  · refine wpAny_mono run ?_ (fun e s1 he => he)
    intro f s1 hsp
    cases f with
    | next =>
      obtain ⟨σ', H', J', q⟩ := hsp
      exact wpAny_execs_nil ⟨σ', H', J'.ofTry ok, q⟩
    | brk =>
      obtain ⟨σ', H', J', q⟩ := hsp
      exact ⟨σ', H', J'.ofTry ok, q⟩
    | cont =>
      obtain ⟨σ', H', J', q⟩ := hsp
      exact ⟨σ', H', J'.ofTry ok, q⟩
    | ret u =>
      obtain ⟨v, σ', H', J', r, q⟩ := hsp
      exact ⟨v, σ', H', J'.ofTry ok, r, q⟩
  · intro u s' xx
    obtain ⟨a, B, sI, pins', σ', H', cls, d, rfl, J', nb, up, sky, na, os, ag, w⟩ := xx
    have J : Inv X pins σ' H' sI := J'.ofTry ok
    have sky' : Sky B (X.env :: X.outer) a (Zc cls d) X.env.locals s'.heap := by
      rw [← hs]
      exact sky
    show wpAny (model X.prog X.w) X.A (noteFrame (.ref a) X.env) _ _ _
    refine Sky.land Zc.steady hfr hf sky' ?_
    intro h3 fl3 up3
    exact clauses hs hf hN tk ok J nb na os ag up up3 fl3 hh w
end
end Nv

namespace Nv
open PySem PySem.Spec PyProof.Rows L2

/-! own errors with one attribute -/
def spXI (K : PySem.W.Frag) (f : Str) : Sp := fun vs H Q _ => ∃ (a C : Addr) (v : V), vs = [.ref a, v] ∧ OexC K C ∧ PySem.W.findIn K (.ref C) f = some none ∧
  H a = some (exo a C none) ∧ ∀ dx, H dx = none → dx ≠ a → Q .non (upd (upd H dx (exd dx [(f, v)])) a (exo a C (some dx)))
section
variable {P : Program} {w : World} {K : PySem.W.Frag} {mg : Str → Option Value} {base : Heap}
theorem ok_xi {qual f : Str} {st : Stmt} {fI : Addr} {fd : FuncData} {p1 p2 p3 p4 : Pos} (F : Fun K "__init__" qual st fI fd) (S : FnScope ["self", f] ["self", f] (defScope st))
    (hb : defBody st = [.Assign [.Attribute (.Name "self" p1) f p2] (.Name f p3) p4]) (hd : (f == ("__debug__" : Str)) = false) (hcd : (f == ("__classdict__" : Str)) = false) :
    FnOk P w K mg base CX0 1 fI fd ["self", f] (spXI K f) := by
  refine F.ok S (fun vs H Q E h => ?_) (fun cdv A outer s H vs Q E hr h => ?_)
  · obtain ⟨a, C, v, rfl, _⟩ := h
    rfl
  · obtain ⟨a, C, v, rfl, T, hn, he, q⟩ := h
    have v0 : Vis (defScope st) "self" := by
      rcases S.par "self" (by simp) with z | z
      · exact .inl z
      · exact .inr (.inl z)
    have v1 : Vis (defScope st) f := by
      rcases S.par f (by simp) with z | z
      · exact .inl z
      · exact .inr (.inl z)
    rw [hb]
    refine ⟨_, pss_one (ps_ost (pe_var (i := 0) rfl v0) (pe_var (i := 1) rfl v1 hd hcd) rfl), ?_⟩
    exact ⟨_, rfl, _, rfl, a, C, rfl, T, hn, .inl ⟨he, fun dx h1 h2 => q dx h1 h2⟩⟩
end
/-- what stands of an own error class with one attribute f: at C, its __init__ at fI -/
structure ErrT (K : PySem.W.Frag) (mg : Str → Option Value) (x f : Str) (C fI : Addr) : Prop where
  gC : mg x = some (.ref C)
  T : OexC K C
  iC : PySem.W.findIn K (.ref C) "__init__" = some (some (.ref fI))
  tI : PySem.W.typeIn K (.ref fI) = some (.type "function")
  noF : PySem.W.findIn K (.ref C) f = some none
  nv : PySem.W.NvCls K C
theorem ErrT.xf {K : PySem.W.Frag} {mg : Str → Option Value} {x f : Str} {C fI : Addr} (T : ErrT K mg x f C fI) : XfC K C := ⟨T.nv.ga, T.nv.gt, T.nv.sub, T.nv.dct⟩
section
variable {X : Cx} {W : WX} {e : Expr} {te : TE} {p pos pos2 : Pos} {x f : Str} {C fI : Addr} {fd : FuncData}
theorem pmk_imp {t t' : L2.St → Hp → XK → Prop} (h : PMk X e t) (i : ∀ σ H Q, t' σ H Q → t σ H Q) : PMk X e t' := fun pins s σ H Q I q => h pins s σ H Q I (i _ _ _ q)
/-- C(e): a new error -/
def tErr (C : Addr) (f : Str) (te : TE) : L2.St → Hp → XK → Prop := fun σ H Q => te σ H fun v H1 => ∀ d, H1 d = none → Q (.ref C) (some d) (upd H1 d (.xd [(f, v)]))
theorem exo_end {H1 : Hp} {a dx C : Addr} {f : Str} {v : V} (na : H1 a = none) (nd : dx ≠ a) : upd (del (upd (upd (upd H1 a (exo a C none)) dx (exd dx [(f, v)])) a (exo a C (some dx))) a) dx (.xd [(f, v)]) = upd H1 dx (.xd [(f, v)]) := by
  funext b
  by_cases h : b = dx
  · subst h
    rw [upd_same, upd_same]
  · rw [upd_ne h, upd_ne h]
    by_cases g : b = a
    · subst g
      rw [del_same, na]
    · rw [del_ne g, upd_ne g, upd_ne h, upd_ne g]
/-- one argument, its reading made monotone -/
theorem pa_any (he : PE X e te) (hs : starEach (e :: []) X.env = (false, eval e X.env) :: starEach [] X.env := by rfl) :
    PA X [e] (fun σ H Q => ∃ R : V → Hp → Prop, te σ H R ∧ ∀ v H1, R v H1 → Q [v] H1) := by
  constructor
  intro pos pins s σ H Q I ⟨R, h, k⟩
  have z := (pa_cons he pa_nil hs).run pos pins s σ H (fun vs H1 => ∃ v, vs = [v] ∧ R v H1) I
  have z2 : te σ H (fun v H1 => R v H1) := h
  have he2 : PE X e (fun σ' H' Q' => te σ' H' R ∧ ∀ v H1, R v H1 → Q' v H1) := by
    constructor
    intro pins s σ H Q I ⟨h1, h2⟩
    exact thn (he.run pins s σ H R I h1) fun u s1 ⟨v, H1, I1, r, q⟩ => ⟨v, H1, I1, r, h2 v H1 q⟩
  exact (pa_cons he2 pa_nil hs).run pos pins s σ H Q I ⟨h, fun v H1 q => k v H1 q⟩
theorem pmk_err (T : ErrT X.K X.mg x f C fI) (F : FnOk X.prog X.w X.K X.mg X.base CX0 1 fI fd ["self", f] (spXI X.K f)) (hb : Binds X.K fd ["self", f] []) (hr : Room 2 X.A) (he : PE X e te) (hg : Gl X x := by rfl)
    (hdb : (x == ("__debug__" : Str)) = false := by decide) (hs : starEach (e :: []) X.env = (false, eval e X.env) :: starEach [] X.env := by rfl) (hpl : (backTo pos (starEach [] X.env)).any (·.1) = false := by rfl) :
    PMk X (.Call (.Name x p) [e] [] pos) (tErr C f te) := by
  refine pmk_imp (pmk_oex (CX := CX0) (dvs := []) (ds := []) T.T T.iC T.tI F hr hb .nil pass0 hg T.gC (pa_any he hs) hdb hs hpl) ?_
  intro σ H Q h
  refine ⟨_, h, fun v H1 k => ⟨by show 1 ≤ 1000; decide, fun a na => ?_⟩⟩
  refine ⟨a, C, v, rfl, T.T, T.noF, upd_same, fun dx h1 h2 => ⟨rfl, dx, [(f, v)], upd_same, ?_, ?_, ?_⟩⟩
  · rw [upd_ne h2, upd_same]
  · rw [upd_ne h2] at h1
    exact h1
  · rw [exo_end na h2]
    rw [upd_ne h2] at h1
    exact k dx h1
/-- raise C(e) -/
def tRaise1 (C : Addr) (f : Str) (W : WX) (te : TE) : TS := fun _ σ H => tErr C f te σ H fun cls d H' => W cls d σ H'
theorem ps_err (hc : X.calm = true) (tk : Takes X W) (T : ErrT X.K X.mg x f C fI) (F : FnOk X.prog X.w X.K X.mg X.base CX0 1 fI fd ["self", f] (spXI X.K f)) (hb : Binds X.K fd ["self", f] []) (hr : Room 2 X.A) (he : PE X e te) (hg : Gl X x := by rfl)
    (hdb : (x == ("__debug__" : Str)) = false := by decide) (hs : starEach (e :: []) X.env = (false, eval e X.env) :: starEach [] X.env := by rfl) (hpl : (backTo pos (starEach [] X.env)).any (·.1) = false := by rfl) :
    PS X (.Raise (some (.Call (.Name x p) [e] [] pos)) none pos2) (tRaise1 C f W te) := ps_raise hc tk (pmk_err T F hb hr he hg hdb hs hpl)
end

/-! displays whose place is not that of sys.modules -/
section
variable {X : Cx} {es : List Expr} {t : TA} {pos : Pos}
def tLst1 (t : TA) : TE := fun σ H Q => t σ H fun xs H1 => xs.length ≤ sizeLine ∧ ∀ p, H1 p = none → p ≠ sysModules → Q (.ref p) (upd H1 p (.lst xs))
theorem pe_lst1 (h : PA X es t) : PE X (.List es pos) (tLst1 t) := by
  constructor
  intro pins s σ H Q I hq
  refine wpAny_List_spliced (thn (h.run pos pins s σ H _ I hq) ?_)
  intro us s1 ⟨xs, H1, I1, r, z, q⟩
  have hf : H1 s1.heap.objs.size = none := I1.hok.fresh (Nat.le_refl _)
  refine ⟨by rw [← r.length]; exact z, ?_⟩
  refine ⟨.ref s1.heap.objs.size, upd H1 s1.heap.objs.size (.lst xs), I1.laid (t' := s1.toks) (fun b u e => Heap.get?_push_of_some _ e) (Nat.le_refl _) ?_, rfl, q _ hf (Nat.ne_of_gt I1.big)⟩
  exact ⟨z, us, 0, r, Heap.get?_push_size _ rfl⟩
end
end Nv

namespace Nv
open PySem PySem.Spec PyProof.Rows L2

/-! a def, a method, an __init__ of the text as they stand behind the top -/
structure DefT (K : PySem.W.Frag) (mg : Str → Option Value) (x : Str) (st : Stmt) (ps : List Str) : Type where
  f : Addr
  fd : FuncData
  F : Fun K x x st f fd
  m : mg x = some (.ref f)
  b : Pos1 fd ps
  kb : Kw1 fd ps ps 0
structure MethT (K : PySem.W.Frag) (C : Addr) (x qual : Str) (st : Stmt) (ps : List Str) : Type where
  f : Addr
  fd : FuncData
  F : Fun K x qual st f fd
  me : Meth K C x f
  b : Pos1 fd ps
  kb : Kw1 fd ps ps.tail 1
structure InitT (K : PySem.W.Frag) (C : Addr) (qual : Str) (st : Stmt) (ps : List Str) : Type where
  f : Addr
  fd : FuncData
  F : Fun K "__init__" qual st f fd
  bi : Binds K fd ps []
  kb : Kw1 fd ps ps.tail 1
structure PropT (K : PySem.W.Frag) (C : Addr) (x qual : Str) (st : Stmt) : Type where
  p : Addr
  g : Addr
  fd : FuncData
  F : Fun K x qual st g fd
  po : PropOf K C x p g
  bi : Binds K fd ["self"] []

/-- a body that lets nothing out -/
theorem okG0 {P : Program} {w : World} {K : PySem.W.Frag} {mg : Str → Option Value} {base : Heap} {k : Nat} {f : Addr} {fd : FuncData} {ps : List Str} {sp : Sp} {x qual : Str} {st : Stmt} {N : List Str}
    (F : Fun K x qual st f fd) (S : FnScope N ps (defScope st)) (len : ∀ vs H Q E, sp vs H Q E → vs.length = ps.length)
    (body : ∀ (cdv : Value) (A : Around) (outer : List Env) (s : Shared) (H : Hp) (vs : List V) (Q : VK) (E : XK),
      A.guards = some [] → Room k (A.deeper (envOfC qual (defScope st) s.heap.objs.size f cdv)) → sp vs H Q E →
      ∃ t, PSs (cxOf (L2.CX P w) P w K mg base N qual (defScope st) f cdv A outer s H E).nox (defBody st) t ∧
        t { nx := fun _ H' => Q .non H', rt := Q } (start N vs) H) : FnG P w K mg base (k + 1) f fd ps sp :=
  okG F S len fun cdv A outer s H vs Q E hg hr hsp => by
    obtain ⟨t, h, q⟩ := body cdv A outer s H vs Q E hg hr hsp
    exact ⟨t, h.nox, q⟩

/-! the kinds of data -/
def tyName : PyData → String
  | .none => "NoneType"
  | .bool _ => "bool"
  | .int _ => "int"
  | .str _ => "str"
  | .list _ => "list"
  | .tuple _ => "tuple"
  | .dict _ => "dict"
theorem DV.ty {K : PySem.W.Frag} {H : Hp} {v : V} {d : PyData} (h : DV H v d) : TyX K H v (.type (tyName d)) := by
  cases h with
  | non => exact .base .non
  | bl b => exact .base (.bl b)
  | int i => exact .base (.int i)
  | str x => exact .base (.str x)
  | lst e _ _ => exact .base (.lst e)
  | tup e _ => exact .base (.tup e)
  | dct e _ => exact .base (.dK e)
theorem r_isi {K : PySem.W.Frag} {H : Hp} {Q : VK} {v : V} {d : PyData} {T : String} {b : Bool} (h : DV H v d) (e : kitB (tyName d) T = some b) (q : Q (.bl b) H) : rIsi K [v, .ty T] H Q :=
  ⟨v, .ty T, _, _, b, rfl, .ty T, h.ty, kit_ty e, q⟩
def isI : PyData → Bool
  | .int _ => true
  | _ => false
def isB : PyData → Bool
  | .bool _ => true
  | _ => false
def isS : PyData → Bool
  | .str _ => true
  | _ => false
def isL : PyData → Bool
  | .list _ => true
  | _ => false
theorem kit_int (d : PyData) : kitB (tyName d) "int" = some (isI d || isB d) := by
  cases d with
  | none => exact (by decide +kernel : kitB "NoneType" "int" = some false)
  | bool b => exact (by decide +kernel : kitB "bool" "int" = some true)
  | int i => exact (by decide +kernel : kitB "int" "int" = some true)
  | str x => exact (by decide +kernel : kitB "str" "int" = some false)
  | list l => exact (by decide +kernel : kitB "list" "int" = some false)
  | tuple l => exact (by decide +kernel : kitB "tuple" "int" = some false)
  | dict l => exact (by decide +kernel : kitB "dict" "int" = some false)
theorem kit_bool (d : PyData) : kitB (tyName d) "bool" = some (isB d) := by
  cases d with
  | none => exact (by decide +kernel : kitB "NoneType" "bool" = some false)
  | bool b => exact (by decide +kernel : kitB "bool" "bool" = some true)
  | int i => exact (by decide +kernel : kitB "int" "bool" = some false)
  | str x => exact (by decide +kernel : kitB "str" "bool" = some false)
  | list l => exact (by decide +kernel : kitB "list" "bool" = some false)
  | tuple l => exact (by decide +kernel : kitB "tuple" "bool" = some false)
  | dict l => exact (by decide +kernel : kitB "dict" "bool" = some false)
theorem kit_str (d : PyData) : kitB (tyName d) "str" = some (isS d) := by
  cases d with
  | none => exact (by decide +kernel : kitB "NoneType" "str" = some false)
  | bool b => exact (by decide +kernel : kitB "bool" "str" = some false)
  | int i => exact (by decide +kernel : kitB "int" "str" = some false)
  | str x => exact (by decide +kernel : kitB "str" "str" = some true)
  | list l => exact (by decide +kernel : kitB "list" "str" = some false)
  | tuple l => exact (by decide +kernel : kitB "tuple" "str" = some false)
  | dict l => exact (by decide +kernel : kitB "dict" "str" = some false)
theorem kit_list (d : PyData) : kitB (tyName d) "list" = some (isL d) := by
  cases d with
  | none => exact (by decide +kernel : kitB "NoneType" "list" = some false)
  | bool b => exact (by decide +kernel : kitB "bool" "list" = some false)
  | int i => exact (by decide +kernel : kitB "int" "list" = some false)
  | str x => exact (by decide +kernel : kitB "str" "list" = some false)
  | list l => exact (by decide +kernel : kitB "list" "list" = some true)
  | tuple l => exact (by decide +kernel : kitB "tuple" "list" = some false)
  | dict l => exact (by decide +kernel : kitB "dict" "list" = some false)

/-! str * int -/
def rMulS : R2 := fun x y H Q => ∃ (z : Str) (k : Int), x = .str z ∧ y = .int k ∧ PySem.MulOk z k ∧ Q (.str (Txt.mul z k)) H
theorem op_mul_str {X : Cx} : OpR X (binaryOp .Mult) rMulS := by
  intro pins s σ H x y v u Q I rx ry h
  obtain ⟨z, k, rfl, rfl, hok, q⟩ := h
  obtain ⟨t, rfl⟩ := (show ∃ t, v = Value.str z t from rx)
  obtain ⟨t2, rfl⟩ := (show ∃ t, u = Value.int k t from ry)
  exact PySem.SB.mul hok fun t' tk => ⟨.str (Txt.mul z k), H, I.tok tk, ⟨t', rfl⟩, q⟩

/-! heaps -/
/-- all that was tracked stands as it was, but what stands at p -/
def Ext1 (p : Addr) (H H' : Hp) : Prop := ∀ a o, a ≠ p → H a = some o → H' a = some o
theorem Ext1.refl (p : Addr) (H : Hp) : Ext1 p H H := fun _ _ _ h => h
theorem Ext1.trans {p : Addr} {H H1 H2 : Hp} (a : Ext1 p H H1) (b : Ext1 p H1 H2) : Ext1 p H H2 := fun c o n h => b c o n (a c o n h)
theorem Same.ext1 {p : Addr} {H H' : Hp} (e : Same H H') : Ext1 p H H' := fun a o _ h => e a o h
theorem Same.new {H : Hp} {p : Addr} {o : HO} (n : H p = none) : Same H (upd H p o) := fun b u e => by
  rw [upd_ne (ne_of_none e n)]
  exact e
theorem Ext1.upd {p : Addr} {H : Hp} {o : HO} : Ext1 p H (upd H p o) := fun a u n h => by
  rw [upd_ne n]
  exact h
end Nv

namespace Nv
open PySem PySem.Spec PyProof.Rows L2

/-! what a step asks of the heap, kept whole -/
def rFld (K : PySem.W.Frag) (f : Str) : V → Hp → VK → Prop := fun x H Q => ∃ a C dx fs v, x = .ref a ∧ H a = some (.ins C dx fs) ∧ Cls K C ∧ NoAttr K C f ∧ fs.lookup f = some v ∧ Q v H
def rStF (K : PySem.W.Frag) (f : Str) : V → V → Hp → (Hp → Prop) → Prop := fun x y H R => ∃ a C dx fs, x = .ref a ∧ H a = some (.ins C dx fs) ∧ Cls K C ∧ NoAttr K C f ∧ fs.length < 1000 ∧ R (upd H a (.ins C dx (putF f y fs)))
def rMeth (C : Addr) (m : Str) : V → Hp → (Hp → Prop) → Prop := fun x H R => ∃ a dx fs, x = .ref a ∧ H a = some (.ins C dx fs) ∧ fs.lookup m = none ∧ R H
def rPrp (C : Addr) (sp : Sp) (dvs : List V) (E : XK) : V → Hp → VK → Prop := fun x H Q => ∃ a dx fs, x = .ref a ∧ H a = some (.ins C dx fs) ∧ sp (.ref a :: dvs) H Q E
/-- a new object's heap by a name of its own -/
theorem gen_new {H : Hp} {p : Addr} (o : HO) (h : H p = none) : ∃ H', upd H p o = H' ∧ Same H H' ∧ H' p = some o :=
  ⟨_, rfl, fun b u e => by rw [upd_ne (ne_of_none e h)]; exact e, upd_same⟩
def rXf (a : Addr) (cls : Value) (d : Option Addr) (C : Addr) (f : Str) : V → Hp → VK → Prop := fun x H Q => x = .ref a ∧ cls = .ref C ∧ ∃ (dd : Addr) (fs : List (Str × V)) (v : V), d = some dd ∧ H dd = some (.xd fs) ∧ fs.lookup f = some v ∧ Q v H
theorem e_xf {a : Addr} {cls : Value} {d : Option Addr} {C : Addr} {f : Str} {te : TE} {σ : L2.St} {H : Hp} {Q : VK} : tXf a cls d C f te σ H Q = te σ H (fun x H1 => rXf a cls d C f x H1 Q) := rfl
theorem r_xf {a dd C : Addr} {f : Str} {v : V} {H : Hp} {Q : VK} (h : H dd = some (.xd [(f, v)])) (q : Q v H) : rXf a (.ref C) (some dd) C f (.ref a) H Q :=
  ⟨rfl, rfl, dd, _, v, rfl, h, by simp [List.lookup], q⟩
theorem r_isX {K : PySem.W.Frag} {D U dd a : Addr} {f : Str} {v : V} {H : Hp} {Q : VK} {b : Bool} (n : PySem.W.NvCls K D) (k : PySem.W.kitOne K (.ref D) (.ref U) = some b) (h : H dd = some (.xd [(f, v)])) (q : Q (.bl b) H) :
    rIsXd K (.ref D) (some dd) a [.ref a, .ref U] H Q := ⟨D, .ref U, .ref U, b, rfl, rfl, n, fun u r => r, k, fun x e => by cases e; exact ⟨_, h⟩, q⟩
theorem e_wipe0 {σ : L2.St} : wipe σ [] = σ := rfl
theorem e_wipe1 {σ : L2.St} {v : Nat} {vs : List Nat} : wipe σ (v :: vs) = (wipe σ vs).set v none := rfl
theorem e_disp {trs : List (TE × TE)} {σ : L2.St} {H : Hp} {Q : VK} : tDisp trs σ H Q = ∀ p, H p = none → tPairs trs σ (upd H p (.dK [])) fun ps H2 => H2 p = some (.dK []) ∧ ∃ kvs : List (Key × V), ps = kvs.map (fun kv => (kV kv.1, kv.2)) ∧ kvs.length ≤ 15 ∧ Q (.ref p) (upd H2 p (.dK (mergeK [] kvs))) := rfl
theorem e_tyes {σ : L2.St} {H : Hp} {R : Bool → Hp → Prop} : tYes σ H R = R true H := rfl
def rP2 (k : V → V → Prop) (vs : List V) : Prop := ∃ v w, vs = [v, w] ∧ k v w
def rP3 (k : V → V → V → Prop) (vs : List V) : Prop := ∃ u v w, vs = [u, v, w] ∧ k u v w
theorem e_rP2 {k : V → V → Prop} {a b : V} : rP2 k [a, b] = k a b := propext ⟨fun ⟨_, _, e, h⟩ => by cases e; exact h, fun h => ⟨_, _, rfl, h⟩⟩
theorem e_rP3 {k : V → V → V → Prop} {a b c : V} : rP3 k [a, b, c] = k a b c := propext ⟨fun ⟨_, _, _, e, h⟩ => by cases e; exact h, fun h => ⟨_, _, _, rfl, h⟩⟩
def rUnp (K : PySem.W.Frag) (n : Nat) : V → Hp → (List V → Prop) → Prop := fun v H R => ∃ a xs, v = .ref a ∧ SqT K H a xs ∧ xs.length = n ∧ R xs
theorem r_fld {K : PySem.W.Frag} {f : Str} {a C dx : Addr} {fs : List (Str × V)} {v : V} {H : Hp} {Q : VK} (h : H a = some (.ins C dx fs)) (c : Cls K C) (n : NoAttr K C f) (l : fs.lookup f = some v) (q : Q v H) : rFld K f (.ref a) H Q :=
  ⟨a, C, dx, fs, v, rfl, h, c, n, l, q⟩
theorem r_stF {K : PySem.W.Frag} {f : Str} {a C dx : Addr} {fs : List (Str × V)} {y : V} {H : Hp} {R : Hp → Prop} (h : H a = some (.ins C dx fs)) (c : Cls K C) (n : NoAttr K C f) (l : fs.length < 1000) (q : R (upd H a (.ins C dx (putF f y fs)))) : rStF K f (.ref a) y H R :=
  ⟨a, C, dx, fs, rfl, h, c, n, l, q⟩
theorem r_meth {C a dx : Addr} {m : Str} {fs : List (Str × V)} {H : Hp} {R : Hp → Prop} (h : H a = some (.ins C dx fs)) (l : fs.lookup m = none) (q : R H) : rMeth C m (.ref a) H R := ⟨a, dx, fs, rfl, h, l, q⟩
theorem r_prp {C a dx : Addr} {sp : Sp} {dvs : List V} {E : XK} {fs : List (Str × V)} {H : Hp} {Q : VK} (h : H a = some (.ins C dx fs)) (q : sp (.ref a :: dvs) H Q E) : rPrp C sp dvs E (.ref a) H Q := ⟨a, dx, fs, rfl, h, q⟩
theorem r_unp {K : PySem.W.Frag} {n : Nat} {a : Addr} {xs : List V} {H : Hp} {R : List V → Prop} (h : SqT K H a xs) (l : xs.length = n) (q : R xs) : rUnp K n (.ref a) H R := ⟨a, xs, rfl, h, l, q⟩
theorem r_setL {p : Addr} {i : Int} {xs : List V} {j : Nat} {v : V} {H : Hp} {R : Hp → Prop} (h : H p = some (.lst xs)) (e : ixN xs.length i = some j) (q : R (upd H p (.lst (xs.set j v)))) : rSetL (.ref p) (.int i) v H R := ⟨p, xs, i, j, rfl, rfl, h, e, q⟩
/-! the readings, one step each, as equations -/
section
variable {σ : L2.St} {H : Hp} {Q : VK} {D : Ends} {t u : TS} {ta tb te tc : TE} {tt tu : TT} {tr : TA} {to th tl : TO} {i j l : Nat} {v x y : V} {r : R2} {K : PySem.W.Frag} {f : Str} {g : TG} {gs : TGs}
theorem e_seq : tSeq t u D σ H = t { D with nx := u D } σ H := rfl
theorem e_next : tNext D σ H = D.nx σ H := rfl
theorem e_asg : tAsg te g D σ H = te σ H (fun x H1 => g x σ H1 D.nx) := rfl
theorem e_gname {R : L2.St → Hp → Prop} : gName i v σ H R = R (σ.set i (some v)) H := rfl
theorem e_gtup {n : Nat} {R : L2.St → Hp → Prop} : gTup K n gs v σ H R = rUnp K n v H (fun xs => gs xs σ H R) := rfl
theorem e_gcons {a : V} {vs : List V} {R : L2.St → Hp → Prop} : gCons g gs (a :: vs) σ H R = g a σ H (fun σ' H' => gs vs σ' H' R) :=
  propext ⟨fun ⟨_, _, e, h⟩ => by cases e; exact h, fun h => ⟨_, _, rfl, h⟩⟩
theorem e_gnil {R : L2.St → Hp → Prop} : gNil [] σ H R = R σ H := propext ⟨fun h => h.2, fun h => ⟨rfl, h⟩⟩
theorem e_gsub {s : TSet} {R : L2.St → Hp → Prop} : gSub ta tb s v σ H R = ta σ H (fun o H1 => tb σ H1 fun i H2 => s o i v H2 fun H3 => R σ H3) := rfl
theorem e_ret : tRet te D σ H = te σ H D.rt := rfl
theorem e_retN : tRetN D σ H = D.rt .non H := rfl
theorem e_if : tIfS tt t u D σ H = tt σ H (fun b H1 => if b = true then t D σ H1 else u D σ H1) := rfl
theorem e_drop : tDrop te D σ H = te σ H (fun _ H1 => D.nx σ H1) := rfl
theorem e_par : tPar i j tr D σ H = tr σ H (fun vs H1 => rP2 (fun v w => D.nx ((σ.set i (some v)).set j (some w)) H1) vs) := rfl
theorem e_par3 : tPar3 i j l tr D σ H = tr σ H (fun vs H1 => rP3 (fun u v w => D.nx (((σ.set i (some u)).set j (some v)).set l (some w)) H1) vs) := rfl
theorem e_sfld : sFld K ta te f D σ H = te σ H (fun y H1 => ta σ H1 fun x H2 => rStF K f x y H2 fun H3 => D.nx σ H3) := rfl
theorem e_var : tVar i σ H Q = ∃ v, σ[i]? = some (some v) ∧ Q v H := rfl
theorem e_c : tC v σ H Q = Q v H := rfl
theorem e_op : tOp r ta tb σ H Q = ta σ H (fun x H1 => tb σ H1 fun y H2 => r x y H2 Q) := rfl
theorem e_un {ru : V → Hp → VK → Prop} : tUn ru ta σ H Q = ta σ H (fun x H1 => ru x H1 Q) := rfl
theorem e_ri {C : Int → Int → Prop} {g : Int → Int → V} {a b : Int} : rI C g (.int a) (.int b) H Q = (C a b ∧ Q (g a b) H) :=
  propext ⟨fun ⟨_, _, e1, e2, c, q⟩ => by cases e1; cases e2; exact ⟨c, q⟩, fun ⟨c, q⟩ => ⟨_, _, rfl, rfl, c, q⟩⟩
theorem e_ri0 {g : Int → Int → V} {a b : Int} : rI0 g (.int a) (.int b) H Q = Q (g a b) H :=
  propext ⟨fun ⟨_, _, e1, e2, q⟩ => by cases e1; cases e2; exact q, fun q => ⟨_, _, rfl, rfl, q⟩⟩
theorem e_ru {g : Int → V} {a : Int} : rU g (.int a) H Q = Q (g a) H :=
  propext ⟨fun ⟨_, e1, q⟩ => by cases e1; exact q, fun q => ⟨_, rfl, q⟩⟩
theorem e_eq : rEq x y H Q = (scal x y = true ∧ Q (.bl (decide (x = y))) H) := rfl
theorem e_ne : rNe x y H Q = (scal x y = true ∧ Q (.bl (!decide (x = y))) H) := rfl
theorem e_test {R : Bool → Hp → Prop} : tTest te σ H R = te σ H (fun x H' => ∃ k, x = .bl k ∧ R k H') := rfl
theorem e_B {R : Bool → Hp → Prop} : tB te σ H R = te σ H (fun x H1 => ∃ c, x = .bl c ∧ R c H1) := rfl
theorem e_and {R : Bool → Hp → Prop} : tAnd tt tu σ H R = tt σ H (fun c H1 => if c = true then tu σ H1 R else R false H1) := rfl
theorem e_or {R : Bool → Hp → Prop} : tOr tt tu σ H R = tt σ H (fun c H1 => if c = true then R true H1 else tu σ H1 R) := rfl
theorem e_not {R : Bool → Hp → Prop} : tNot tt σ H R = tt σ H (fun c H1 => R (!c) H1) := rfl
theorem e_andV : tAndV ta tb σ H Q = ta σ H (fun x H1 => ∃ c, x = .bl c ∧ if c = true then tb σ H1 Q else Q (.bl false) H1) := rfl
theorem e_orV : tOrV ta tb σ H Q = ta σ H (fun x H1 => ∃ c, x = .bl c ∧ if c = true then Q (.bl true) H1 else tb σ H1 Q) := rfl
theorem e_notV : tNotV ta σ H Q = ta σ H (fun x H1 => ∃ c, x = .bl c ∧ Q (.bl (!c)) H1) := rfl
theorem e_ifE : tIf tt ta tb σ H Q = tt σ H (fun c H1 => if c = true then ta σ H1 Q else tb σ H1 Q) := rfl
theorem e_cb {rc : List V → Hp → VK → Prop} : tCB rc tr σ H Q = tr σ H (fun vs H1 => rc vs H1 Q) := rfl
theorem e_nil {R : List V → Hp → Prop} : tNil σ H R = R [] H := rfl
theorem e_cons {R : List V → Hp → Prop} : tCons ta tr σ H R = ta σ H (fun x H1 => tr σ H1 fun xs H2 => R (x :: xs) H2) := rfl
theorem e_tup : tTup tr σ H Q = tr σ H (fun xs H1 => xs.length ≤ sizeLine ∧ ∀ p, H1 p = none → Q (.ref p) (upd H1 p (.tup xs))) := rfl
theorem e_lst1 : tLst1 tr σ H Q = tr σ H (fun xs H1 => xs.length ≤ sizeLine ∧ ∀ p, H1 p = none → p ≠ sysModules → Q (.ref p) (upd H1 p (.lst xs))) := rfl
theorem e_fld : tFld K ta f σ H Q = ta σ H (fun x H1 => rFld K f x H1 Q) := rfl
theorem e_slice {rs : V → Option Int → Option Int → Hp → VK → Prop} : L2.tSl rs te tl th σ H Q = te σ H (fun x H1 => tl σ H1 fun a H2 => th σ H2 fun b H3 => rs x a b H3 Q) := rfl
theorem e_nopart {R : Option Int → Hp → Prop} : tNoPart σ H R = R none H := rfl
theorem e_part {R : Option Int → Hp → Prop} : tPart te σ H R = te σ H (fun x H1 => ∃ i, x = .int i ∧ R (some i) H1) := rfl
theorem e_bm0 {T : String} {rm : V → List V → Hp → VK → Prop} : tBM0 K T rm te σ H Q = te σ H (fun x H1 => tyV K T x H1 ∧ rm x [] H1 Q) := rfl
theorem e_bm {T : String} {rm : V → List V → Hp → VK → Prop} : tBM K T rm te tr σ H Q = te σ H (fun x H1 => tyV K T x H1 ∧ tr σ H1 fun xs H2 => rm x xs H2 Q) := rfl
theorem e_m1 {rm : V → List V → Hp → VK → Prop} : tM1 rm ta te σ H Q = ta σ H (fun x H1 => (∃ a, x = .str a) ∧ te σ H1 fun y H2 => rm x [y] H2 Q) := rfl
theorem e_cg {sp : Sp} {W : WX} : tCG sp W tr σ H Q = tr σ H (fun vs H1 => sp vs H1 Q (WE W σ)) := rfl
theorem e_mg {C : Addr} {m : Str} {sp : Sp} {W : WX} : tMG C m sp W ta tr σ H Q = ta σ H (fun x H1 => rMeth C m x H1 fun H1' => tr σ H1' fun vs H2 => sp (x :: vs) H2 Q (WE W σ)) :=
  by
    unfold tMG rMeth
    rfl
theorem e_make {C : Addr} {sp : Sp} {dvs : List V} {E : XK} : tMake C sp dvs E tr σ H Q = tr σ H (fun vs H1 => ∀ x dx, H1 x = none → H1 dx = none → dx ≠ x →
  sp (.ref x :: (vs ++ dvs)) (upd (upd H1 dx (.own x)) x (.ins C dx [])) (fun v H2 => v = .non ∧ Q (.ref x) H2) E) := rfl
theorem e_prop {C : Addr} {sp : Sp} {dvs : List V} {E : XK} : tProp C sp dvs E ta σ H Q = ta σ H (fun x H1 => rPrp C sp dvs E x H1 Q) := rfl
theorem e_raise1 {C : Addr} {W : WX} : tRaise1 C f W te D σ H = te σ H (fun v H1 => ∀ d, H1 d = none → W (.ref C) (some d) σ (upd H1 d (.xd [(f, v)]))) := rfl
theorem e_chain {r' : R2} : tChain r r' ta tb tc σ H Q = ta σ H (fun x H1 => tb σ H1 fun y H2 => r x y H2 fun z H3 => ∃ k, z = .bl k ∧ (if k = true then tc σ H3 fun w' H4 => r' y w' H4 Q else Q (.bl false) H3)) := rfl
theorem e_mulS {z : Str} {k : Int} : rMulS (.str z) (.int k) H Q = (PySem.MulOk z k ∧ Q (.str (Txt.mul z k)) H) :=
  propext ⟨fun ⟨_, _, e1, e2, c, q⟩ => by cases e1; cases e2; exact ⟨c, q⟩, fun ⟨c, q⟩ => ⟨_, _, rfl, rfl, c, q⟩⟩
theorem e_slS {z : Str} {lo hi : Option Int} : rSlS (.str z) lo hi H Q = (z.length ≤ sizeLine ∧ Q (.str (cutS z lo hi)) H) :=
  propext ⟨fun ⟨_, e1, c, q⟩ => by cases e1; exact ⟨c, q⟩, fun ⟨c, q⟩ => ⟨_, rfl, c, q⟩⟩
theorem e_ixL {p : Addr} {i : Int} : rIxL K (.ref p) (.int i) H Q = ∃ xs v, SqL K H p xs ∧ atI xs i = some v ∧ Q v H :=
  propext ⟨fun ⟨_, xs, _, v, e1, e2, c, d, q⟩ => by cases e1; cases e2; exact ⟨xs, v, c, d, q⟩, fun ⟨xs, v, c, d, q⟩ => ⟨_, xs, _, v, rfl, rfl, c, d, q⟩⟩
theorem e_ixT {p : Addr} {i : Int} : rIxT K (.ref p) (.int i) H Q = ∃ xs v, SqT K H p xs ∧ atI xs i = some v ∧ Q v H :=
  propext ⟨fun ⟨_, xs, _, v, e1, e2, c, d, q⟩ => by cases e1; cases e2; exact ⟨xs, v, c, d, q⟩, fun ⟨xs, v, c, d, q⟩ => ⟨_, xs, _, v, rfl, rfl, c, d, q⟩⟩
theorem e_ixS {z : Str} {i : Int} : rIxS (.str z) (.int i) H Q = ∃ c, z.length ≤ sizeLine ∧ atI z.cps.toList i = some c ∧ Q (.str ⟨#[c]⟩) H :=
  propext ⟨fun ⟨_, _, c, e1, e2, d, a, q⟩ => by cases e1; cases e2; exact ⟨c, d, a, q⟩, fun ⟨c, d, a, q⟩ => ⟨_, _, c, rfl, rfl, d, a, q⟩⟩
theorem e_setL {p : Addr} {k : Int} {R : Hp → Prop} : rSetL (.ref p) (.int k) v H R = ∃ xs j, H p = some (.lst xs) ∧ ixN xs.length k = some j ∧ R (upd H p (.lst (xs.set j v))) :=
  propext ⟨fun ⟨_, xs, _, j, e1, e2, c, d, q⟩ => by cases e1; cases e2; exact ⟨xs, j, c, d, q⟩, fun ⟨xs, j, c, d, q⟩ => ⟨_, xs, _, j, rfl, rfl, c, d, q⟩⟩
theorem r_ixL {p : Addr} {i : Int} {xs : List V} {v : V} (h : SqL K H p xs) (e : atI xs i = some v) (q : Q v H) : rIxL K (.ref p) (.int i) H Q := ⟨_, xs, _, v, rfl, rfl, h, e, q⟩
theorem r_ixT {p : Addr} {i : Int} {xs : List V} {v : V} (h : SqT K H p xs) (e : atI xs i = some v) (q : Q v H) : rIxT K (.ref p) (.int i) H Q := ⟨_, xs, _, v, rfl, rfl, h, e, q⟩
end
theorem e_cxK {CX : CXT} {P : Program} {w : World} {mg : Str → Option Value} {base : Heap} {N : List Str} {qual : Str} {scope : Scope} {f : Addr} {cd : Value} {A : Around} {outer : List Env} {s : Shared} {H : Hp} {E : XK} {K : PySem.W.Frag} :
    (cxOf CX P w K mg base N qual scope f cd A outer s H E).K = K := rfl
theorem e_pt {R : Bool → Hp → Prop} {σ : L2.St} {H : Hp} {t : TT} {b : Bool} (h : t σ H R) : t σ H R := h
/-- int(n), n an int -/
theorem call_intI {X : Cx} : CallR X (.type "int") (fun xs H Q => ∃ i, xs = [.int i] ∧ Q (.int i) H) := by
  intro pins s σ H xs us Q I r h
  obtain ⟨i, e, q⟩ := h
  exact call_int1 pins s σ H xs us Q I r (.inl ⟨i, e, q⟩)
/-- σ at the entry -/
theorem start_def {N : List Str} {vs : List V} : L2.start N vs = vs.map some ++ List.replicate (N.length - vs.length) none := rfl
end Nv

namespace Nv
open PySem PySem.Spec PyProof.Rows L2

/-! {n:04d} -/
/-- the text of {i:04d} -/
def four (i : Int) : Str := ⟨(List.replicate (4 - (Nat.toDigits 10 i.natAbs).length) 48 ++ (Nat.toDigits 10 i.natAbs).map Char.toNat).toArray⟩
theorem four_len {i : Int} (h1 : i.natAbs < 10000) : (four i).length ≤ 4 := by
  have h := digits10_le (k := 4) (n := i.natAbs) (by decide) (by omega)
  show ((List.replicate (4 - (Nat.toDigits 10 i.natAbs).length) 48 ++ (Nat.toDigits 10 i.natAbs).map Char.toNat).toArray).size ≤ 4
  simp
  omega
theorem small_log {n : Nat} (h : n < 10000) : n.log2 < 1920 := by
  by_cases h0 : n = 0
  · subst h0
    decide
  · rw [Nat.log2_lt h0]
    exact Nat.lt_of_lt_of_le h (by
      have : (2 : Nat) ^ 14 ≤ 2 ^ 1920 := Nat.pow_le_pow_right (by decide) (by decide)
      omega)
def f4 : Builtin.Float.FormatSpec := { fill := 48, align := 61, width := some 4, type := some 100 }
theorem gives_four (i : Int) (t u : Tok) (h0 : 0 ≤ i) (h1 : i.natAbs < 10000) : Gives (Builtin.«int.__format__» ⟨[.int i t, .str "04d" u], []⟩) (.str (four i)) := by
  intro prog w A R s hq
  unfold Builtin.«int.__format__»
  simp only [selfAndOne, noKeywords, Builtin.Int.intOfSelf, asInt?, asStr?, List.isEmpty_nil, if_true, pure_bind, bind_pure, bind_assoc, show (Value.str "04d" u == Value.none) = false from rfl, Bool.false_eq_true, if_false,
    show ((Str.ofString "04d").length == 0) = false from by decide +kernel]
  refine wpAny_bind (wpAny_typeNameOf (T := "str") (typeIs_str _ _ _) (by decide) fun _ => ?_)
  rw [if_neg (by decide +kernel)]
  first | refine wpAny_bind (wpAny_typeNameOfCut_int ?_) | refine wpAny_bind (wpAny_typeNameOf_int ?_)
  obtain ⟨f, hp, hty, hpr, hz, hal, hw, hgr, hsg, hfi, hag⟩ : ∃ f, Builtin.Float.parseFormatSpec (Str.ofString "04d").cps.toList "int" 62 = .ok f ∧ f.type = some 100 ∧ f.precision = none ∧ f.noNeg0 = false ∧ f.alt = false ∧ f.width = some 4 ∧ f.grouping = none ∧ f.sign = none ∧ f.fill = 48 ∧ f.align = 61 :=
    ⟨f4, rfl, rfl, rfl, rfl, rfl, rfl, rfl, rfl, rfl, rfl⟩
  simp only [hp, hty, Option.getD_some]
  rw [if_pos (by decide)]
  show wpAny _ _ (if _ then _ else _) _ _ _
  rw [if_neg (by simp [hpr])]
  show wpAny _ _ (if _ then _ else _) _ _ _
  rw [if_neg (by simp [hz])]
  show wpAny _ _ (if _ then _ else _) _ _ _
  rw [if_neg (by decide)]
  show wpAny _ _ (do let r ← Builtin.overDigitLimit? i; _) _ _ _
  rw [PySem.overDigitLimit_small (small_log h1)]
  refine wpAny_bind (wpAny_pure ?_)
  show wpAny _ _ (if _ then _ else _) _ _ _
  rw [if_neg (by simp [hw])]
  show wpAny _ _ (retStr _) _ _ _
  have hd : ((Nat.toDigits 10 i.natAbs).map fun c => (if (100 : Nat) == 88 then c.toUpper else c).toNat).isEmpty = false := by
    have := tDigits_len_ge 10 i.natAbs
    cases h : Nat.toDigits 10 i.natAbs with
    | nil => rw [h] at this; simp at this
    | cons _ _ => rfl
  have hneg : decide (i < 0) = false := decide_eq_false (by omega)
  have key : ∀ X : Str, X = four i → wpAny (model prog w) A.in1 (retStr X) (fun fin s' => match fin with | .done f => R (.ok f) s' | .again c' => c'.quiet = true ∧ codeAny (model prog w) A c' R s') (fun e s' => R (.error e) s') s := by
    intro X e
    subst e
    exact (Gives.of_eq (t := retStr (four i)) (m := .str (four i)) rfl) prog w A R s hq
  refine key _ ?_
  simp only [hal, hneg, Bool.false_eq_true, if_false, show ((10 : Nat) == 10) = true by decide, if_true]
  clear hd hneg key hq
  generalize hD : ((Nat.toDigits 10 i.natAbs).map fun c => (if (100 : Nat) == 88 then c.toUpper else c).toNat) = D
  have hD2 : four i = ⟨(List.replicate (4 - D.length) 48 ++ D).toArray⟩ := by
    rw [← hD]
    unfold four
    simp
  rw [hD2]
  have hne : D.isEmpty = false := by
    rw [← hD]
    have := tDigits_len_ge 10 i.natAbs
    cases h : Nat.toDigits 10 i.natAbs with
    | nil => rw [h] at this; simp at this
    | cons _ _ => rfl
  clear hD hD2 hp
  obtain ⟨fill, align, sign, noNeg0, alt, width, grouping, precision, type⟩ := f
  simp only at hty hpr hz hal hw hgr hsg hfi hag
  subst hty hpr hz hal hw hgr hsg hfi hag
  cases D with
  | nil => cases hne
  | cons x r =>
  conv => lhs; whnf
  have c1 : ((48 : Nat) == 48 && (61 : Nat) == 61) = true := rfl
  simp only [List.replicate_zero, List.nil_append, List.append_nil, List.length_nil, c1, hne, Bool.false_eq_true, if_false, if_true, List.length_append, List.length_replicate]
  have e1 : (((4 : Nat) : Int) - (((0 : Nat) : Int) + ((0 : Nat) : Int) + ((0 : Nat) : Int))).toNat = 4 := by decide
  rw [e1]
  have e2 : (((4 : Nat) : Int) - (((0 : Nat) : Int) + ((0 : Nat) : Int) + ((0 : Nat) : Int)) - ((4 - (x :: r).length + (x :: r).length : Nat) : Int)).toNat = 0 := by omega
  rw [e2]
  rfl
theorem field_four {prog : Program} {w : World} {A : Around} {E : Value → Shared → Prop} {s : Shared} {i : Int} {t : Tok} {Q : Value → Shared → Prop} (h0 : 0 ≤ i) (h1 : i.natAbs < 10000)
    (h : Q (.str (four i) (s.toks + 1)) { s with toks := s.toks + 1 + 1 }) : wpAny (model prog w) A (formatField (.int i t) "04d") Q E s :=
  wpAny_formatField_spec (by decide +kernel) (fun s' => typeIs_int s' i t) F.slot_int_format F.entry_int_format F.args_int_format_2 (fun u => gives_four i t u h0 h1) h (by decide +kernel) (by have := four_len h1; have e : sizeLine = 16777216 := sizeLine_eq; omega)
def tF4 (te : TE) : TE := fun σ H Q => te σ H fun x H1 => ∃ i : Int, x = .int i ∧ 0 ≤ i ∧ i.natAbs < 10000 ∧ Q (.str (four i)) H1
theorem pe_fmt04 {X : Cx} {e : Expr} {te : TE} {k : Nat} {p1 p2 pos : Pos} (he : PE X e te) : PE X (.FormattedValue e (-1) (some (.JoinedStr [.Constant (.str "04d") k p1] p2)) pos) (tF4 te) := by
  refine ⟨fun pins s σ H Q I h => ?_⟩
  refine wpAny_FormattedValue_spec (thn (he.run pins s σ H _ I h) fun v s1 hv => ?_)
  obtain ⟨x, H1, I1, r1, i, rfl, h0, h1, q⟩ := hv
  obtain ⟨t, rfl⟩ := r1
  refine wpAny_JoinedStr_one ?_
  have z := (pe_str (X := X) (x := "04d") (j := k) (pos := p1)).run pins s1 σ H1 (fun v H2 => v = .str "04d" ∧ H2 = H1) I1 ⟨rfl, rfl⟩
  refine thn z fun v s2 ⟨v', H2, I2, r2, e1, e2⟩ => ?_
  subst e1 e2
  obtain ⟨t2, rfl⟩ := r2
  exact ⟨_, _, rfl, field_four h0 h1 ⟨.str (four i), H2, I2.tok _, ⟨_, rfl⟩, q⟩⟩

/-! repr of data without dicts -/
def rReprD (K : PySem.W.Frag) : List V → Hp → VK → Prop := fun xs H Q => ∃ (v : V) (d : PyData), xs = [v] ∧ Dp K H v d ∧ ((∃ z, v = .str z) ∨ ∃ a, v = .ref a) ∧ d.hasDict = false ∧ d.showable = true ∧ d.depth ≤ 60 ∧ d.shown.length ≤ sizeLine ∧ Q (.str d.shown) H
theorem call_reprD {X : Cx} (hG : X.A.guards = some []) (hu : X.A.units + 64 < cLine) : CallR X (.builtin "repr") (rReprD X.K) := by
  intro pins s σ H xs us Q I r h
  obtain ⟨v, d, rfl, hd, hv, hn, hs, hp, hz, q⟩ := h
  cases r with
  | cons r1 r2 =>
    cases r2
    rcases hv with ⟨z, rfl⟩ | ⟨a, rfl⟩
    · cases hd
      obtain ⟨t, rfl⟩ := r1
      exact PySem.P.repr_of_str ⟨.str (reprText z), H, I.tok _, ⟨_, rfl⟩, q⟩ hz
    · obtain ⟨as, rd⟩ := Dp.reads I d (.ref a) _ hd r1
      cases r1
      exact repr_of_reads' rd hs (fun e => by rw [hn] at e; cases e) hG (by omega) (fun _ _ e => e) (fun h' u tk k => ⟨.str d.shown, H, I.kept k, ⟨u, rfl⟩, q⟩) hz

/-! the readings, one step each -/
section
variable {σ : L2.St} {H : Hp} {Q : VK} {te ta tb : TE}
theorem e_f4 : tF4 te σ H Q = te σ H (fun x H1 => ∃ i : Int, x = .int i ∧ 0 ≤ i ∧ i.natAbs < 10000 ∧ Q (.str (four i)) H1) := rfl
theorem e_js0 {acc : Str} {R : Str → Hp → Prop} : tJs [] acc σ H R = R acc H := rfl
theorem e_js1 {ts : List TE} {acc : Str} {R : Str → Hp → Prop} : tJs (te :: ts) acc σ H R = te σ H (fun x H1 => ∃ y : Str, x = .str y ∧ (acc ++ y).length ≤ sizeLine ∧ tJs ts (acc ++ y) σ H1 R) := rfl
theorem e_fmt : tFmt te σ H Q = te σ H (fun x H1 => (∃ y : Str, x = .str y ∧ y.length ≤ sizeLine ∧ Q (.str y) H1) ∨ ∃ i : Int, x = .int i ∧ i.natAbs.log2 < 1920 ∧ Q (.str (toString i)) H1) := rfl
theorem e_lrg {t : L2.St → Hp → (Int → Int → Hp → Prop) → Prop} : tLstRg t σ H Q = t σ H (fun a b H1 => RgOk a b ∧ ∀ q, H1 q = none → Q (.ref q) (upd H1 q (.lst (rgV a b)))) := rfl
theorem e_rg1 {R : Int → Int → Hp → Prop} : tRg1 ta σ H R = ta σ H (fun x H1 => ∃ n, x = .int n ∧ R 0 n H1) := rfl
end
end Nv
namespace Nv
open PySem PySem.Spec PyProof.Rows L2
/-! the same rules where the written part's name is given (within a comprehension) -/
section
variable {X : Cx} {K : PySem.W.Frag}
theorem ix_listK (h : X.K = K) : IxR X (rIxL K) := by
  subst h
  exact ix_list
theorem ix_tupK (h : X.K = K) : IxR X (rIxT K) := by
  subst h
  exact ix_tup
theorem sl_listK (h : X.K = K) : SlR X (rSlL K) := by
  subst h
  exact sl_list
theorem sl_tupK (h : X.K = K) : SlR X (rSlT K) := by
  subst h
  exact sl_tup
theorem op_eqDK (h : X.K = K) (hu : X.A.units + 64 < cLine) : OpR X (compareOp .Eq) (rEqD K) := by
  subst h
  exact op_eqD hu
theorem op_neDK (h : X.K = K) (hu : X.A.units + 64 < cLine) : OpR X (compareOp .NotEq) (rNeD K) := by
  subst h
  exact op_neD hu
theorem call_len_seqK (h : X.K = K) : CallR X (.builtin "len") (fun xs H Q => ∃ p ys, xs = [.ref p] ∧ (SqL K H p ys ∨ SqT K H p ys) ∧ Q (.int ys.length) H) := by
  subst h
  exact call_len_seq
end
end Nv

namespace Nv
open PySem L2

/-! texts of plain signs -/
def Asc (z : Str) : Prop := ∀ c ∈ z.cps.toList, c < 128
theorem Asc.app {x y : Str} (a : Asc x) (b : Asc y) : Asc (x ++ y) := fun c h => by
  have e : (x ++ y).cps.toList = x.cps.toList ++ y.cps.toList := by
    show (x.cps ++ y.cps).toList = _
    simp
  rw [e] at h
  rcases List.mem_append.mp h with h | h
  · exact a c h
  · exact b c h
theorem cutS_sub {z : Str} {lo hi : Option Int} {c : Nat} (h : c ∈ (cutS z lo hi).cps.toList) : c ∈ z.cps.toList := by
  unfold cutS at h
  exact List.mem_of_mem_drop (List.mem_of_mem_take (by simpa using h))
theorem Asc.cut {z : Str} (a : Asc z) (lo hi : Option Int) : Asc (cutS z lo hi) := fun c h => a c (cutS_sub h)
theorem Asc.one {c : Nat} (h : c < 128) : Asc ⟨#[c]⟩ := fun d hd => by
  have : d = c := by simpa using hd
  omega
theorem Asc.empty : Asc Str.empty := fun c h => by
  simp [Str.empty] at h
theorem foldl_mem {x : Array Nat} {c : Nat} : ∀ (n : Nat) (acc : Array Nat), c ∈ ((List.replicate n x).foldl (· ++ ·) acc).toList → c ∈ acc.toList ∨ c ∈ x.toList
  | 0, acc, h => .inl h
  | n + 1, acc, h => by
    rw [List.replicate_succ, List.foldl_cons] at h
    rcases foldl_mem n _ h with h | h
    · have e : (acc ++ x).toList = acc.toList ++ x.toList := by simp
      rw [e] at h
      exact List.mem_append.mp h
    · exact .inr h
theorem Asc.mul {z : Str} (a : Asc z) (n : Int) : Asc (Txt.mul z n) := fun c h => by
  unfold Txt.mul at h
  split at h
  · exact Asc.empty c h
  · split at h
    · exact a c h
    · rcases foldl_mem _ _ h with h | h
      · simp at h
      · exact a c h
theorem foldl_size (x : Array Nat) : ∀ (n : Nat) (acc : Array Nat), ((List.replicate n x).foldl (· ++ ·) acc).size = acc.size + n * x.size
  | 0, acc => by simp
  | n + 1, acc => by
    rw [List.replicate_succ, List.foldl_cons, foldl_size x n, Array.size_append, Nat.succ_mul]
    omega
theorem mul_len (z : Str) (n : Int) : (Txt.mul z n).length ≤ z.length * n.toNat := by
  unfold Txt.mul
  split
  · exact Nat.zero_le _
  · split
    · rename_i h1 h2
      simp only [Bool.or_eq_true, beq_iff_eq] at h2
      rcases h2 with h2 | h2
      · subst h2
        simp
      · rw [h2]
        exact Nat.zero_le _
    · show ((List.replicate n.toNat z.cps).foldl (· ++ ·) #[]).size ≤ _
      rw [foldl_size]
      simp [Str.length, Nat.mul_comm]
theorem mulOk_of {z : Str} {n : Int} (h1 : n ≤ 1000) (h0 : -1000 ≤ n) (h2 : z.length ≤ 10000) : MulOk z n := by
  refine ⟨?_, ?_, ?_⟩
  · simp
    constructor <;> omega
  · intro hn _ h
    have hp : 0 < n := by omega
    have : (9223372036854774 : Int) ≤ (2 ^ 63 - 1) / n := by
      refine Int.le_ediv_of_mul_le hp ?_
      have : (2 : Int) ^ 63 - 1 = 9223372036854775807 := by decide
      rw [this]
      omega
    omega
  · intro hn _
    have hm : z.length * n.toNat ≤ 10000 * 1000 := Nat.mul_le_mul h2 (by omega)
    unfold Builtin.Str.tooLong
    have : sizeLine = 16777216 := sizeLine_eq
    simp [this]
    omega
theorem append_len (x y : Str) : (x ++ y).length = x.length + y.length := Str.length_append x y
theorem join_signs (l : List Nat) : Txt.join Str.empty (l.map fun c => (⟨#[c]⟩ : Str)) = ⟨l.toArray⟩ := by
  show Builtin.Str.glued Str.empty _ = _
  rw [StrLaws.glued_eq_join]
  exact PyProof.Rows.join_ones l
theorem Asc.signs {l : List Nat} (h : ∀ c ∈ l, c < 128) : Asc ⟨l.toArray⟩ := fun c hc => h c (by simpa using hc)
theorem repr_len {z : Str} (a : Asc z) : (reprText z).length ≤ 10 * z.length + 2 := StrLaws.reprText_len z fun c h => Nat.lt_of_lt_of_le (a c h) (by decide)
end Nv

namespace Nv
open PySem L2

/-! values whose text is short -/
structure Shw (W D : Nat) (d : PyData) : Prop where
  s : d.leavesShort 40 = true
  w : d.weight ≤ W
  p : d.depth ≤ D
  h : d.showable = true
structure Shws (W D : Nat) (ds : List PyData) : Prop where
  s : PyData.leavesShortAll 40 ds = true
  w : PyData.weightAll ds ≤ W
  p : PyData.depthAll ds ≤ D
  h : PyData.showableAll ds = true
theorem Shw.len {W D : Nat} {d : PyData} (h : Shw W D d) (hw : W ≤ 390000) : d.shown.length ≤ sizeLine := by
  have h1 := PyData.shown_le 40 (by decide) d h.s
  have h2 : (40 + 2) * d.weight ≤ (40 + 2) * 390000 := Nat.mul_le_mul_left _ (Nat.le_trans h.w hw)
  have e : sizeLine = 16777216 := sizeLine_eq
  omega
theorem Shw.le {W D W' D' : Nat} {d : PyData} (h : Shw W D d) (a : W ≤ W') (b : D ≤ D') : Shw W' D' d := ⟨h.s, Nat.le_trans h.w a, Nat.le_trans h.p b, h.h⟩
theorem Shw.non {W D : Nat} : Shw W D .none := ⟨rfl, Nat.zero_le _, Nat.zero_le _, rfl⟩
theorem Shw.bl {W D : Nat} (b : Bool) : Shw W D (.bool b) := ⟨rfl, Nat.zero_le _, Nat.zero_le _, rfl⟩
theorem log21 {i : Int} (h : -(10 ^ 21) ≤ i ∧ i ≤ 10 ^ 21) : i.natAbs.log2 < 70 := by
  by_cases h0 : i.natAbs = 0
  · rw [h0]
    decide
  · rw [Nat.log2_lt h0]
    omega
theorem Shw.int {D : Nat} {i : Int} (h : -(10 ^ 21) ≤ i ∧ i ≤ 10 ^ 21) : Shw 71 D (.int i) := by
  have hl := log21 h
  refine ⟨?_, ?_, Nat.zero_le _, ?_⟩
  · have h1 := int_text_length_le10 (a := i) (k := 22) (by decide) (by omega)
    have e : (Str.ofString (toString i)).length = (toString i).length := ofString_length _
    have h2 : (PyData.shown (.int i)).length ≤ 40 := by
      simp only [PyData.shown]
      exact Nat.le_trans (Nat.le_of_eq e) (by omega)
    simpa only [PyData.leavesShort, decide_eq_true_eq] using h2
  · simp only [PyData.weight]
    split <;> omega
  · simp only [PyData.showable, decide_eq_true_eq]
    omega
theorem Shw.str {D : Nat} {z : Str} (a : Asc z) : Shw z.length D (.str z) := by
  refine ⟨?_, Nat.le_refl _, Nat.zero_le _, rfl⟩
  simp only [PyData.leavesShort, List.all_eq_true, decide_eq_true_eq]
  exact fun c hc => Nat.lt_of_lt_of_le (a c hc) (by decide)
theorem Shw.list {W D : Nat} {ds : List PyData} (h : Shws W D ds) : Shw W (D + 1) (.list ds) := by
  refine ⟨?_, ?_, ?_, ?_⟩
  · simpa only [PyData.leavesShort] using h.s
  · simpa only [PyData.weight] using h.w
  · have := h.p
    simp only [PyData.depth]
    omega
  · simpa only [PyData.showable] using h.h
theorem Shw.tuple {W D : Nat} {ds : List PyData} (h : Shws W D ds) : Shw W (D + 1) (.tuple ds) := by
  refine ⟨?_, ?_, ?_, ?_⟩
  · simpa only [PyData.leavesShort] using h.s
  · simpa only [PyData.weight] using h.w
  · have := h.p
    simp only [PyData.depth]
    omega
  · simpa only [PyData.showable] using h.h
theorem Shw.dict1 {W1 W2 D : Nat} {k v : PyData} (a : Shw W1 D k) (b : Shw W2 D v) : Shw (W1 + W2 + 2) (D + 1) (.dict [(k, v)]) := by
  refine ⟨?_, ?_, ?_, ?_⟩
  · simp only [PyData.leavesShort, PyData.leavesShortKv, a.s, b.s, Bool.and_self]
  · have := a.w
    have := b.w
    simp only [PyData.weight, PyData.weightKv]
    omega
  · have := a.p
    have := b.p
    simp only [PyData.depth, PyData.depthKv]
    omega
  · simp only [PyData.showable, PyData.showableKv, a.h, b.h, Bool.and_self]
theorem Shws.nil {W D : Nat} : Shws W D [] := ⟨rfl, Nat.zero_le _, Nat.zero_le _, rfl⟩
theorem Shws.cons {W1 W2 D : Nat} {d : PyData} {ds : List PyData} (a : Shw W1 D d) (b : Shws W2 D ds) : Shws (W1 + 1 + W2) D (d :: ds) := by
  refine ⟨?_, ?_, ?_, ?_⟩
  · simp only [PyData.leavesShortAll, a.s, b.s, Bool.and_self]
  · have := a.w
    have := b.w
    simp only [PyData.weightAll]
    omega
  · have := a.p
    have := b.p
    simp only [PyData.depthAll]
    omega
  · simp only [PyData.showableAll, a.h, b.h, Bool.and_self]
theorem Shws.le {W D W' D' : Nat} {d : List PyData} (h : Shws W D d) (a : W ≤ W') (b : D ≤ D') : Shws W' D' d := ⟨h.s, Nat.le_trans h.w a, Nat.le_trans h.p b, h.h⟩
theorem Shws.app {W1 W2 D : Nat} : ∀ {ds es : List PyData}, Shws W1 D ds → Shws W2 D es → Shws (W1 + W2) D (ds ++ es)
  | [], es, a, b => b.le (by omega) (Nat.le_refl _)
  | d :: ds, es, a, b => by
    have h1 := a.s
    have h2 := a.w
    have h3 := a.p
    have h4 := a.h
    simp only [PyData.leavesShortAll, Bool.and_eq_true] at h1
    simp only [PyData.weightAll] at h2
    simp only [PyData.depthAll] at h3
    simp only [PyData.showableAll, Bool.and_eq_true] at h4
    have q : Shws (PyData.weightAll ds) D ds := ⟨h1.2, Nat.le_refl _, by omega, h4.2⟩
    have p : Shw (PyData.weight d) D d := ⟨h1.1, Nat.le_refl _, by omega, h4.1⟩
    have r := Shws.cons p (Shws.app q b)
    exact r.le (by omega) (Nat.le_refl _)
/-- repr of a list, a tuple, a dict whose text is short -/
theorem r_repr {H : Hp} {Q : VK} {a : Addr} {d : PyData} {W D : Nat} (h : DV H (.ref a) d) (s : Shw W D d) (hw : W ≤ 390000) (hd : D ≤ 60) (q : Q (.str d.shown) H) : rRepr [.ref a] H Q :=
  ⟨a, d, rfl, h, s.h, Nat.le_trans s.p hd, s.len hw, q⟩
end Nv

namespace PySem.W
/-- isinstance by an own class -/
theorem kit_ref {K : Frag} {C : Addr} {cls : Value} (hd : hasDictIn K C = true) (ht : typeIn K (.ref C) = some (.type "type")) (h : subIn K cls (.ref C) = some true) : kitOne K cls (.ref C) = some true := by
  have hc : (clsIn K C).isSome = true := by
    obtain ⟨cd, h, _⟩ := any_some hd
    rw [h]
    rfl
  unfold kitOne
  split
  · rfl
  · unfold kitCls
    simp [hc, ht, h]
end PySem.W

namespace Fr

def dig (c : Nat) : Bool := decide (48 ≤ c) && decide (c ≤ 57)
def num (l : List Nat) : Nat := l.foldl (fun a c => a * 10 + (c - 48)) 0
/-- where the frame ends that begins at s -/
def fend (z : List Nat) (s : Nat) : Option Nat :=
  if ((z.drop s).take 4).length = 4 ∧ ((z.drop s).take 4).all dig = true then
    if (z.drop (s + 4 + num ((z.drop s).take 4))).take 1 = [46] then some (s + 4 + num ((z.drop s).take 4) + 1) else none
  else none
def piece (z : List Nat) (a b : Nat) : List Nat := (z.drop a).take (b - a)
def rd (z : List Nat) : Nat → Nat → List (List Nat) → List (List Nat) × Nat
  | 0, s, acc => (acc, s)
  | n + 1, s, acc => match fend z s with
    | none => (acc, s)
    | some e => rd z n e (acc ++ [piece z (s + 4) (e - 1)])
def parse (z : List Nat) : List (List Nat) × Nat := rd z (z.length + 1) 0 []

theorem fend_bounds {z : List Nat} {s e : Nat} (h : fend z s = some e) : s + 5 ≤ e ∧ e ≤ z.length := by
  unfold fend at h
  split at h
  · split at h
    · rename_i h1 h2
      cases h
      have hl : ((z.drop (s + 4 + num ((z.drop s).take 4))).take 1).length = 1 := by rw [h2]; rfl
      rw [List.length_take, List.length_drop] at hl
      omega
    · cases h
  · cases h
theorem rd_more {z : List Nat} : ∀ (n s : Nat) (acc : List (List Nat)), z.length + 1 ≤ n + s → rd z n s acc = rd z (n + 1) s acc
  | 0, s, acc, h => by
    have : fend z s = none := by
      cases e : fend z s with
      | none => rfl
      | some x =>
        have := fend_bounds e
        omega
    simp [rd, this]
  | n + 1, s, acc, h => by
    rw [rd, rd]
    cases e : fend z s with
    | none => rfl
    | some x =>
      have := fend_bounds e
      exact rd_more n x _ (by omega)
/-- where a reading stands -/
def At (z : List Nat) (s : Nat) (acc : List (List Nat)) : Prop := s ≤ z.length ∧ rd z (z.length + 1) s acc = parse z
theorem At.zero (z : List Nat) : At z 0 [] := ⟨Nat.zero_le _, rfl⟩
theorem At.stop {z : List Nat} {s : Nat} {acc : List (List Nat)} (h : At z s acc) (e : fend z s = none) : parse z = (acc, s) := by
  rw [← h.2, rd, e]
theorem At.step {z : List Nat} {s e : Nat} {acc : List (List Nat)} (h : At z s acc) (he : fend z s = some e) : At z e (acc ++ [piece z (s + 4) (e - 1)]) := by
  have hb := fend_bounds he
  refine ⟨hb.2, ?_⟩
  rw [← h.2]
  have e1 : rd z (z.length + 1) s acc = rd z z.length e (acc ++ [piece z (s + 4) (e - 1)]) := by
    simp only [rd, he]
  rw [e1]
  exact (rd_more z.length e _ (by omega)).symm

/-! rows of frames -/
def pad (n : Nat) : List Nat := [48 + n / 1000 % 10, 48 + n / 100 % 10, 48 + n / 10 % 10, 48 + n % 10]
def frm (t : List Nat) : List Nat := pad t.length ++ t ++ [46]
theorem frm_len (t : List Nat) : (frm t).length = t.length + 5 := by
  simp [frm, pad]
theorem pad_num {n : Nat} (h : n < 10000) : num (pad n) = n := by
  simp only [num, pad, List.foldl_cons, List.foldl_nil]
  omega
theorem pad_dig (n : Nat) : (pad n).all dig = true := by
  simp only [pad, List.all_cons, List.all_nil, dig, Bool.and_true, Bool.and_eq_true, decide_eq_true_eq]
  omega
def row (ts : List (List Nat)) : List Nat := (ts.map frm).flatten
def total (ts : List (List Nat)) : Nat := (ts.map fun t => t.length + 5).sum
theorem row_len (ts : List (List Nat)) : (row ts).length = total ts := by
  induction ts with
  | nil => rfl
  | cons t r ih =>
    simp only [row, total, List.map_cons, List.flatten_cons, List.length_append, List.sum_cons, frm_len] at *
    omega
/-- how many frames end within the first c signs -/
def cnt : List (List Nat) → Nat → Nat
  | [], _ => 0
  | t :: r, c => if t.length + 5 ≤ c then 1 + cnt r (c - (t.length + 5)) else 0
theorem cnt_le : ∀ (ts : List (List Nat)) (c : Nat), cnt ts c ≤ ts.length
  | [], c => Nat.le_refl _
  | t :: r, c => by
    have := cnt_le r (c - (t.length + 5))
    simp only [cnt, List.length_cons]
    split <;> omega
theorem drop_app {α : Type} (l m : List α) : (l ++ m).drop l.length = m := by simp
theorem fend_whole {pre t rest : List Nat} (ht : t.length < 10000) : fend (pre ++ (frm t ++ rest)) pre.length = some (pre.length + (t.length + 5)) := by
  have e1 : ((pre ++ (frm t ++ rest)).drop pre.length).take 4 = pad t.length := by
    rw [drop_app]
    simp [frm, pad]
  have hp : (pad t.length).length = 4 := rfl
  unfold fend
  rw [e1, pad_num ht, if_pos ⟨hp, pad_dig _⟩]
  have e2 : (pre ++ (frm t ++ rest)).drop (pre.length + 4 + t.length) = 46 :: rest := by
    have : pre ++ (frm t ++ rest) = (pre ++ pad t.length ++ t) ++ (46 :: rest) := by simp [frm]
    rw [this]
    have hl : pre.length + 4 + t.length = (pre ++ pad t.length ++ t).length := by simp [hp]; omega
    rw [hl, drop_app]
  rw [e2]
  simp
  omega
theorem piece_whole {pre t rest : List Nat} : piece (pre ++ (frm t ++ rest)) (pre.length + 4) (pre.length + (t.length + 5) - 1) = t := by
  have : pre ++ (frm t ++ rest) = (pre ++ pad t.length) ++ (t ++ (46 :: rest)) := by simp [frm]
  unfold piece
  rw [this]
  have hl : pre.length + 4 = (pre ++ pad t.length).length := by simp [pad]
  have h2 : pre.length + (t.length + 5) - 1 - (pre.length + 4) = t.length := by omega
  rw [h2, hl, drop_app]
  simp
theorem fend_cut {pre t rest : List Nat} {c : Nat} (hc : c < t.length + 5) (ht : t.length < 10000) : fend (pre ++ (frm t ++ rest).take c) pre.length = none := by
  cases e : fend (pre ++ (frm t ++ rest).take c) pre.length with
  | none => rfl
  | some x =>
    exfalso
    have hb := fend_bounds e
    have hl : ((frm t ++ rest).take c).length ≤ c := by rw [List.length_take]; omega
    rw [List.length_append] at hb
    have h5 : 5 ≤ c := by omega
    have e1 : ((pre ++ (frm t ++ rest).take c).drop pre.length).take 4 = pad t.length := by
      rw [drop_app, List.take_take]
      have : min 4 c = 4 := by omega
      rw [this]
      simp [frm, pad]
    unfold fend at e
    rw [e1, pad_num ht, if_pos ⟨rfl, pad_dig _⟩] at e
    split at e
    · cases e
      omega
    · cases e
theorem fend_end {pre : List Nat} : fend pre pre.length = none := by
  cases e : fend pre pre.length with
  | none => rfl
  | some x =>
    have := fend_bounds e
    omega
theorem rd_row : ∀ (ts : List (List Nat)) (pre : List Nat) (acc : List (List Nat)) (c n : Nat), (∀ t ∈ ts, t.length < 10000) → ts.length < n →
    rd (pre ++ (row ts).take c) n pre.length acc = (acc ++ ts.take (cnt ts c), pre.length + total (ts.take (cnt ts c)))
  | [], pre, acc, c, n, _, hn => by
    obtain ⟨m, rfl⟩ : ∃ m, n = m + 1 := ⟨n - 1, by simp at hn; omega⟩
    simp only [row, List.map_nil, List.flatten_nil, List.take_nil, List.append_nil, cnt, total, List.sum_nil, Nat.add_zero]
    rw [rd, fend_end]
  | t :: r, pre, acc, c, n, hb, hn => by
    obtain ⟨m, rfl⟩ : ∃ m, n = m + 1 := ⟨n - 1, by simp at hn; omega⟩
    have ht := hb t (by simp)
    have e0 : row (t :: r) = frm t ++ row r := by simp [row]
    rw [e0, cnt]
    by_cases hc : t.length + 5 ≤ c
    · rw [if_pos hc]
      have e1 : (frm t ++ row r).take c = frm t ++ (row r).take (c - (t.length + 5)) := by
        rw [List.take_append, frm_len, List.take_of_length_le (by rw [frm_len]; omega)]
      rw [e1, rd, fend_whole ht]
      simp only
      rw [piece_whole]
      have ih := rd_row r (pre ++ frm t) (acc ++ [t]) (c - (t.length + 5)) m (fun t h => hb t (by simp [h])) (by simp at hn; omega)
      rw [List.length_append, frm_len, List.append_assoc] at ih
      rw [ih]
      have : 1 + cnt r (c - (t.length + 5)) = cnt r (c - (t.length + 5)) + 1 := by omega
      rw [this, List.take_succ_cons]
      simp [total]
      omega
    · rw [if_neg hc, rd, fend_cut (by omega) ht]
      simp [total]
theorem total_ge (ts : List (List Nat)) : 5 * ts.length ≤ total ts := by
  induction ts with
  | nil => exact Nat.le_refl _
  | cons t r ih =>
    simp only [total, List.map_cons, List.sum_cons, List.length_cons] at *
    omega
theorem rd_any {z : List Nat} (acc : List (List Nat)) : ∀ (k n s : Nat), z.length + 1 ≤ n + s → rd z (n + k) s acc = rd z n s acc
  | 0, n, s, h => rfl
  | k + 1, n, s, h => by
    rw [← Nat.add_assoc, ← rd_more (n + k) s acc (by omega), rd_any acc k n s h]
/-- what a row of frames that was cut is read as -/
theorem parse_row {ts : List (List Nat)} {c : Nat} (hb : ∀ t ∈ ts, t.length < 10000) : parse ((row ts).take c) = (ts.take (cnt ts c), total (ts.take (cnt ts c))) := by
  have h := rd_row ts [] [] c (((row ts).take c).length + 1 + ts.length) hb (by omega)
  simp only [List.nil_append, List.length_nil, Nat.zero_add] at h
  unfold parse
  rw [← h]
  exact (rd_any _ _ _ _ (by omega)).symm
theorem cnt_all : ∀ (ts : List (List Nat)) (c : Nat), total ts ≤ c → cnt ts c = ts.length
  | [], c, _ => rfl
  | t :: r, c, h => by
    have h' : t.length + 5 + total r ≤ c := by simpa [total] using h
    rw [cnt, if_pos (by omega), cnt_all r _ (by omega), List.length_cons]
    omega
theorem parse_all {ts : List (List Nat)} (hb : ∀ t ∈ ts, t.length < 10000) : parse (row ts) = (ts, total ts) := by
  have h := parse_row (c := (row ts).length) hb
  rw [List.take_length, cnt_all ts _ (by rw [row_len]; exact Nat.le_refl _), List.take_length] at h
  exact h
/-! the ends of frames -/
def ends : List (List Nat) → Nat → List Nat
  | [], s => [s]
  | t :: r, s => s :: ends r (s + (t.length + 5))
theorem ends_len : ∀ (ts : List (List Nat)) (s : Nat), (ends ts s).length = ts.length + 1
  | [], s => rfl
  | t :: r, s => by simp [ends, ends_len r]
theorem ends_ge : ∀ (ts : List (List Nat)) (s e : Nat), e ∈ ends ts s → s ≤ e ∧ e ≤ s + total ts
  | [], s, e, h => by
    have : e = s := by simpa [ends] using h
    simp [total, this]
  | t :: r, s, e, h => by
    have e0 : total (t :: r) = t.length + 5 + total r := by simp [total]
    rcases List.mem_cons.mp h with h | h
    · omega
    · have := ends_ge r _ e h
      omega
theorem ends_cnt : ∀ (ts : List (List Nat)) (s c : Nat), ((ends ts s).filter fun e => decide (e ≤ s + c)).length = cnt ts c + 1
  | [], s, c => by simp [ends, cnt]
  | t :: r, s, c => by
    have h0 : decide (s ≤ s + c) = true := by simp
    rw [ends, List.filter_cons, h0, if_pos rfl, List.length_cons, cnt]
    by_cases hc : t.length + 5 ≤ c
    · rw [if_pos hc]
      have ih := ends_cnt r (s + (t.length + 5)) (c - (t.length + 5))
      have : s + (t.length + 5) + (c - (t.length + 5)) = s + c := by omega
      rw [this] at ih
      omega
    · rw [if_neg hc]
      have : ((ends r (s + (t.length + 5))).filter fun e => decide (e ≤ s + c)) = [] := by
        rw [List.filter_eq_nil_iff]
        intro e he
        have := ends_ge r _ e he
        simp
        omega
      rw [this]
      rfl
theorem ends_at : ∀ (ts : List (List Nat)) (s k : Nat), k ≤ ts.length → (ends ts s)[k]? = some (s + total (ts.take k))
  | [], s, k, h => by
    have : k = 0 := by simpa using h
    subst this
    simp [ends, total]
  | t :: r, s, 0, h => by simp [ends, total]
  | t :: r, s, k + 1, h => by
    have ih := ends_at r (s + (t.length + 5)) k (by simpa using h)
    simp only [ends, List.getElem?_cons_succ, ih, List.take_succ_cons, total, List.map_cons, List.sum_cons]
    simp only [total] at ih
    congr 1
    omega
theorem ends_snoc : ∀ (ts : List (List Nat)) (t : List Nat) (s : Nat), ends (ts ++ [t]) s = ends ts s ++ [s + total ts + (t.length + 5)]
  | [], t, s => by simp [ends, total]
  | u :: r, t, s => by
    simp only [List.cons_append, ends, ends_snoc r, total, List.map_cons, List.sum_cons]
    congr 3
    omega
theorem row_rep (t : List Nat) (n : Nat) : row (List.replicate n t) = (List.replicate n (frm t)).flatten := by
  simp [row]
theorem total_rep (t : List Nat) (n : Nat) : total (List.replicate n t) = n * (t.length + 5) := by
  simp [total]
theorem cnt_rep (t : List Nat) : ∀ (n c : Nat), c ≤ n * (t.length + 5) → cnt (List.replicate n t) c = c / (t.length + 5)
  | 0, c, h => by
    have : c = 0 := by omega
    subst this
    simp [cnt]
  | n + 1, c, h => by
    rw [List.replicate_succ, cnt]
    by_cases hc : t.length + 5 ≤ c
    · rw [if_pos hc, cnt_rep t n _ (by rw [Nat.succ_mul] at h; omega)]
      rw [Nat.div_eq c (t.length + 5), if_pos ⟨by omega, hc⟩]
      omega
    · rw [if_neg hc, Nat.div_eq_of_lt (by omega)]
theorem rd_inv {z : List Nat} : ∀ (n s : Nat) (acc : List (List Nat)), (∀ t ∈ acc, ∀ c ∈ t, c ∈ z) → total acc ≤ s → s ≤ z.length →
    (∀ t ∈ (rd z n s acc).1, ∀ c ∈ t, c ∈ z) ∧ total (rd z n s acc).1 ≤ (rd z n s acc).2 ∧ (rd z n s acc).2 ≤ z.length
  | 0, s, acc, h1, h2, h3 => ⟨h1, h2, h3⟩
  | n + 1, s, acc, h1, h2, h3 => by
    rw [rd]
    cases e : fend z s with
    | none => exact ⟨h1, h2, h3⟩
    | some x =>
      have hb := fend_bounds e
      refine rd_inv n x _ ?_ ?_ hb.2
      · intro t ht c hc
        rcases List.mem_append.mp ht with ht | ht
        · exact h1 t ht c hc
        · have : t = piece z (s + 4) (x - 1) := by simpa using ht
          rw [this] at hc
          exact List.mem_of_mem_drop (List.mem_of_mem_take hc)
      · have hl : (piece z (s + 4) (x - 1)).length ≤ x - 1 - (s + 4) := by
          unfold piece
          rw [List.length_take]
          omega
        have : total (acc ++ [piece z (s + 4) (x - 1)]) = total acc + ((piece z (s + 4) (x - 1)).length + 5) := by simp [total]
        rw [this]
        omega
theorem parse_inv (z : List Nat) : (∀ t ∈ (parse z).1, ∀ c ∈ t, c ∈ z) ∧ total (parse z).1 ≤ (parse z).2 ∧ (parse z).2 ≤ z.length :=
  rd_inv _ 0 [] (by simp) (Nat.le_refl _) (Nat.zero_le _)
theorem ends_split (ts : List (List Nat)) (s : Nat) : ∃ i, ends ts s = i ++ [s + total ts] := by
  induction ts generalizing s with
  | nil => exact ⟨[], by simp [ends, total]⟩
  | cons t r ih =>
    obtain ⟨i, hi⟩ := ih (s + (t.length + 5))
    refine ⟨s :: i, ?_⟩
    rw [ends, hi, List.cons_append]
    simp only [total, List.map_cons, List.sum_cons]
    congr 3
    omega
end Fr

namespace Nv
open PySem PySem.Spec PyProof.Rows L2

/-! texts and their signs -/
def sg (z : Str) : List Nat := z.cps.toList
def tx (l : List Nat) : Str := ⟨l.toArray⟩
theorem sg_tx (l : List Nat) : sg (tx l) = l := by simp [sg, tx]
theorem tx_sg (z : Str) : tx (sg z) = z := by
  apply Str.ext'
  simp [sg, tx]
theorem sg_len (z : Str) : (sg z).length = z.length := by simp [sg, Str.length]
theorem tx_len (l : List Nat) : (tx l).length = l.length := by simp [tx, Str.length]
theorem sg_inj {x y : Str} (h : sg x = sg y) : x = y := by rw [← tx_sg x, ← tx_sg y, h]
theorem sg_app (x y : Str) : sg (x ++ y) = sg x ++ sg y := by
  show (x.cps ++ y.cps).toList = _
  simp [sg]
theorem tx_app (x y : List Nat) : tx (x ++ y) = tx x ++ tx y := sg_inj (by rw [sg_app, sg_tx, sg_tx, sg_tx])
theorem map_tx_sg (l : List Str) : (l.map sg).map tx = l := by
  rw [List.map_map]
  conv => rhs; rw [← List.map_id l]
  apply List.map_congr_left
  intro z _
  exact tx_sg z
theorem cut_nat (z : Str) (a b : Nat) : sg (cutS z (some (a : Int)) (some (b : Int))) = ((sg z).drop a).take (b - a) := by
  show ((((z.cps.toList.drop (HT.sIx z.length 0 (some (a : Int)))).take (HT.sIx z.length z.length (some (b : Int)) - HT.sIx z.length 0 (some (a : Int)))).toArray).toList) = _
  rw [HT.sIx_nat, HT.sIx_nat]
  simp only [sg]
  have hl : z.cps.toList.length = z.length := by simp [Str.length]
  by_cases h : a ≤ z.length
  · rw [Nat.min_eq_left h]
    by_cases h2 : b ≤ z.length
    · rw [Nat.min_eq_left h2]
    · rw [Nat.min_eq_right (by omega), List.take_of_length_le (by rw [List.length_drop, hl]; exact Nat.le_refl _), List.take_of_length_le (by rw [List.length_drop, hl]; omega)]
  · rw [Nat.min_eq_right (show z.length ≤ a by omega), List.drop_of_length_le (by rw [hl]; exact Nat.le_refl _), List.drop_of_length_le (by rw [hl]; omega)]
    simp
theorem cut_to (z : Str) (b : Nat) : sg (cutS z none (some (b : Int))) = (sg z).take b := by
  show ((((z.cps.toList.drop (HT.sIx z.length 0 none)).take (HT.sIx z.length z.length (some (b : Int)) - HT.sIx z.length 0 none)).toArray).toList) = _
  rw [HT.sIx_nat, HT.sIx_none]
  simp only [sg, List.drop_zero, Nat.sub_zero]
  have hl : z.cps.toList.length = z.length := by simp [Str.length]
  by_cases h2 : b ≤ z.length
  · rw [Nat.min_eq_left h2]
  · rw [Nat.min_eq_right (by omega), List.take_of_length_le (by rw [hl]; exact Nat.le_refl _), List.take_of_length_le (by rw [hl]; omega)]
theorem cutV_to (xs : List V) (b : Nat) : cutV xs none (some (b : Int)) = xs.take b := by
  unfold cutV
  rw [HT.sIx_nat, HT.sIx_none]
  simp only [List.drop_zero, Nat.sub_zero]
  by_cases h2 : b ≤ xs.length
  · rw [Nat.min_eq_left h2]
  · rw [Nat.min_eq_right (by omega), List.take_of_length_le (Nat.le_refl _), List.take_of_length_le (by omega)]
/-- a text of the space to the tilde -/
def pc (c : Nat) : Bool := decide (32 ≤ c) && decide (c ≤ 126)
def Pl (z : Str) : Prop := ∀ c ∈ sg z, pc c = true
theorem pc_lt {c : Nat} (h : pc c = true) : 32 ≤ c ∧ c ≤ 126 := by simpa [pc] using h
theorem Pl.asc {z : Str} (h : Pl z) : Asc z := fun c hc => by have := pc_lt (h c hc); omega
theorem Pl.app {x y : Str} (a : Pl x) (b : Pl y) : Pl (x ++ y) := fun c h => by
  rw [sg_app] at h
  exact (List.mem_append.mp h).elim (a c) (b c)
theorem Pl.cut {z : Str} (a : Pl z) (lo hi : Option Int) : Pl (cutS z lo hi) := fun c h => a c (cutS_sub h)
theorem Pl.one {c : Nat} (h : pc c = true) : Pl ⟨#[c]⟩ := fun d hd => by
  have : d = c := by simpa [sg] using hd
  rw [this]
  exact h
theorem Pl.empty : Pl Str.empty := fun c h => by simp [sg, Str.empty] at h
theorem Pl.mul {z : Str} (a : Pl z) (n : Int) : Pl (Txt.mul z n) := fun c h => by
  unfold Txt.mul at h
  split at h
  · exact Pl.empty c h
  · split at h
    · exact a c h
    · rcases foldl_mem _ _ h with h | h
      · simp at h
      · exact a c h
theorem Pl.tx {l : List Nat} (h : ∀ c ∈ l, pc c = true) : Pl (tx l) := fun c hc => h c (by simpa [sg_tx] using hc)
theorem pl_of {z : Str} (h : (sg z).all pc = true) : Pl z := fun c hc => List.all_eq_true.mp h c hc
theorem prnt : ∀ c, c < 128 → Unicode.isPrintable c = pc c := by decide +kernel
def okS (z : Str) : Bool := Txt.isascii z && Txt.isprintable z
theorem okS_all (z : Str) : okS z = (sg z).all pc := by
  unfold okS Txt.isascii Txt.isprintable sg
  rw [← Array.all_toList, ← Array.all_toList]
  generalize z.cps.toList = l
  induction l with
  | nil => rfl
  | cons c r ih =>
    simp only [List.all_cons]
    rw [← ih]
    by_cases h : c < 128
    · simp only [h, decide_true, Bool.true_and]
      rw [prnt c h]
      cases pc c <;> cases (r.all fun x => decide (x < 128)) <;> simp
    · have hp : pc c = false := by
        unfold pc
        simp
        omega
      simp [h, hp]
theorem Pl.ok {z : Str} (h : Pl z) : okS z = true := by
  rw [okS_all]
  exact List.all_eq_true.mpr h
theorem okS_pl {z : Str} (h : okS z = true) : Pl z := by
  rw [okS_all] at h
  exact pl_of h
theorem digC : ∀ c, c < 128 → Unicode.isDigit c = Fr.dig c := by decide +kernel
theorem isdigit_pl {z : Str} (h : Asc z) : Txt.isdigit z = (decide (0 < z.length) && (sg z).all Fr.dig) := by
  unfold Txt.isdigit
  rw [← Array.all_toList]
  congr 1
  have : ∀ l : List Nat, (∀ c ∈ l, c < 128) → l.all Unicode.isDigit = l.all Fr.dig := by
    intro l hl
    induction l with
    | nil => rfl
    | cons c r ih => simp only [List.all_cons, digC c (hl c (by simp)), ih fun c hc => hl c (by simp [hc])]
  exact this _ h
theorem int_dig {z : Str} (h : (sg z).all Fr.dig = true) (h1 : z.length ≠ 0) (h2 : z.length ≤ 640) : intText? z = some ((Fr.num (sg z) : Nat) : Int) := by
  have e := intText_digits (x := z) (fun c hc => (by
    have := List.all_eq_true.mp h c hc
    simpa [Fr.dig] using this)) (fun e => h1 (by rw [← sg_len]; show z.cps.toList.length = 0; rw [e]; rfl)) (by omega)
  exact e
/-! frames -/
theorem str_nat (n : Nat) : sg (Str.ofString (toString (n : Int))) = (Nat.toDigits 10 n).map Char.toNat := by
  have e := text_ofNat n
  rw [show (toString ((n : Nat) : Int)) = toString (Int.ofNat n) from rfl, e]
  exact sg_tx _
theorem pad_of {n : Nat} {l : List Nat} (h4 : l.length = 4) (hd : PySem.NumText.AllDigits l) (hv : PySem.NumText.digitsVal l = n) : l = Fr.pad n := by
  match l, h4 with
  | [a, b, c, d], _ =>
    have ha := hd a (by simp)
    have hb := hd b (by simp)
    have hc := hd c (by simp)
    have he := hd d (by simp)
    simp only [PySem.NumText.digitsVal, List.foldl_cons, List.foldl_nil] at hv
    simp only [Fr.pad, List.cons.injEq, and_true]
    omega
theorem val_zeros (k : Nat) (l : List Nat) : PySem.NumText.digitsVal (List.replicate k 48 ++ l) = PySem.NumText.digitsVal l := by
  induction k with
  | zero => rfl
  | succ k ih =>
    rw [List.replicate_succ, List.cons_append]
    show (List.replicate k 48 ++ l).foldl (fun acc c => acc * 10 + (c - 48)) (0 * 10 + (48 - 48)) = _
    exact ih
theorem four_pad (n : Nat) (h : n < 10000) : List.replicate (4 - (Nat.toDigits 10 n).length) 48 ++ (Nat.toDigits 10 n).map Char.toNat = Fr.pad n := by
  have hl := digits10_le (k := 4) (n := n) (by decide) (by simpa using h)
  have e : (Nat.toDigits 10 n).map Char.toNat = TL.numL n := by
    rw [← TL.tl_num n]
    exact (str_nat n).symm
  refine pad_of ?_ ?_ ?_
  · simp
    omega
  · intro c hc
    rcases List.mem_append.mp hc with hc | hc
    · have := (List.mem_replicate.mp hc).2
      omega
    · rw [e] at hc
      exact TL.numL_digits n c hc
  · rw [val_zeros, e]
    exact TL.numL_val n
theorem four_sg {i : Int} (h0 : 0 ≤ i) (h : i.natAbs < 10000) : sg (four i) = Fr.pad i.natAbs := by
  have e : sg (four i) = List.replicate (4 - (Nat.toDigits 10 i.natAbs).length) 48 ++ (Nat.toDigits 10 i.natAbs).map Char.toNat := sg_tx _
  rw [e]
  exact four_pad _ h
theorem foldl_rep (x : Array Nat) : ∀ (n : Nat) (acc : Array Nat), ((List.replicate n x).foldl (· ++ ·) acc).toList = acc.toList ++ (List.replicate n x.toList).flatten
  | 0, acc => by simp
  | n + 1, acc => by
    rw [List.replicate_succ, List.foldl_cons, foldl_rep x n, List.replicate_succ, List.flatten_cons]
    simp
theorem sg_mul (z : Str) (n : Nat) : sg (Txt.mul z (n : Int)) = (List.replicate n (sg z)).flatten := by
  unfold Txt.mul
  split
  · rename_i h
    have : n = 0 := by omega
    subst this
    rfl
  · split
    · rename_i h1 h2
      simp only [Bool.or_eq_true, beq_iff_eq] at h2
      rcases h2 with h2 | h2
      · have : n = 1 := by omega
        subst this
        simp
      · have : sg z = [] := by
          have := sg_len z
          rw [h2] at this
          exact List.length_eq_zero_iff.mp this
        rw [this]
        simp
    · show ((List.replicate (n : Int).toNat z.cps).foldl (· ++ ·) #[]).toList = _
      rw [foldl_rep]
      simp [sg]
end Nv

namespace Nv
open PySem L2

/-! data that are compared and shown -/
structure Ft (W D : Nat) (d : PyData) : Prop where
  c : d.canLay0 = true
  s : Shw W D d
structure Fts (W D : Nat) (ds : List PyData) : Prop where
  c : PyData.canLayAll0 ds = true
  s : Shws W D ds
theorem Ft.int {D : Nat} {i : Int} (h : -(10 ^ 21) ≤ i ∧ i ≤ 10 ^ 21) : Ft 71 D (.int i) := ⟨rfl, Shw.int h⟩
theorem Ft.str {D : Nat} {z : Str} (a : Asc z) : Ft z.length D (.str z) := by
  refine ⟨?_, Shw.str a⟩
  have h : z.cps.all (fun c => decide (c < 0x110000)) = true := by
    rw [← Array.all_toList]
    simp only [List.all_eq_true, decide_eq_true_eq]
    exact fun c hc => Nat.lt_of_lt_of_le (a c hc) (by decide)
  simp only [PyData.canLay0, PyData.strOk, h]
theorem Ft.non {W D : Nat} : Ft W D .none := ⟨rfl, Shw.non⟩
theorem Ft.bl {W D : Nat} (b : Bool) : Ft W D (.bool b) := ⟨rfl, Shw.bl b⟩
theorem Ft.le {W D W' D' : Nat} {d : PyData} (h : Ft W D d) (a : W ≤ W') (b : D ≤ D') : Ft W' D' d := ⟨h.c, h.s.le a b⟩
theorem Ft.list {W D : Nat} {ds : List PyData} (h : Fts W D ds) : Ft W (D + 1) (.list ds) := ⟨by simpa only [PyData.canLay0] using h.c, Shw.list h.s⟩
theorem Ft.tuple {W D : Nat} {ds : List PyData} (h : Fts W D ds) : Ft W (D + 1) (.tuple ds) := ⟨by simpa only [PyData.canLay0] using h.c, Shw.tuple h.s⟩
theorem Fts.nil {W D : Nat} : Fts W D [] := ⟨rfl, Shws.nil⟩
theorem Fts.cons {W1 W2 D : Nat} {d : PyData} {ds : List PyData} (a : Ft W1 D d) (b : Fts W2 D ds) : Fts (W1 + 1 + W2) D (d :: ds) := ⟨by simp only [PyData.canLayAll0, a.c, b.c, Bool.and_self], Shws.cons a.s b.s⟩
theorem Fts.le {W D W' D' : Nat} {d : List PyData} (h : Fts W D d) (a : W ≤ W') (b : D ≤ D') : Fts W' D' d := ⟨h.c, h.s.le a b⟩
def strsD (ts : List (List Nat)) : List PyData := ts.map fun t => .str (tx t)
def wt (ts : List (List Nat)) : Nat := (ts.map fun t => t.length + 1).sum
theorem Fts.strs {D : Nat} : ∀ {ts : List (List Nat)}, (∀ t ∈ ts, ∀ c ∈ t, c < 128) → Fts (wt ts) D (strsD ts)
  | [], _ => Fts.nil
  | t :: r, h => by
    have a : Asc (tx t) := fun c hc => h t (by simp) c (by rw [show (tx t).cps.toList = t from sg_tx t] at hc; exact hc)
    have q := Fts.cons (Ft.str (D := D) a) (Fts.strs (D := D) (ts := r) fun t ht => h t (by simp [ht]))
    rw [tx_len] at q
    exact q.le (by simp [wt]) (Nat.le_refl _)
theorem dp_strsD {K : PySem.W.Frag} {H : Hp} : ∀ ts : List (List Nat), DpAll K H (ts.map fun t => V.str (tx t)) (strsD ts)
  | [] => .nil
  | t :: r => .cons (.str _) (dp_strsD r)
/-- v == w and repr(v) == repr(w), both the data d -/
def spEqual (K : PySem.W.Frag) : Sp := fun vs H Q _ => ∃ v u d W D, vs = [v, u] ∧ Dp K H v d ∧ Dp K H u d ∧ ((∃ z, v = .str z) ∨ ∃ a, v = .ref a) ∧ ((∃ z, u = .str z) ∨ ∃ a, u = .ref a) ∧ Ft W D d ∧ W ≤ 390000 ∧ D ≤ 50 ∧ Q (.bl true) H
theorem r_eqD {K : PySem.W.Frag} {H : Hp} {Q : VK} {v u : V} {d : PyData} {W D : Nat} (a : Dp K H v d) (b : Dp K H u d) (f : Ft W D d) (h : D ≤ 60) (q : Q (.bl true) H) : rEqD K v u H Q := by
  have sh : SeqAt.shaped d = true := by
    unfold SeqAt.shaped
    have := f.s.p
    rw [f.c, Bool.true_and, decide_eq_true_eq]
    omega
  have e := SeqAt.eqv_refl d f.c
  exact ⟨d, d, a, b, sh, sh, by rw [e]; exact q⟩
theorem r_reprD {K : PySem.W.Frag} {H : Hp} {Q : VK} {v : V} {d : PyData} {W D : Nat} (a : Dp K H v d) (hv : (∃ z, v = .str z) ∨ ∃ a, v = .ref a) (f : Ft W D d) (hw : W ≤ 390000) (h : D ≤ 60) (q : Q (.str d.shown) H) : rReprD K [v] H Q :=
  ⟨v, d, rfl, a, hv, PyData.hasDict_of_canLay d f.c, f.s.h, Nat.le_trans f.s.p h, f.s.len hw, q⟩
/-- data that are compared and shown, however large their numbers -/
structure Fx (d : PyData) : Prop where
  c : d.canLay0 = true
  p : d.depth ≤ 50
  h : d.showable = true
  l : d.shown.length ≤ sizeLine
theorem Ft.fx {W D : Nat} {d : PyData} (f : Ft W D d) (hw : W ≤ 390000) (hd : D ≤ 50) : Fx d := ⟨f.c, Nat.le_trans f.s.p hd, f.s.h, f.s.len hw⟩
def spEq (K : PySem.W.Frag) : Sp := fun vs H Q _ => ∃ v u d, vs = [v, u] ∧ Dp K H v d ∧ Dp K H u d ∧ ((∃ z, v = .str z) ∨ ∃ a, v = .ref a) ∧ ((∃ z, u = .str z) ∨ ∃ a, u = .ref a) ∧ Fx d ∧ Q (.bl true) H
theorem spEq.of {K : PySem.W.Frag} {vs : List V} {H : Hp} {Q : VK} {E : XK} (h : spEqual K vs H Q E) : spEq K vs H Q E := by
  obtain ⟨v, u, d, W, D, rfl, a, b, hv, hu, f, hw, hd, k⟩ := h
  exact ⟨v, u, d, rfl, a, b, hv, hu, f.fx hw hd, k⟩
theorem r_eqF {K : PySem.W.Frag} {H : Hp} {Q : VK} {v u : V} {d : PyData} (a : Dp K H v d) (b : Dp K H u d) (f : Fx d) (q : Q (.bl true) H) : rEqD K v u H Q := by
  have sh : SeqAt.shaped d = true := by
    unfold SeqAt.shaped
    have := f.p
    rw [f.c, Bool.true_and, decide_eq_true_eq]
    omega
  have e := SeqAt.eqv_refl d f.c
  exact ⟨d, d, a, b, sh, sh, by rw [e]; exact q⟩
theorem r_reprF {K : PySem.W.Frag} {H : Hp} {Q : VK} {v : V} {d : PyData} (a : Dp K H v d) (hv : (∃ z, v = .str z) ∨ ∃ a, v = .ref a) (f : Fx d) (q : Q (.str d.shown) H) : rReprD K [v] H Q :=
  ⟨v, d, rfl, a, hv, PyData.hasDict_of_canLay d f.c, f.h, Nat.le_trans f.p (by decide), f.l, q⟩
end Nv

namespace Nv
open PySem PySem.Spec PyProof.Rows L2

/-! own errors that are held as values -/
def ExV (H : Hp) (a C : Addr) : Prop := ∃ (d : Addr) (fs : List (Str × V)), H a = some (exo a C (some d)) ∧ H d = some (exd d fs)
theorem ExV.same {H H' : Hp} {a C : Addr} (h : ExV H a C) (s : Same H H') : ExV H' a C := by
  obtain ⟨d, fs, h1, h2⟩ := h
  exact ⟨d, fs, s _ _ h1, s _ _ h2⟩
def rIsiE (K : PySem.W.Frag) : List V → Hp → VK → Prop := fun xs H Q => ∃ (a C : Addr) (T : String) (b : Bool), xs = [.ref a, .ty T] ∧ ExV H a C ∧ PySem.W.NvCls K C ∧ PySem.W.kitOne K (.ref C) (.type T) = some b ∧ Q (.bl b) H
def rIsiA (K : PySem.W.Frag) : List V → Hp → VK → Prop := fun xs H Q => rIsi K xs H Q ∨ rIsiE K xs H Q
theorem call_isiA {X : Cx} : CallR X (.builtin "isinstance") (rIsiA X.K) := by
  intro pins s σ H xs us Q I r h
  rcases h with h | h
  · exact call_isi pins s σ H xs us Q I r h
  · obtain ⟨a, C, T, b, rfl, ⟨d, fs, h1, h2⟩, c, e, q⟩ := h
    obtain ⟨u1, u2, rfl, r1, r2⟩ := vals2 r
    cases (show u1 = Value.ref a from r1)
    cases (show u2 = Value.type T from r2)
    obtain ⟨t1, ho⟩ := exo_at I.hok h1
    obtain ⟨mA, ⟨od, es, ep, hod, _⟩, _⟩ := exd_at I.hok h2
    have J : ∃ od, PySem.W.InstAt s.heap a ({ cls := .ref C, dict := some d, data := .fields #[.ref t1, .none, .none, .none, .bool false, .none] } : Obj) C od :=
      ⟨some od, ho, rfl, rfl, hod⟩
    exact PySem.W.kia_one (PySem.W.nv_kit c) I.kIn J e (fun z => nomatch z) fun tk => ⟨.bl b, H, I.tok tk, rfl, q⟩

section
variable {X : Cx} {e : Expr} {te : TE} {p pos : Pos} {x f : Str} {C fI : Addr} {fd : FuncData}
/-- C(e) as a value -/
def tErrV (C : Addr) (f : Str) (te : TE) : TE := fun σ H Q => te σ H fun v H1 => ∀ a d, H1 a = none → H1 d = none → d ≠ a → Q (.ref a) (upd (upd H1 d (exd d [(f, v)])) a (exo a C (some d)))
theorem pe_errV (T : ErrT X.K X.mg x f C fI) (F1 : FnOk X.prog X.w X.K X.mg X.base CX0 1 fI fd ["self", f] (spXI X.K f)) (hb : Binds X.K fd ["self", f] []) (hr : Room 2 X.A) (ha : PE X e te) (hg : Gl X x := by rfl)
    (hdb : (x == ("__debug__" : Str)) = false := by decide) (he : starEach (e :: []) X.env = (false, eval e X.env) :: starEach [] X.env := by rfl) (hpl : (backTo pos (starEach [] X.env)).any (·.1) = false := by rfl) :
    PE X (.Call (.Name x p) (e :: []) [] pos) (tErrV C f te) := by
  constructor
  intro pins s σ H Q I h
  obtain ⟨nm, q, N, bs, bm, sn, sub, ab, col, dd, k0, k1, k2, k3, k5, hC, hbm⟩ := T.T.cls
  refine wpAny_Call_Name_kw (ld_glob I hg T.gC ?_ hdb)
  have hq : ∀ (vs : List V) (H1 : Hp), (∃ v, vs = [v] ∧ ∀ a d, H1 a = none → H1 d = none → d ≠ a → Q (.ref a) (upd (upd H1 d (exd d [(f, v)])) a (exo a C (some d)))) → (∃ v, vs = [v] ∧ ∀ a d, H1 a = none → H1 d = none → d ≠ a → Q (.ref a) (upd (upd H1 d (exd d [(f, v)])) a (exo a C (some d)))) := fun _ _ z => z
  refine PySem.W.callWith_K (h₀ := X.base) I.ok.mod.kin T.T.kC (thn ((pa_any ha he).run pos pins s σ H (fun vs H1 => ∃ v, vs = [v] ∧ ∀ a d, H1 a = none → H1 d = none → d ≠ a → Q (.ref a) (upd (upd H1 d (exd d [(f, v)])) a (exo a C (some d)))) I ⟨_, h, fun v H1 z => ⟨v, rfl, z⟩⟩) fun us s1 hh => ?_) he hpl
  obtain ⟨vs, H1, I1, r1, v, rfl, q1⟩ := hh
  refine ⟨I1.kIn, ?_⟩
  show wpAny _ _ (call (.ref C) us) _ _ _
  obtain ⟨hp, g, dr, tk, os⟩ := s1
  have hsz : hp.objs.size ≤ hp.objs.size + 1 := Nat.le_succ _
  have hn : H1 (hp.objs.size + 1) = none := I1.hok.fresh hsz
  have kk : ∀ b o, hp.get? b = some o → ((hp.push (PySem.W.kdv_tup us)).push (PySem.HandSPX.excO C hp.objs.size)).get? b = some o := fun b o e => Heap.get?_push_of_some _ (Heap.get?_push_of_some _ e)
  have hget : ((hp.push (PySem.W.kdv_tup us)).push (PySem.HandSPX.excO C hp.objs.size)).get? (hp.objs.size + 1) = some (PySem.HandSPX.excO C hp.objs.size) := by heap_get
  have I2 : Inv X pins σ (upd H1 (hp.objs.size + 1) (exo (hp.objs.size + 1) C none)) ⟨(hp.push (PySem.W.kdv_tup us)).push (PySem.HandSPX.excO C hp.objs.size), g, dr, tk, os⟩ :=
    I1.laid (t' := tk) (a := hp.objs.size + 1) (o := exo (hp.objs.size + 1) C none) (h' := (hp.push (PySem.W.kdv_tup us)).push (PySem.HandSPX.excO C hp.objs.size)) kk hsz (exo_ok hget)
  have hus : us.length ≤ sizeLine := by
    rw [← Paired.length r1, sizeLine_eq]
    show 1 ≤ 16777216
    decide
  obtain ⟨u0, rfl, r0⟩ : ∃ u0, us = [u0] ∧ RelV v u0 := by
    cases r1 with
    | cons a t =>
      cases t
      exact ⟨_, rfl, a⟩
  have hl : (Value.ref (hp.objs.size + 1) :: [u0] ++ []).length = ([("self" : Str), f] : List Str).length := rfl
  have r2 : Vals [V.ref (hp.objs.size + 1), v] [Value.ref (hp.objs.size + 1), u0] := .cons rfl (.cons r0 .nil)
  have hbb := hb _ (Value.ref (hp.objs.size + 1) :: [u0]) I2.kIn hl
  rw [List.append_nil] at hbb
  have hsp : spXI X.K f [V.ref (hp.objs.size + 1), v] (upd H1 (hp.objs.size + 1) (exo (hp.objs.size + 1) C none)) (fun w H2 => w = .non ∧ Q (.ref (hp.objs.size + 1)) H2) (fun _ _ _ => False) := by
    refine ⟨_, C, v, rfl, T.T, T.noF, upd_same, fun dx h1 h2 => ⟨rfl, ?_⟩⟩
    rw [upd_ne h2] at h1
    have e : upd (upd (upd H1 (hp.objs.size + 1) (exo (hp.objs.size + 1) C none)) dx (exd dx [(f, v)])) (hp.objs.size + 1) (exo (hp.objs.size + 1) C (some dx)) = upd (upd H1 dx (exd dx [(f, v)])) (hp.objs.size + 1) (exo (hp.objs.size + 1) C (some dx)) := by
      funext b
      by_cases g1 : b = hp.objs.size + 1
      · subst g1
        rw [upd_same, upd_same]
      · rw [upd_ne g1, upd_ne g1]
        by_cases g2 : b = dx
        · subst g2
          rw [upd_same, upd_same]
        · rw [upd_ne g2, upd_ne g2, upd_ne g1]
    rw [e]
    exact q1 _ dx hn h1 h2
  refine wpAny_call (PySem.HandSPX.call_own F.excBase_ValueError (fun Y => PySem.HandSPX.refsVE_contains Y bm hbm) (I1.kIn _ _ hC) (PySem.W.looks_findIn I1.kIn T.iC) (fun self => PySem.W.bind_fn I1.kIn self T.tI) hus
    (codeAny_mono (F1.run _ X.stack _ _ ⟨Value.ref (hp.objs.size + 1) :: [u0], []⟩ [Value.ref (hp.objs.size + 1), u0] _ _ (fun _ _ _ => False) (hr.make C [u0] []) (I2.env0.make C [u0] []) hbb r2 hsp) fun r s' hq' => ?_))
  cases r with
  | error er => exact pass0 pins σ _ _ er s' I2 hq'
  | ok fl =>
    cases fl with
    | ret u =>
      obtain ⟨w, H2, J, rv, ew, q2⟩ := I2.after hq'
      subst ew
      exact ⟨rv, .ref (hp.objs.size + 1), H2, J, rfl, q2⟩
    | next => exact False.elim hq'
    | brk => exact False.elim hq'
    | cont => exact False.elim hq'
end
section
variable {prog : Program} {w : World} {A : Around} {E : Value → Shared → Prop} {s : Shared} {K : PySem.W.Frag} {x C : Addr} {ox : Obj} {od : Option Obj}
theorem call_objEqS {Q : Value → Shared → Prop} (X : K.In s.heap) (I : PySem.W.InstAt s.heap x ox C od) (hm : PySem.W.mroIn K C (.type "object") = some true) (hq : Q (.bool true) s) :
    wpAny (model prog w) A (call (.builtin "object.__eq__") [.ref x, .ref x]) Q E s :=
  wpAny_call (codeAny_call_builtin F.cmp_object.eq.plain F.cmpEntry_eq (PySem.W.check_slot F.cmpKind_eq F.cmpSplit_eq (I.type.andThen (PySem.W.looks_mroIn X hm)) (F.cmpArgs_eq _ _) (objEq_entry_same hq)))
theorem rc_same {Q : Value → Shared → Prop} (hu : A.units < cLine) (X : K.In s.heap) (I : PySem.W.InstAt s.heap x ox C od) (hm : PySem.W.mroIn K C (.type "object") = some true) (hs : PySem.W.findIn K (.ref C) "__eq__" = some (some (.builtin "object.__eq__"))) (h : Q (.bool true) s) :
    wpAny (model prog w) A (compareOp .Eq (.ref x) (.ref x)) Q E s := by
  have one : ∀ {R : Option Value → Shared → Prop}, R (some (.bool true)) s → wpAny (model prog w) A (tryCompare (.ref x) "__eq__" (.ref x)) R E s := fun h => by
    unfold tryCompare
    exact wpAny_bind (HN.ifBound_objEq X I hs (call_objEqS X I hm (wpAny_pure h)))
  show wpAny _ _ (richCompare .Eq (.ref x) (.ref x)) _ _ _
  simp only [richCompare, cmpInfo_Eq, oneThing_ref]
  refine wpAny_holding (wpAny_bind (wpAny_cRoomFor hu ?_))
  refine wpAny_bind (I.type.here ?_)
  refine wpAny_bind (I.type.here ?_)
  repeat (first | with_reducible refine one ?_ | wp_step)
  exact h
end
def rEqX (K : PySem.W.Frag) : R2 := fun x y H Q => ∃ a C, x = .ref a ∧ y = .ref a ∧ ExV H a C ∧ PySem.W.mroIn K C (.type "object") = some true ∧ PySem.W.findIn K (.ref C) "__eq__" = some (some (.builtin "object.__eq__")) ∧ Q (.bl true) H
theorem op_eqX {X : Cx} (hu : X.A.units < cLine) : OpR X (compareOp .Eq) (rEqX X.K) := by
  intro pins s σ H x y v u Q I rx ry h
  obtain ⟨a, C, rfl, rfl, ⟨d, fs, h1, h2⟩, hm, hs, q⟩ := h
  cases (show v = Value.ref a from rx)
  cases (show u = Value.ref a from ry)
  obtain ⟨t1, ho⟩ := exo_at I.hok h1
  obtain ⟨mA, ⟨od, es, ep, hod, _⟩, _⟩ := exd_at I.hok h2
  have J : PySem.W.InstAt s.heap a ({ cls := .ref C, dict := some d, data := .fields #[.ref t1, .none, .none, .none, .bool false, .none] } : Obj) C (some od) :=
    ⟨ho, rfl, rfl, hod⟩
  exact rc_same hu I.kIn J hm hs ⟨.bl true, H, I, rfl, q⟩

/-! a def that is called within an except suite and lets nothing out -/
open L2H in
structure FnGH (P : Program) (w : World) (K : PySem.W.Frag) (mg : Str → Option Value) (base : Heap) (k : Nat)
    (f : Addr) (fd : FuncData) (ps : List Str) (sp : Sp) : Prop where
  len : ∀ vs H Q E, sp vs H Q E → vs.length = ps.length
  run : ∀ (A : Around) (outer : List Env) (s : Shared) (H : Hp) (args : Args) (us : List Value) (vs : List V) (Q : VK) (E : XK) (p : Addr × Obj),
    A.guards = some [] → RoomH k A → PinOk outer H s p → Env0 P w K mg base A outer s H → BindsTo s fd args (ps.zip us) → Vals vs us →
    sp vs H Q E → codeAny (model P w) A (.call (.ref f) args) (CR CX0 outer P w H s Q E) s
open L2H in
theorem okGH {P : Program} {w : World} {K : PySem.W.Frag} {mg : Str → Option Value} {base : Heap} {k : Nat} {f : Addr} {fd : FuncData} {ps : List Str} {sp : Sp} {x qual : Str} {st : Stmt} {N : List Str}
    (F : Fun K x qual st f fd) (S : FnScope N ps (defScope st)) (len : ∀ vs H Q E, sp vs H Q E → vs.length = ps.length)
    (body : ∀ (cdv : Value) (A : Around) (outer : List Env) (s : Shared) (H : Hp) (vs : List V) (Q : VK) (E : XK) (p : Addr × Obj),
      A.guards = some [] → RoomH k (A.deeper (envOfC qual (defScope st) s.heap.objs.size f cdv)) → sp vs H Q E →
      ∃ t, PSs (cxH CX0 P w K mg base N qual (defScope st) f cdv A outer s H E p) (defBody st) t ∧
        t { nx := fun _ H' => Q .non H', rt := Q } (start N vs) H) :
    FnGH P w K mg base (k + 1) f fd ps sp := by
  obtain ⟨oc, od, kV, doc, pm, an, cdv, ct, osl, rfl, lk, hcd⟩ := F.ex
  refine ⟨len, ?_⟩
  intro A outer s H args us vs Q E p hg hr pin e0 hb r hsp
  have hl := len _ _ _ _ hsp
  have stays : ∀ b o, base.get? b = some o → s.heap.get? b = some o := fun b o e => (e0.bs b o e).1
  have KX : K.In s.heap := e0.mod.kin.keeps stays
  have kinds : ∀ y ∈ ps.zip us, (defScope st).names.lookup y.1 = some .local ∨
      ((defScope st).names.lookup y.1 = some .cell ∧
        ((cellsFrom (s.heap.objs.size + 1) (defScope st).names []).lookup y.1).isSome = true) := by
    intro y hy
    rcases S.par y.1 (List.of_mem_zip (a := y.1) (b := y.2) hy).1 with q | q
    · exact Or.inl q
    · exact Or.inr ⟨q, PySem.W.cellsFrom_some _ _ _ (Or.inl q)⟩
  refine codeAny_call_function hr.depth (KX _ _ lk) rfl S.co S.gen rfl (PySem.W.codeRec_of KX hcd) (hb _ _ _ _ ?_)
  refine wpAny_newFunctionEnv_cells S.kind kinds ?_
  intro env he s1 x
  subst he
  refine ⟨(e0.mod.nolimit.keeps stays).keeps x.toInCall.keep, codeAny_func ?_⟩
  obtain ⟨t, ht, hq⟩ := body cdv A outer s H vs Q E p hg (hr.deeper _) hsp
  have I := inv_startH (CX := CX0) (E := E) S pin e0 hl r x
  refine wpAny_mono (ht.run [] s1 (start N vs) H _ I hq) ?_ (fun _ _ z => z)
  intro fl s' hs
  have fin : ∀ {σ' : L2.St} {H' : Hp} {v : V} {u : Value},
      Inv (cxH CX0 P w K mg base N qual (defScope st) f cdv A outer s H E p) [] σ' H' s' → RelV v u → Q v H' →
      CE outer P w H s Q u s' := fun {σ' H' v u} J rv q => ⟨v, H', J.os, J.bare, J.base, J.hok, rv, q⟩
  cases fl with
  | next => obtain ⟨_, _, J, q⟩ := hs; exact fin (v := V.non) (u := Value.none) J rfl q
  | ret u => obtain ⟨_, _, _, J, rv, q⟩ := hs; exact fin J rv q
  | brk => obtain ⟨_, _, _, q⟩ := hs; exact q.elim
  | cont => obtain ⟨_, _, _, q⟩ := hs; exact q.elim
open L2H in
theorem pe_cGH {X : Cx} {W : WX} {k : Nat} {f : Addr} {fd : FuncData} {ps : List Str} {sp : Sp} {x : Str} {q pos : Pos} {e : Expr} {es : List Expr} {t : TA} {p : Addr × Obj}
    (F : FnGH X.prog X.w X.K X.mg X.base k f fd ps sp) (b : Pos1 fd ps) (hG : X.A.guards = some []) (hr : RoomH k X.A) (hp : p ∈ X.pn)
    (hm : X.mg x = some (.ref f)) (hk : PySem.W.keepIn X.K (.ref f) = true) (ha : PA X (e :: es) t) (hg : Gl X x := by rfl)
    (hdb : (x == ("__debug__" : Str)) = false := by decide) (he : starEach (e :: es) X.env = (false, eval e X.env) :: starEach es X.env := by rfl)
    (hpl : (backTo pos (starEach es X.env)).any (·.1) = false := by rfl) : PE X (.Call (.Name x q) (e :: es) [] pos) (tCG sp W t) := by
  constructor
  intro pins s σ H Q I h
  refine wpAny_Call_Name_kw (ld_glob I hg hm ?_ hdb)
  refine PySem.W.callWith_K (h₀ := X.base) I.ok.mod.kin hk (thn (ha.run pos pins s σ H _ I h) ?_) he hpl
  intro us s1 ⟨vs, H1, I1, r, h2⟩
  refine ⟨I1.kIn, ?_⟩
  have P1 := I1.pin p (List.mem_append_left _ hp)
  have hpin : PinOk X.stack H1 s1 p := ⟨P1.1, P1.2.1, fun hm => (List.mem_cons.mp (I1.stkSub p.1 hm)).elim P1.2.2.1 P1.2.2.2.1, P1.2.2.2.2⟩
  have hl : us.length = ps.length := by
    rw [← r.length]
    exact F.len _ _ _ _ h2
  refine wpAny_call (codeAny_mono (F.run X.A X.stack s1 H1 ⟨us, []⟩ us vs Q (WE W σ) p hG hr hpin I1.env0 (.of_eq (b _ hl)) r h2) ?_)
  intro r s' hq
  cases r with
  | error er => exact (pass0 pins σ _ _ er s' I1 hq)
  | ok fl =>
    cases fl with
    | ret u => exact I1.after hq
    | next => exact hq.elim
    | brk => exact hq.elim
    | cont => exact hq.elim

theorem roomHU {k : Nat} {A : Around} (r : L2H.RoomH k A) : A.units + 64 < cLine := by
  have := r.un
  omega
theorem roomS {k : Nat} {A : Around} {h : Option Value} (r : Room k A) : L2H.RoomH k (A.mark h) := ⟨r.dp, r.un⟩
/-- repr of any data -/
def rReprA : List V → Hp → VK → Prop := fun xs H Q => ∃ (v : V) (d : PyData), xs = [v] ∧ DV H v d ∧ d.showable = true ∧ d.depth ≤ 60 ∧ d.shown.length ≤ sizeLine ∧ (∀ i, d = .int i → i.natAbs.log2 < 1920) ∧ Q (.str d.shown) H
theorem call_reprA {X : Cx} (hG : X.A.guards = some []) (hu : X.A.units + 64 < cLine) : CallR X (.builtin "repr") rReprA := by
  intro pins s σ H xs us Q I r h
  obtain ⟨v, d, rfl, hd, hs, hp, hz, hi, q⟩ := h
  obtain ⟨u, rfl, r1⟩ := vals1 r
  cases hd with
  | non =>
    cases (show u = Value.none from r1)
    exact PySem.P.repr_of_none ⟨.str _, H, I.tok _, ⟨_, rfl⟩, q⟩
  | bl b =>
    cases (show u = Value.bool b from r1)
    exact PySem.P.repr_of_bool ⟨.str (Str.ofString (if b then "True" else "False")), H, I.tok _, ⟨_, by cases b <;> rfl⟩, by cases b <;> exact q⟩
  | int i =>
    obtain ⟨t, rfl⟩ := (show ∃ t, u = Value.int i t from r1)
    exact PySem.P.repr_of_int (hi i rfl) ⟨.str _, H, I.tok _, ⟨_, rfl⟩, q⟩
  | str z =>
    obtain ⟨t, rfl⟩ := (show ∃ t, u = Value.str z t from r1)
    exact PySem.P.repr_of_str ⟨.str (reprText z), H, I.tok _, ⟨_, rfl⟩, q⟩ hz
  | @lst a xs ds h n q2 =>
    cases (show u = Value.ref a from r1)
    exact call_repr hG hu pins s σ H _ _ Q I r ⟨a, _, rfl, .lst h n q2, hs, hp, hz, q⟩
  | @tup a xs ds h q2 =>
    cases (show u = Value.ref a from r1)
    exact call_repr hG hu pins s σ H _ _ Q I r ⟨a, _, rfl, .tup h q2, hs, hp, hz, q⟩
  | @dct a xs ds h q2 =>
    cases (show u = Value.ref a from r1)
    exact call_repr hG hu pins s σ H _ _ Q I r ⟨a, _, rfl, .dct h q2, hs, hp, hz, q⟩
theorem e_errv {C : Addr} {f : Str} {te : TE} {σ : L2.St} {H : Hp} {Q : VK} : tErrV C f te σ H Q = te σ H (fun v H1 => ∀ a d, H1 a = none → H1 d = none → d ≠ a → Q (.ref a) (upd (upd H1 d (exd d [(f, v)])) a (exo a C (some d)))) := rfl

/-- data, or an own error (which counts as None where it is asked what it is) -/
inductive AV (K : PySem.W.Frag) (H : Hp) : V → PyData → Prop
  | dat {v : V} {d : PyData} (h : DV H v d) : AV K H v d
  | exc {a C : Addr} (h : ExV H a C) (n : PySem.W.NvCls K C) (k1 : PySem.W.kitOne K (.ref C) (.type "str") = some false) (k2 : PySem.W.kitOne K (.ref C) (.type "tuple") = some false) : AV K H (.ref a) .none
theorem AV.mono {K : PySem.W.Frag} {H H' : Hp} {v : V} {d : PyData} (h : AV K H v d) (e : Same H H') : AV K H' v d := by
  cases h with
  | dat h => exact .dat (h.mono e)
  | exc h n k1 k2 => exact .exc (h.same e) n k1 k2
def isT : PyData → Bool
  | .tuple _ => true
  | _ => false
def isD : PyData → Bool
  | .dict _ => true
  | _ => false
theorem kit_tuple (d : PyData) : kitB (tyName d) "tuple" = some (isT d) := by
  cases d with
  | none => exact (by decide +kernel : kitB "NoneType" "tuple" = some false)
  | bool b => exact (by decide +kernel : kitB "bool" "tuple" = some false)
  | int i => exact (by decide +kernel : kitB "int" "tuple" = some false)
  | str x => exact (by decide +kernel : kitB "str" "tuple" = some false)
  | list l => exact (by decide +kernel : kitB "list" "tuple" = some false)
  | tuple l => exact (by decide +kernel : kitB "tuple" "tuple" = some true)
  | dict l => exact (by decide +kernel : kitB "dict" "tuple" = some false)
theorem kit_dict (d : PyData) : kitB (tyName d) "dict" = some (isD d) := by
  cases d with
  | none => exact (by decide +kernel : kitB "NoneType" "dict" = some false)
  | bool b => exact (by decide +kernel : kitB "bool" "dict" = some false)
  | int i => exact (by decide +kernel : kitB "int" "dict" = some false)
  | str x => exact (by decide +kernel : kitB "str" "dict" = some false)
  | list l => exact (by decide +kernel : kitB "list" "dict" = some false)
  | tuple l => exact (by decide +kernel : kitB "tuple" "dict" = some false)
  | dict l => exact (by decide +kernel : kitB "dict" "dict" = some true)
section
variable {K : PySem.W.Frag} {H : Hp} {Q : VK} {v : V} {d : PyData}
theorem r_isiD {T : String} {b : Bool} (h : DV H v d) (e : kitB (tyName d) T = some b) (q : Q (.bl b) H) : rIsiA K [v, .ty T] H Q := .inl (r_isi h e q)
theorem AV.isStr (h : AV K H v d) (q : Q (.bl (isS d)) H) : rIsiA K [v, .ty "str"] H Q := by
  cases h with
  | dat h => exact r_isiD h (kit_str d) q
  | exc h n k1 k2 => exact .inr ⟨_, _, _, _, rfl, h, n, k1, q⟩
theorem AV.isTup (h : AV K H v d) (q : Q (.bl (isT d)) H) : rIsiA K [v, .ty "tuple"] H Q := by
  cases h with
  | dat h => exact r_isiD h (kit_tuple d) q
  | exc h n k1 k2 => exact .inr ⟨_, _, _, _, rfl, h, n, k2, q⟩
theorem AV.str {z : Str} (h : AV K H v (.str z)) : v = .str z := by
  cases h with
  | dat h => cases h; rfl
theorem AV.tup {ds : List PyData} (h : AV K H v (.tuple ds)) : ∃ a xs, v = .ref a ∧ H a = some (.tup xs) ∧ DVs H xs ds := by
  cases h with
  | dat h => cases h with | tup e r => exact ⟨_, _, rfl, e, r⟩
theorem DVs.len {xs : List V} {ds : List PyData} (h : DVs H xs ds) : xs.length = ds.length := by
  induction xs generalizing ds with
  | nil => cases h; rfl
  | cons x xs ih => cases h with | cons a b => simp [ih b]
end

/-- list(x), the new one not the table of modules -/
theorem call_list_new {X : Cx} : CallR X (.type "list") (fun xs H Q => ∃ (src : Addr) (items : List V), xs = [.ref src] ∧ (SqL X.K H src items ∨ SqT X.K H src items) ∧
    ∀ l, H l = none → l ≠ sysModules → Q (.ref l) (upd H l (.lst items))) := by
  intro pins st σ H xs us Q I rel hyp
  obtain ⟨src, items, rfl, which, post⟩ := hyp
  obtain ⟨val, rfl, rv⟩ := vals1 rel
  cases rv
  have big : st.heap.objs.size ≠ sysModules := Nat.ne_of_gt I.big
  have free := I.hok.fresh (Nat.le_refl st.heap.objs.size)
  have done_ : ∀ (vs : List Value) (hv : Vals items vs) (hn : items.length ≤ sizeLine) (hp : Heap) (ct : Nat)
      (keep : ∀ b o, st.heap.get? b = some o → hp.get? b = some o)
      (new : hp.get? st.heap.objs.size = some { cls := .type "list", dict := none, data := .seq vs.toArray ct, slots := #[] }),
      EP X pins σ Q (.ref st.heap.objs.size) { st with heap := hp } := by
    intro vs hv hn hp ct keep new
    refine ⟨.ref st.heap.objs.size, upd H st.heap.objs.size (.lst items), ?_, rfl, post _ free big⟩
    exact I.laid (t' := st.toks) keep (Nat.le_refl _) ⟨hn, vs, ct, hv, new⟩
  cases which with
  | inl q =>
    obtain ⟨vs, hv, pl, hn⟩ := I.list q
    have el := hv.length
    obtain ⟨o, e1, e2, ct, e3⟩ := pl.isList
    refine call_list_seq src (.inl rfl) e1 e2 e3 (done_ vs hv hn) ?_
    rw [List.size_toArray]
    omega
  | inr q =>
    obtain ⟨vs, hv, pl, hn⟩ := I.tuple q
    have el := hv.length
    obtain ⟨o, e1, e2, ct, e3⟩ := pl
    refine call_list_seq src (.inr rfl) e1 e2 e3 (done_ vs hv hn) ?_
    rw [List.size_toArray]
    omega
/-- little of the C stack is used -/
structure HU (A : Around) : Prop where
  units : A.units + 64 < cLine
/-- what is asked of an own error that is an argument -/
structure AvC (K : PySem.W.Frag) (C : Addr) : Prop where
  s : PySem.W.subIn K (.ref C) (.type "str") = some false
  t : PySem.W.subIn K (.ref C) (.type "tuple") = some false
  mo : PySem.W.mroIn K C (.type "object") = some true
  eq : PySem.W.findIn K (.ref C) "__eq__" = some (some (.builtin "object.__eq__"))
theorem kit_type {K : PySem.W.Frag} {C : Addr} {T : String} {b : Bool} (m : PySem.W.kitMeta T = true) (h : PySem.W.subIn K (.ref C) (.type T) = some b) : PySem.W.kitOne K (.ref C) (.type T) = some b := by
  have e : (Value.ref C == Value.type T) = false := by simp
  unfold PySem.W.kitOne
  rw [e]
  show PySem.W.kitCls K (.ref C) (.type T) = some b
  show (if PySem.W.kitMeta T = true then PySem.W.subIn K (.ref C) (.type T) else none) = some b
  rw [if_pos m]
  exact h
theorem AvC.av {K : PySem.W.Frag} {H : Hp} {a C : Addr} (c : AvC K C) (n : PySem.W.NvCls K C) (e : ExV H a C) : AV K H (.ref a) .none :=
  .exc e n (kit_type (by decide +kernel) c.s) (kit_type (by decide +kernel) c.t)
end Nv

namespace Nv
open PySem L2

theorem r_reprA {H : Hp} {Q : VK} {v : V} {d : PyData} {W D : Nat} (h : DV H v d) (s : Shw W D d) (hw : W ≤ 390000) (hd : D ≤ 60) (q : Q (.str d.shown) H) : rReprA [v] H Q :=
  ⟨v, d, rfl, h, s.h, Nat.le_trans s.p hd, s.len hw, fun i e => by
    have := s.h
    subst e
    simpa only [PyData.showable, decide_eq_true_eq] using this, q⟩
mutual
theorem DV.dp {K : PySem.W.Frag} {H : Hp} : ∀ {v : V} {d : PyData}, DV H v d → d.hasDict = false → Dp K H v d
  | _, _, .non, _ => .non
  | _, _, .bl b, _ => .bl b
  | _, _, .int i, _ => .int i
  | _, _, .str x, _ => .str x
  | _, _, .lst h n r, e => .lst (.of h) (DVs.dp r (by simpa only [PyData.hasDict] using e))
  | _, _, .tup h r, e => .tup (.of h) (DVs.dp r (by simpa only [PyData.hasDict] using e))
  | _, _, .dct h r, e => by simp [PyData.hasDict] at e
theorem DVs.dp {K : PySem.W.Frag} {H : Hp} : ∀ {vs : List V} {ds : List PyData}, DVs H vs ds → PyData.hasDictAll ds = false → DpAll K H vs ds
  | _, _, .nil, _ => .nil
  | _, _, .cons h r, e => by
    simp only [PyData.hasDictAll, Bool.or_eq_false_iff] at e
    exact .cons (DV.dp h e.1) (DVs.dp r e.2)
end
theorem Shw.dict0 {W D : Nat} : Shw (W + 1) (D + 1) (.dict []) := by
  refine ⟨?_, ?_, ?_, ?_⟩
  · simp only [PyData.leavesShort, PyData.leavesShortKv]
  · simp only [PyData.weight, PyData.weightKv]
    omega
  · simp only [PyData.depth, PyData.depthKv]
    exact Nat.succ_le_succ (Nat.zero_le _)
  · simp only [PyData.showable, PyData.showableKv]
theorem Shw.dict2 {W1 W2 W3 W4 D : Nat} {k v k2 v2 : PyData} (a : Shw W1 D k) (b : Shw W2 D v) (c : Shw W3 D k2) (d : Shw W4 D v2) : Shw (W1 + W2 + W3 + W4 + 4) (D + 1) (.dict [(k, v), (k2, v2)]) := by
  refine ⟨?_, ?_, ?_, ?_⟩
  · simp only [PyData.leavesShort, PyData.leavesShortKv, a.s, b.s, c.s, d.s, Bool.and_self]
  · have := a.w
    have := b.w
    have := c.w
    have := d.w
    simp only [PyData.weight, PyData.weightKv]
    omega
  · have := a.p
    have := b.p
    have := c.p
    have := d.p
    simp only [PyData.depth, PyData.depthKv]
    omega
  · simp only [PyData.showable, PyData.showableKv, a.h, b.h, c.h, d.h, Bool.and_self]
end Nv

namespace Nv
open PySem L2

/-! cells -/
def low (c : Nat) : Bool := decide (97 ≤ c) && decide (c ≤ 122)
def upp (c : Nat) : Bool := decide (65 ≤ c) && decide (c ≤ 90)
theorem alphC : ∀ c, c < 128 → Unicode.isAlpha c = (low c || upp c) := by decide +kernel
theorem lowC : ∀ c, c < 128 → Unicode.isLower c = low c := by decide +kernel
theorem uppC : ∀ c, c < 128 → (Unicode.isUpper c || Unicode.isTitle c) = upp c := by decide +kernel
theorem all_eq {f g : Nat → Bool} {l : List Nat} (h : ∀ c ∈ l, f c = g c) : l.all f = l.all g := by
  induction l with
  | nil => rfl
  | cons c r ih => simp only [List.all_cons, h c (by simp), ih fun d hd => h d (by simp [hd])]
theorem any_eq {f g : Nat → Bool} {l : List Nat} (h : ∀ c ∈ l, f c = g c) : l.any f = l.any g := by
  induction l with
  | nil => rfl
  | cons c r ih => simp only [List.any_cons, h c (by simp), ih fun d hd => h d (by simp [hd])]
theorem not_both (c : Nat) : low c = true → upp c = false := fun h => by
  simp [low] at h
  simp [upp]
  omega
theorem low_lem (l : List Nat) : (decide (0 < l.length) && l.all (fun c => low c || upp c) && (l.any low && !l.any upp)) = (decide (0 < l.length) && l.all low) := by
  cases l with
  | nil => rfl
  | cons c r =>
    rw [Bool.eq_iff_iff]
    simp only [Bool.and_eq_true, decide_eq_true_eq, List.all_eq_true, Bool.or_eq_true, List.any_eq_true, Bool.not_eq_true', List.any_eq_false]
    constructor
    · rintro ⟨⟨h1, h2⟩, _, h4⟩
      refine ⟨h1, fun d hd => ?_⟩
      rcases h2 d hd with z | z
      · exact z
      · exact absurd z (h4 d hd)
    · rintro ⟨h1, h2⟩
      refine ⟨⟨h1, fun d hd => .inl (h2 d hd)⟩, ⟨c, by simp, h2 c (by simp)⟩, fun d hd z => ?_⟩
      rw [not_both d (h2 d hd)] at z
      cases z
theorem isascii_iff (z : Str) : Txt.isascii z = true ↔ Asc z := by
  unfold Txt.isascii
  rw [← Array.all_toList, List.all_eq_true]
  simp only [decide_eq_true_eq]
  exact Iff.rfl
theorem low_lt {c : Nat} (h : low c = true) : c < 128 := by
  simp [low] at h
  omega
theorem alow (z : Str) : (Txt.isascii z && (Txt.isalpha z && Txt.islower z)) = (decide (0 < z.length) && (sg z).all low) := by
  by_cases h : Asc z
  · rw [(isascii_iff z).mpr h, Bool.true_and]
    unfold Txt.isalpha Txt.islower
    rw [← Array.all_toList, ← Array.any_toList, ← Array.any_toList]
    rw [all_eq (g := fun c => low c || upp c) (fun c hc => alphC c (h c hc)), any_eq (g := low) (fun c hc => lowC c (h c hc)), any_eq (g := upp) (fun c hc => uppC c (h c hc))]
    have := low_lem (sg z)
    rw [sg_len] at this
    exact this
  · have e1 : Txt.isascii z = false := by
      cases e : Txt.isascii z with
      | false => rfl
      | true => exact absurd ((isascii_iff z).mp e) h
    rw [e1, Bool.false_and]
    symm
    rw [Bool.and_eq_false_iff]
    right
    cases e : (sg z).all low with
    | false => rfl
    | true => exact absurd (fun c hc => low_lt (List.all_eq_true.mp e c hc)) h

/-! numerals -/
def numL (l : List Nat) : Bool := decide (0 < l.length) && l.all Fr.dig && (decide (l = [48]) || !decide (l.head? = some 48))
theorem zero_sg : sg (Str.ofString "0") = [48] := by decide +kernel
theorem starts0 (z : Str) : Txt.startswith z (Str.ofString "0") = decide ((sg z).head? = some 48) := by
  unfold Txt.startswith Builtin.Str.subAt
  have e1 : (Str.ofString "0").length = 1 := by decide +kernel
  have e2 : (Str.ofString "0").cps = #[48] := by decide +kernel
  rw [e1, e2]
  have e3 : z.length = (sg z).length := (sg_len z).symm
  rw [e3]
  have e4 : z.cps.extract 0 (0 + 1) = ((sg z).take 1).toArray := by
    apply Array.toList_inj.mp
    simp [sg]
  rw [e4]
  cases e : sg z with
  | nil => simp
  | cons c r =>
    simp only [List.length_cons, List.head?_cons, Option.some.injEq, List.take_succ_cons, List.take_zero]
    by_cases h : c = 48
    · subst h
      simp
    · simp [h]
theorem dig_lt {c : Nat} (h : Fr.dig c = true) : c < 128 := by
  simp [Fr.dig] at h
  omega
theorem numS_eq (z : Str) : (Txt.isascii z && (Txt.isdigit z && (decide (V.str z = V.str (Str.ofString "0")) || !Txt.startswith z (Str.ofString "0")))) = numL (sg z) := by
  have k0 : decide (V.str z = V.str (Str.ofString "0")) = decide (sg z = [48]) := by
    congr 1
    refine propext ⟨fun h => ?_, fun h => ?_⟩
    · cases h
      exact zero_sg
    · rw [sg_inj (h.trans zero_sg.symm)]
  rw [k0, starts0]
  unfold numL
  by_cases h : Asc z
  · rw [(isascii_iff z).mpr h, Bool.true_and, isdigit_pl h, sg_len]
  · have e1 : Txt.isascii z = false := by
      cases e : Txt.isascii z with
      | false => rfl
      | true => exact absurd ((isascii_iff z).mp e) h
    rw [e1, Bool.false_and]
    have : (sg z).all Fr.dig = false := by
      cases e : (sg z).all Fr.dig with
      | false => rfl
      | true => exact absurd (fun c hc => dig_lt (List.all_eq_true.mp e c hc)) h
    simp [this]

/-! splits at blanks -/
def occL : List Nat → Nat → Nat → List Nat
  | [], _, _ => []
  | c :: r, i, k => if 0 < k ∧ c = 32 then i :: occL r (i + 1) (k - 1) else occL r (i + 1) k
theorem occL_cons (c : Nat) (r : List Nat) (i k : Nat) : occL (c :: r) i k = if 0 < k ∧ c = 32 then i :: occL r (i + 1) (k - 1) else occL r (i + 1) k := rfl
theorem occL_zero : ∀ (l : List Nat) (i : Nat), occL l i 0 = []
  | [], _ => rfl
  | c :: r, i => by
    rw [occL_cons, if_neg (fun h => by omega)]
    exact occL_zero r (i + 1)
theorem occL_skip {a r : List Nat} {k : Nat} (h : ∀ c ∈ a, c ≠ 32) : ∀ i, occL (a ++ r) i k = occL r (i + a.length) k := by
  induction a with
  | nil => intro i; rfl
  | cons c a ih =>
    intro i
    show occL (c :: (a ++ r)) i k = _
    rw [occL_cons, if_neg (fun z => h c (by simp) z.2), ih (fun d hd => h d (by simp [hd]))]
    rw [List.length_cons, show i + 1 + a.length = i + (a.length + 1) from by omega]
theorem occL_hit (r : List Nat) (i k : Nat) : occL (32 :: r) i (k + 1) = i :: occL r (i + 1) k := by
  show (if 0 < k + 1 ∧ 32 = 32 then _ else _) = _
  rw [if_pos ⟨by omega, rfl⟩]
  rfl
open Builtin.Str StrLaws in
theorem occ_run (x : Str) (k : Nat) : ∀ (r p : List Nat) (acc : Array Nat) (f : Nat), sg x = p ++ r → f ≤ p.length →
    (forIn (List.range' p.length (r.length + 1)) (acc, f) (occBody x ⟨#[32]⟩ x.length k)).run.fst.toList = acc.toList ++ occL r p.length (k - acc.size)
  | [], p, acc, f, e, hf => by
    have hx : x.length = p.length := by
      rw [← sg_len, e]
      simp
    show (forIn [p.length] (acc, f) (occBody x ⟨#[32]⟩ x.length k)).run.fst.toList = _
    rw [List.forIn_cons]
    unfold occBody
    have one : (⟨#[32]⟩ : Str).length = 1 := rfl
    rw [if_neg (fun h => by have := h.1.2; rw [one] at this; omega)]
    simp [occL]
  | c :: r, p, acc, f, e, hf => by
    have hx : x.length = p.length + r.length + 1 := by
      rw [← sg_len, e]
      simp
      omega
    have one : (⟨#[32]⟩ : Str).length = 1 := rfl
    have at_ : subAt x ⟨#[32]⟩ p.length = decide (c = 32) := by
      unfold subAt
      rw [one]
      have e4 : x.cps.extract p.length (p.length + 1) = #[c] := by
        apply Array.toList_inj.mp
        have : x.cps.toList = p ++ c :: r := e
        simp [this]
      rw [e4]
      by_cases h : c = 32
      · subst h
        rfl
      · simp [h]
    have rg : List.range' p.length ((c :: r).length + 1) = p.length :: List.range' (p ++ [c]).length (r.length + 1) := by
      simp [List.range']
    rw [rg, List.forIn_cons]
    have e2 : sg x = (p ++ [c]) ++ r := by rw [e]; simp
    have step := fun (acc' : Array Nat) (f' : Nat) (h : f' ≤ (p ++ [c]).length) => occ_run x k r (p ++ [c]) acc' f' e2 h
    have len1 : (p ++ [c]).length = p.length + 1 := by simp
    unfold occBody
    by_cases h : 0 < k - acc.size ∧ c = 32
    · rw [if_pos ⟨⟨⟨by show acc.size < k; omega, hf⟩, by rw [one]; omega⟩, by rw [at_, h.2]; rfl⟩]
      show (forIn _ (acc.push p.length, p.length + (⟨#[32]⟩ : Str).length) (occBody x ⟨#[32]⟩ x.length k)).run.fst.toList = _
      rw [step _ _ (by rw [one, len1]; omega), len1]
      rw [occL_cons, if_pos h, Array.size_push, show k - acc.size - 1 = k - (acc.size + 1) from by omega]
      simp
    · rw [if_neg (fun z => h ⟨by have : acc.size < k := z.1.1.1; omega, by have := z.2; rw [at_] at this; simpa using this⟩)]
      show (forIn _ (acc, f) (occBody x ⟨#[32]⟩ x.length k)).run.fst.toList = _
      rw [step _ _ (by rw [len1]; omega), len1]
      rw [occL_cons, if_neg h]
open Builtin.Str StrLaws in
theorem occ_is (x : Str) (k : Nat) : occurrences x ⟨#[32]⟩ 0 x.length k = occL (sg x) 0 k := by
  have := occ_run x k (sg x) [] #[] 0 rfl (Nat.le_refl _)
  rw [occ_eq]
  rw [sg_len] at this
  simpa using this
theorem sp_is : Str.ofString " " = ⟨#[32]⟩ := by decide +kernel
theorem sub_sg (x : Str) (i j : Nat) : sg (Builtin.Str.strSub x i j) = ((sg x).drop i).take (j - i) := by
  unfold Builtin.Str.strSub sg
  simp [List.extract_eq_drop_take]
/-- each part is a piece -/
theorem part_sub {x p : Str} {cuts : List Nat} {w : Nat} (h : p ∈ Builtin.Str.partsBetween x cuts w) : p.length ≤ x.length ∧ ∀ c ∈ sg p, c ∈ sg x := by
  unfold Builtin.Str.partsBetween at h
  simp only [List.mem_map] at h
  obtain ⟨⟨i, j⟩, _, rfl⟩ := h
  refine ⟨?_, fun c hc => ?_⟩
  · rw [← sg_len, sub_sg, List.length_take, List.length_drop, sg_len]
    omega
  · rw [sub_sg] at hc
    exact List.mem_of_mem_drop (List.mem_of_mem_take hc)
open Builtin.Str in
theorem splitMax_sub {x p : Str} {k : Int} (h : p ∈ Txt.splitMax x (Str.ofString " ") k) : p.length ≤ x.length ∧ ∀ c ∈ sg p, c ∈ sg x := by
  unfold Txt.splitMax at h
  split at h
  · have : p = x := by simpa using h
    subst this
    exact ⟨Nat.le_refl _, fun c hc => hc⟩
  · split at h
    · have : p = x := by simpa using h
      subst this
      exact ⟨Nat.le_refl _, fun c hc => hc⟩
    · exact part_sub h
open Builtin.Str in
theorem split_sub {x p : Str} (h : p ∈ Txt.split x (Str.ofString " ")) : p.length ≤ x.length ∧ ∀ c ∈ sg p, c ∈ sg x := by
  unfold Txt.split at h
  split at h
  · have : p = x := by simpa using h
    subst this
    exact ⟨Nat.le_refl _, fun c hc => hc⟩
  · split at h
    · have : p = x := by simpa using h
      subst this
      exact ⟨Nat.le_refl _, fun c hc => hc⟩
    · exact part_sub h
open Builtin.Str StrLaws in
theorem split_len (x : Str) : 1 ≤ (Txt.split x (Str.ofString " ")).length ∧ (Txt.split x (Str.ofString " ")).length ≤ x.length + 2 := by
  unfold Txt.split
  split
  · simp
  · split
    · simp
    · rw [length_partsBetween]
      have := occ_length_le x (Str.ofString " ") 0 x.length (x.length + 1)
      omega
open Builtin.Str StrLaws in
theorem splitMax_len (x : Str) : (Txt.splitMax x (Str.ofString " ") 3).length ≤ 4 := by
  unfold Txt.splitMax
  split
  · simp
  · split
    · simp
    · rw [length_partsBetween]
      have := occ_length_le x (Str.ofString " ") 0 x.length (limitOf x 3)
      have e : limitOf x 3 ≤ 3 := by
        unfold limitOf
        simp
      omega

open Builtin.Str StrLaws in
theorem split_four {x : Str} {a b c t : List Nat} (e : sg x = a ++ 32 :: (b ++ 32 :: (c ++ 32 :: t))) (ha : ∀ d ∈ a, d ≠ 32) (hb : ∀ d ∈ b, d ≠ 32) (hc : ∀ d ∈ c, d ≠ 32) :
    Txt.splitMax x (Str.ofString " ") 3 = [tx a, tx b, tx c, tx t] := by
  rw [sp_is]
  have hx : x.length = a.length + b.length + c.length + t.length + 3 := by
    rw [← sg_len, e]
    simp
    omega
  have one : (⟨#[32]⟩ : Str).length = 1 := rfl
  have k1 : Builtin.Str.strKind (⟨#[32]⟩ : Str) = 1 := by decide +kernel
  have k2 : 1 ≤ Builtin.Str.strKind x := by
    unfold Builtin.Str.strKind
    split
    · decide
    · split <;> decide
  have lm : limitOf x 3 = 3 := rfl
  have oc : occurrences x ⟨#[32]⟩ 0 x.length 3 = [a.length, a.length + 1 + b.length, a.length + 1 + b.length + 1 + c.length] := by
    rw [occ_is, e, occL_skip ha, occL_hit, occL_skip hb, occL_hit, occL_skip hc, occL_hit, occL_zero]
    simp only [Nat.zero_add]
  unfold Txt.splitMax
  rw [lm, oc, one, k1]
  have f1 : (decide (x.length < 1) || decide (Builtin.Str.strKind x < 1)) = false := by
    simp
    omega
  rw [f1]
  simp only [Bool.false_eq_true, ↓reduceIte, List.isEmpty_cons]
  unfold partsBetween
  simp only [List.map_cons, List.map_nil, List.cons_append, List.nil_append, List.zip_cons_cons, List.zip_nil_right, List.cons.injEq, and_true]
  have d1 : ((a ++ 32 :: (b ++ 32 :: (c ++ 32 :: t))).drop (a.length + 1)) = b ++ 32 :: (c ++ 32 :: t) := by
    rw [← List.drop_drop, List.drop_left]
    rfl
  have d2 : ((a ++ 32 :: (b ++ 32 :: (c ++ 32 :: t))).drop (a.length + 1 + b.length + 1)) = c ++ 32 :: t := by
    rw [show a.length + 1 + b.length + 1 = (a.length + 1) + (b.length + 1) from by omega, ← List.drop_drop, d1, ← List.drop_drop, List.drop_left]
    rfl
  have d3 : ((a ++ 32 :: (b ++ 32 :: (c ++ 32 :: t))).drop (a.length + 1 + b.length + 1 + c.length + 1)) = t := by
    rw [show a.length + 1 + b.length + 1 + c.length + 1 = (a.length + 1 + b.length + 1) + (c.length + 1) from by omega, ← List.drop_drop, d2, ← List.drop_drop, List.drop_left]
    rfl
  refine ⟨sg_inj ?_, sg_inj ?_, sg_inj ?_, sg_inj ?_⟩
  · rw [sub_sg, sg_tx, e, List.drop_zero, Nat.sub_zero, List.take_left]
  · rw [sub_sg, sg_tx, e, d1, show a.length + 1 + b.length - (a.length + 1) = b.length from by omega, List.take_left]
  · rw [sub_sg, sg_tx, e, d2, show a.length + 1 + b.length + 1 + c.length - (a.length + 1 + b.length + 1) = c.length from by omega, List.take_left]
  · rw [sub_sg, sg_tx, e, d3]
    exact List.take_of_length_le (by rw [hx]; omega)
/-! numbers -/
theorem tl_digits (n : Nat) : (Nat.toDigits 10 n).map Char.toNat = TL.numL n := rfl
theorem digits_dig {n c : Nat} (h : c ∈ TL.numL n) : Fr.dig c = true := by
  have := TL.numL_digits n c h
  simp [Fr.dig]
  omega
theorem num_digits (n : Nat) : Fr.num (TL.numL n) = n := TL.numL_val n
theorem head_digits : ∀ n : Nat, 0 < n → ∃ c r, TL.numL n = c :: r ∧ c ≠ 48
  | n, h0 => by
    by_cases h : n < 10
    · exact ⟨48 + n, [], TL.numL_lt h, by omega⟩
    · obtain ⟨c, r, e, hc⟩ := head_digits (n / 10) (by omega)
      exact ⟨c, r ++ [48 + n % 10], by rw [TL.numL_step (by omega), e]; rfl, hc⟩
theorem numL_ok (n : Nat) : numL (TL.numL n) = true := by
  have ha : (TL.numL n).all Fr.dig = true := List.all_eq_true.mpr fun c hc => digits_dig hc
  have hl : 0 < (TL.numL n).length := List.length_pos_iff.mpr (TL.numL_ne n)
  unfold numL
  rw [ha]
  simp only [hl, decide_true, Bool.true_and]
  by_cases h : n = 0
  · subst h
    rfl
  · obtain ⟨c, r, e, hc⟩ := head_digits n (by omega)
    rw [e]
    simp [hc]
theorem nat_sg (n : Nat) : sg (Str.ofString (toString (n : Int))) = TL.numL n := str_nat n
end Nv

namespace Nv
open PySem L2

/-- a text's pieces are of its signs -/
theorem strs_lay (l : List Nat) (h : ∀ c ∈ l, c < 128) : PyData.canLayAll0 (l.map fun c => PyData.str ⟨#[c]⟩) = true := by
  have := (Fts.strs (D := 0) (ts := l.map fun c => [c]) (by
    intro t ht c hc
    obtain ⟨d, hd, rfl⟩ := List.mem_map.mp ht
    have : c = d := by simpa using hc
    exact this ▸ h d hd)).c
  simpa [strsD, List.map_map, Function.comp_def, tx] using this
theorem dp_ones {K : PySem.W.Frag} {H : Hp} : ∀ l : List Nat, DpAll K H (l.map fun c => V.str ⟨#[c]⟩) (l.map fun c => PyData.str ⟨#[c]⟩)
  | [] => .nil
  | c :: r => .cons (.str _) (dp_ones r)
theorem ones_depth (l : List Nat) : PyData.depthAll (l.map fun c => PyData.str ⟨#[c]⟩) = 0 := by
  induction l with
  | nil => rfl
  | cons c r ih => simp [PyData.depthAll, PyData.depth, ih]
theorem shaped_ones (l : List Nat) (h : ∀ c ∈ l, c < 128) : SeqAt.shaped (.list (l.map fun c => PyData.str ⟨#[c]⟩)) = true := by
  unfold SeqAt.shaped
  simp only [PyData.canLay0, strs_lay l h, PyData.depth, ones_depth]
  rfl
theorem eqv_nil (l : List Nat) : PyData.eqv (.list (l.map fun c => PyData.str ⟨#[c]⟩)) (.list []) = l.isEmpty := by
  cases l <;> simp [PyData.eqv, PyData.eqvAll]
theorem take_filter {l : List Nat} {i c : Nat} {f : Nat → Bool} (h : l[i]? = some c) : (l.take (i + 1)).filter f = (l.take i).filter f ++ (if f c then [c] else []) := by
  have e : l.take (i + 1) = l.take i ++ [c] := by
    rw [List.take_add_one, h]
    rfl
  rw [e, List.filter_append]
  congr 1
  cases hf : f c <;> simp [hf]
theorem filt_all (f : Nat → Bool) (l : List Nat) : (l.filter fun c => !f c).isEmpty = l.all f := by
  induction l with
  | nil => rfl
  | cons c r ih =>
    simp only [List.filter_cons, List.all_cons]
    cases f c <;> simp [ih]
theorem figs_sg : sg (Str.ofString "0123456789") = [48, 49, 50, 51, 52, 53, 54, 55, 56, 57] := by decide +kernel
theorem figs_in (c : Nat) : decide (c ∈ (Str.ofString "0123456789").cps.toList) = Fr.dig c := by
  have : (Str.ofString "0123456789").cps.toList = [48, 49, 50, 51, 52, 53, 54, 55, 56, 57] := figs_sg
  rw [this]
  unfold Fr.dig
  by_cases h1 : 48 ≤ c <;> by_cases h2 : c ≤ 57 <;> simp [h1, h2] <;> omega

theorem alph_sg : sg (Str.ofString "abcdefghijklmnopqrstuvwxyz") = [97, 98, 99, 100, 101, 102, 103, 104, 105, 106, 107, 108, 109, 110, 111, 112, 113, 114, 115, 116, 117, 118, 119, 120, 121, 122] := by decide +kernel
theorem alph_in (c : Nat) : decide (c ∈ (Str.ofString "abcdefghijklmnopqrstuvwxyz").cps.toList) = low c := by
  have : (Str.ofString "abcdefghijklmnopqrstuvwxyz").cps.toList = _ := alph_sg
  rw [this]
  unfold low
  by_cases h1 : 97 ≤ c <;> by_cases h2 : c ≤ 122 <;> simp [h1, h2] <;> omega
theorem r_eq_ones {K : PySem.W.Frag} {H : Hp} {Q : VK} {D p : Addr} {l : List Nat} (h : ∀ c ∈ l, c < 128) (hD : H D = some (.lst (l.map fun c => V.str ⟨#[c]⟩))) (hp : H p = some (.lst [])) (q : Q (.bl l.isEmpty) H) : rEqD K (.ref D) (.ref p) H Q :=
  ⟨_, _, .lst (.of hD) (dp_ones l), .lst (.of hp) .nil, shaped_ones l h, by decide, by rw [eqv_nil]; exact q⟩
theorem r_ne_ones {K : PySem.W.Frag} {H : Hp} {Q : VK} {D p : Addr} {l : List Nat} (h : ∀ c ∈ l, c < 128) (hD : H D = some (.lst (l.map fun c => V.str ⟨#[c]⟩))) (hp : H p = some (.lst [])) (q : Q (.bl (!l.isEmpty)) H) : rNeD K (.ref D) (.ref p) H Q :=
  ⟨_, _, .lst (.of hD) (dp_ones l), .lst (.of hp) .nil, shaped_ones l h, by decide, by rw [eqv_nil]; exact q⟩
end Nv

namespace Nv
open PySem PySem.Spec PyProof.Rows L2

/-- repr of a list of data, the list itself anywhere -/
def rReprL : List V → Hp → VK → Prop := fun xs H Q => ∃ (a : Addr) (ys : List V) (ds : List PyData), xs = [.ref a] ∧ H a = some (.lst ys) ∧ DVs H ys ds ∧
  (PyData.list ds).showable = true ∧ (PyData.list ds).depth ≤ 60 ∧ (PyData.list ds).shown.length ≤ sizeLine ∧ Q (.str (PyData.list ds).shown) H
theorem call_reprL {X : Cx} (hG : X.A.guards = some []) (hu : X.A.units + 64 < cLine) : CallR X (.builtin "repr") rReprL := by
  intro pins s σ H xs us Q I r h
  obtain ⟨a, ys, ds, rfl, ha, hd, hs, hp, hz, q⟩ := h
  obtain ⟨u, rfl, rx⟩ := vals1 r
  cases (show u = Value.ref a from rx)
  obtain ⟨_, its, m, rv, e⟩ := (show ObjOk X.prog X.w H s.heap a (.lst ys) from I.hok a _ ha)
  obtain ⟨as, ra, na⟩ := DVs.reads I hd rv
  have sz : (listText (PyData.shownAll ds)).length ≤ sizeLine := by simpa only [PyData.shown] using hz
  obtain ⟨bs, deep, parts⟩ := ReprAllK.of_readsAll (prog := X.prog) (w := X.w) ra (by simpa only [PyData.showable] using hs) (fun _ => na)
    (fun t ht => Nat.le_trans (listText_mem_le ht) sz)
  have apart : a ∉ bs := not_mem_of_deeper (.list e rfl rfl ra) (by simp only [PyData.depth]; omega) deep
  have dp : (PyData.list ds).depth = PyData.depthAll ds + 1 := by simp only [PyData.depth]
  have fin : ∀ (h' : Heap) (t : Tok) (k : Nat), (∀ b o, s.heap.get? b = some o → h'.get? b = some o) → EP X pins σ Q (.str (PyData.list ds).shown t) { s with heap := h', toks := k } :=
    fun h' t k keep => ⟨.str (PyData.list ds).shown, H, I.kept keep, ⟨t, rfl⟩, q⟩
  refine call_repr_slot (by omega) (show s.TypeIs (.ref a) "list" from ⟨_, e, rfl⟩) F.slot_list_repr.toG ?_
  cases its with
  | nil =>
    cases ra
    have : EP X pins σ Q (.str "[]" s.toks) { s with toks := s.toks + 1 } := by
      have z := fin s.heap s.toks (s.toks + 1) fun _ _ w => w
      simpa only [PyData.shown, PyData.shownAll, listText_nil] using z
    exact call_list_repr_empty ⟨_, e, rfl⟩ e rfl ⟨_, _, rfl, this⟩
  | cons x l =>
    refine call_list_reprK e rfl rfl apart (by simpa using parts.length_eq) (fun i y z => parts.item i y (by simpa using z)) hG (fun b _ => Clear.nil b) (by show X.A.units + 1 + _ < cLine; omega) (fun _ _ z => z) (fun h' t k keep => ⟨_, _, rfl, ?_⟩) sz
    have z := fin h' t k keep
    simpa only [PyData.shown] using z
def rReprAL : List V → Hp → VK → Prop := fun xs H Q => rReprL xs H Q ∨ rReprA xs H Q
theorem call_reprAL {X : Cx} (hG : X.A.guards = some []) (hu : X.A.units + 64 < cLine) : CallR X (.builtin "repr") rReprAL := CallR.or (call_reprL hG hu) (call_reprA hG hu)
end Nv

namespace Nv
open PySem PySem.Spec PyProof.Rows L2

/-! len of an own class -/
section
variable {X : Cx}
/-- an own def is called where a built-in one asks for a special name -/
theorem special_own {k : Nat} {f C a dx : Addr} {fd : FuncData} {ps : List Str} {sp : Sp} {name : Str} {us : List Value} {vs : List V} {A : Around} {pins : List (Addr × Obj)} {σ : L2.St} {H : Hp} {s : Shared} {fs : List (Str × V)} {Q : VK} {R : Option Value → Shared → Prop}
    (F : FnG X.prog X.w X.K X.mg X.base k f fd ps sp) (b : Pos1 fd ps) (hG : A.guards = some []) (hr : Room k A) (hfr : A.frames = X.A.frames)
    (hl : PySem.W.findIn X.K (.ref C) name = some (some (.ref f))) (hf : PySem.W.typeIn X.K (.ref f) = some (.type "function"))
    (I : Inv X pins σ H s) (h : H a = some (.ins C dx fs)) (rv : Vals vs us) (hsp : sp (.ref a :: vs) H Q (fun _ _ _ => False))
    (q : ∀ v u s', RelV v u → (∃ H', Inv X pins σ H' s' ∧ Q v H') → R (some u) s') :
    wpAny (model X.prog X.w) A (callSpecial? (.ref a) name us) R X.xe s := by
  obtain ⟨mA, J, _⟩ := ins_get I.hok h
  obtain ⟨od, J, _⟩ := J.look
  unfold callSpecial? specialOf
  refine wpAny_bind (wpAny_bind (J.type.here ((PySem.W.looks_findIn I.kIn hl).here ?_)))
  refine wpAny_holding ?_
  refine wpAny_bind ((PySem.W.bind_fn I.kIn _ hf).here ?_)
  have e0 : Env0 X.prog X.w X.K X.mg X.base A X.stack s H := by
    have e := I.env0
    exact ⟨by rw [hfr]; exact e.frames, e.mod, e.bs, e.bsz, e.funs, e.frf, e.hok, e.bare⟩
  have r2 : Vals (V.ref a :: vs) (Value.ref a :: us) := .cons rfl rv
  have hlen : (Value.ref a :: us).length = ps.length := by
    rw [← r2.length]
    exact F.len _ _ _ _ hsp
  refine wpAny_bind (wpAny_call (codeAny_mono (F.run A X.stack s H ⟨.ref a :: us, []⟩ (.ref a :: us) (.ref a :: vs) Q (fun _ _ _ => False) hG hr e0 (.of_eq (b _ hlen)) r2 hsp) fun r s' hq => ?_))
  cases r with
  | error er =>
    obtain ⟨_, _, _, _, _, _, _, _, _, _, _, _, z⟩ := hq
    exact z.elim
  | ok fl =>
    cases fl with
    | ret u =>
      obtain ⟨v, H', J', rv', q'⟩ := I.after hq
      exact wpAny_pure (q v u s' rv' ⟨H', J', q'⟩)
    | next => exact hq.elim
    | brk => exact hq.elim
    | cont => exact hq.elim
def rLenO (C : Addr) (sp : Sp) : List V → Hp → VK → Prop := fun xs H Q => ∃ (a dx : Addr) (fs : List (Str × V)), xs = [.ref a] ∧ H a = some (.ins C dx fs) ∧
  sp [.ref a] H (fun v H1 => ∃ n : Int, v = .int n ∧ 0 ≤ n ∧ n < 2 ^ 63 ∧ Q (.int n) H1) (fun _ _ _ => False)
theorem call_lenO {k : Nat} {f C : Addr} {fd : FuncData} {ps : List Str} {sp : Sp} (F : FnG X.prog X.w X.K X.mg X.base k f fd ps sp) (b : Pos1 fd ps) (hG : X.A.guards = some []) (hr : Room (k + 1) X.A)
    (hl : PySem.W.findIn X.K (.ref C) "__len__" = some (some (.ref f))) (hf : PySem.W.typeIn X.K (.ref f) = some (.type "function")) : CallR X (.builtin "len") (rLenO C sp) := by
  intro pins s σ H xs us Q I r h
  obtain ⟨a, dx, fs, rfl, ha, hsp⟩ := h
  obtain ⟨u, rfl, ru⟩ := vals1 r
  obtain rfl : u = Value.ref a := ru
  refine Calls.call_function_entry kind_len plain_len entry_len (args_len1 _) ?_
  unfold Builtin.«len»
  refine wpAny_bind (m := oneArg "len" _) (wpAny_pure ?_)
  refine wpAny_bind (m := callSpecial? (.ref a) (PySem.Str.ofString "__len__")) (special_own (A := X.A.in1) (vs := []) (us := []) F b hG hr.in1 rfl hl hf I ha .nil hsp ?_)
  rintro v u s' rv ⟨H', I', n, rfl, h0, h1, q⟩
  obtain ⟨t, rfl⟩ := (show ∃ t, u = Value.int n t from rv)
  refine wpAny_bind (wpAny_holding (wpAny_pure ?_))
  refine wpAny_bind (wpAny_letGo ?_)
  show wpAny _ _ (if n < 0 then _ else _) _ _ _
  rw [if_neg (by omega)]
  show wpAny _ _ (if n ≥ 2 ^ 63 then _ else _) _ _ _
  rw [if_neg (by omega)]
  exact wpAny_bind (wpAny_mkInt (wpAny_pure ⟨_, rfl, .int n, H', I'.tok _, ⟨_, rfl⟩, q⟩))
end

/-! new instances of own classes, whose __init__ may raise -/
theorem under_guards {A : Around} {C : Addr} {us : List Value} {kw : List (Str × Value)} : (A.under (.builtin "type.__call__" ⟨.ref C :: us, kw⟩)).guards = A.guards := by
  first | rfl | simp [Around.under, Code.weight, Code.isCreation, Code.isGuard, Code.isCaller, Code.frames, Code.isFrame, guardIds]
/-- C(e, ..) -/
def tMakeG (C : Addr) (sp : Sp) (W : WX) (t : TA) : TE := fun σ H Q => t σ H fun vs H1 => ∀ x dx, H1 x = none → H1 dx = none → dx ≠ x →
  sp (.ref x :: vs) (upd (upd H1 dx (.own x)) x (.ins C dx [])) (fun v H2 => v = .non ∧ Q (.ref x) H2) (WE W σ)
theorem e_makeG {C : Addr} {sp : Sp} {W : WX} {t : TA} {σ : L2.St} {H : Hp} {Q : VK} : tMakeG C sp W t σ H Q = t σ H (fun vs H1 => ∀ x dx, H1 x = none → H1 dx = none → dx ≠ x →
  sp (.ref x :: vs) (upd (upd H1 dx (.own x)) x (.ins C dx [])) (fun v H2 => v = .non ∧ Q (.ref x) H2) (WE W σ)) := rfl
section
variable {X : Cx} {W : WX} {k : Nat} {f C : Addr} {fd : FuncData} {ps ks : List Str} {sp : Sp} {x : Str} {p pos : Pos} {e : Expr} {es : List Expr} {kws : List Keyword} {t : TA}
theorem run_makeG {pins : List (Addr × Obj)} {σ : L2.St} {H : Hp} {s : Shared} {Q : VK} {us us2 : List Value} {vs : List V} {kw : List (Str × Value)} (M : Mk X.K C f) (F : FnG X.prog X.w X.K X.mg X.base k f fd ps sp) (tk : Takes X W) (hG : X.A.guards = some []) (hr : Room (k + 1) X.A)
    (hb : ∀ (s : Shared) (u : Value), X.K.In s.heap → BindsTo s fd ⟨u :: us, kw⟩ (ps.zip (u :: us2))) (I : Inv X pins σ H s) (r : Vals vs us2)
    (h : ∀ x dx, H x = none → H dx = none → dx ≠ x → sp (.ref x :: vs) (upd (upd H dx (.own x)) x (.ins C dx [])) (fun v H2 => v = .non ∧ Q (.ref x) H2) (WE W σ)) :
    wpAny (model X.prog X.w) X.A (call (.ref C) us kw) (EP X pins σ Q) X.xe s := by
  have hq := h (s.heap.objs.size + 1) s.heap.objs.size (I.hok.fresh (Nat.le_succ _)) (I.hok.fresh (Nat.le_refl _)) (Nat.ne_of_lt (Nat.lt_succ_self _))
  have I2 := Inv.made (C := C) I
  have r2 : Vals (V.ref (s.heap.objs.size + 1) :: vs) (Value.ref (s.heap.objs.size + 1) :: us2) := .cons rfl r
  refine wpAny_call (make_map (f := f) I.kIn M.makes M.init (beq_iff_eq.mp M.fn) (codeAny_mono (F.run _ X.stack _ _ ⟨Value.ref (s.heap.objs.size + 1) :: us, kw⟩ (Value.ref (s.heap.objs.size + 1) :: us2) _ _ (WE W σ) (under_guards.trans hG) (hr.make C us kw)
    (I2.env0.make C us kw) (hb _ _ I2.kIn) r2 hq) fun r s' hq' => ?_))
  cases r with
  | error er => exact passAt tk σ pins _ _ er s' I2 hq'
  | ok fl =>
    cases fl with
    | ret u =>
      obtain ⟨v, H', I3, rv, ev, q3⟩ := I2.after hq'
      subst ev
      exact ⟨rv, ⟨V.ref (s.heap.objs.size + 1), H', I3, rfl, q3⟩⟩
    | next => exact False.elim hq'
    | brk => exact False.elim hq'
    | cont => exact False.elim hq'
theorem lenM {us : List Value} {vs : List V} {H : Hp} {Q : VK} {E : XK} {a : Addr} (F : FnG X.prog X.w X.K X.mg X.base k f fd ps sp) (r : Vals vs us) (h : sp (.ref a :: vs) H Q E) : us.length + 1 = ps.length := by
  rw [← r.length]
  exact F.len _ _ _ _ h
theorem pe_makeG (M : Mk X.K C f) (F : FnG X.prog X.w X.K X.mg X.base k f fd ps sp) (b : Binds X.K fd ps []) (tk : Takes X W) (hG : X.A.guards = some []) (hr : Room (k + 1) X.A) (hg : Gl X x) (hm : X.mg x = some (.ref C))
    (ha : PA X (e :: es) t) (hdb : (x == ("__debug__" : Str)) = false := by decide) (he : starEach (e :: es) X.env = (false, eval e X.env) :: starEach es X.env := by rfl) (hpl : (backTo pos (starEach es X.env)).any (·.1) = false := by rfl) :
    PE X (.Call (.Name x p) (e :: es) [] pos) (tMakeG C sp W t) := by
  refine ⟨fun pins s σ H Q I h => ?_⟩
  refine wpAny_Call_Name_kw (ld_glob I hg hm ?_ hdb)
  refine PySem.W.callWith_K (h₀ := X.base) I.ok.mod.kin M.kp (thn (ha.run pos pins s σ H _ I h) fun us s1 ⟨vs, H1, I1, r, q⟩ => ⟨I1.kIn, ?_⟩) he hpl
  have hl := lenM F r (q (s1.heap.objs.size + 1) s1.heap.objs.size (I1.hok.fresh (Nat.le_succ _)) (I1.hok.fresh (Nat.le_refl _)) (Nat.ne_of_lt (Nat.lt_succ_self _)))
  refine run_makeG (us2 := us) M F tk hG hr (fun s u z => ?_) I1 r q
  have := b s (u :: us) z (by simpa using hl)
  simpa using this
theorem pe_makeGk (M : Mk X.K C f) (F : FnG X.prog X.w X.K X.mg X.base k f fd ps sp) (b : Kw1 fd ps ks 1) (hlen : ps.length = ks.length + 1) (tk : Takes X W) (hG : X.A.guards = some []) (hr : Room (k + 1) X.A) (hg : Gl X x) (hm : X.mg x = some (.ref C))
    (ha : PK X kws t) (hall : (backToKw pos (keywordEach kws X.env)).all (·.1.isSome) = true := by rfl) (hks : (backToKw pos (keywordEach kws X.env)).filterMap (·.1) = ks := by rfl)
    (hdb : (x == ("__debug__" : Str)) = false := by decide)
    (hpl : ((backTo pos (starEach [] X.env)).any (·.1) || (backToKw pos (keywordEach kws X.env)).any (·.1.isNone)) = false := by rfl) :
    PE X (.Call (.Name x p) [] kws pos) (tMakeG C sp W t) := by
  refine ⟨fun pins s σ H Q I h => ?_⟩
  refine wpAny_Call_Name_kw (ld_glob I hg hm ?_ hdb)
  refine PySem.W.callWith_KW0 (h₀ := X.base) I.ok.mod.kin M.kp hall ?_ hpl
  refine thn (ha.run pos pins s σ H _ I h) ?_
  intro ws s2 ⟨zs, H2, I2, rz, q2⟩
  refine ⟨I2.kIn, ?_⟩
  rw [hks]
  have hl := lenM F rz (q2 (s2.heap.objs.size + 1) s2.heap.objs.size (I2.hok.fresh (Nat.le_succ _)) (I2.hok.fresh (Nat.le_refl _)) (Nat.ne_of_lt (Nat.lt_succ_self _)))
  refine run_makeG (us := []) (us2 := ws) M F tk hG hr (fun s u z => .of_eq (b [u] ws rfl (by omega))) I2 rz q2
end

/-! a list grows by a tuple's items -/
section
open AutoSeq1 (wpAny_loadPart')
theorem grow_tup (l b : Addr) (xs ys : Array Value) (n m : Nat) (dd : Option Addr) (sl : Array (Option Value)) (short : ¬ (!xs.isEmpty && Builtin.List.listTooLong (xs.size + ys.size)) = true) (z1 : xs.size ≤ sizeLine) (z2 : xs.size + ys.size ≤ sizeLine + 1) :
    Meets (Builtin.«list.extend» ⟨[.ref l, .ref b], []⟩) (fun _ R s =>
      s.heap.get? l = some { cls := .type "list", dict := none, data := .seq xs n, slots := #[] } ∧
      s.heap.get? b = some { cls := .type "tuple", dict := dd, data := .seq ys m, slots := sl } ∧
      R (.ok (.ret Value.none)) { s with heap := s.heap.update l (Obj.mapSeq fun x => x ++ ys), toks := s.toks }) :=
  .of_wp fun prog w A R s h => by
    obtain ⟨hp, g, d, tk, os⟩ := s
    obtain ⟨el, eb, q⟩ := h
    have t1 := AutoSeq1.idx_int
    have t2 := AutoSeq1.sub_tuple_tuple
    have t3 := AutoSeq1.sub_tuple_list
    have z3 : (xs ++ ys).size ≤ sizeLine + 1 := by
      rw [Array.size_append]
      exact z2
    wp_walk using (wpAny_updateSeq el rfl (hz := z1) (_hz' := z3)), wpAny_loadPart' el, wpAny_loadPart' eb
    exact ⟨_, rfl, q⟩
end
/-- xs.extend(ys), ys a list or a tuple -/
def rExtA (K : PySem.W.Frag) : V → List V → Hp → VK → Prop := fun x vs H Q => ∃ l b xs zs, x = .ref l ∧ vs = [.ref b] ∧ H l = some (.lst xs) ∧ (H b = some (.lst zs) ∨ SqT K H b zs) ∧ xs.length + zs.length ≤ sizeLine ∧ Q .non (upd H l (.lst (xs ++ zs)))
theorem mt_extA {X : Cx} : MtM X "list.extend" (rExtA X.K) := by
  intro pins s σ H x vs v us Q I rx rv h
  obtain ⟨l, b, xs, zs, rfl, rfl, hH, hB | hB, hz, q⟩ := h
  · exact mt_extend pins s σ H _ _ v us Q I rx rv ⟨l, b, xs, zs, rfl, rfl, hH, hB, hz, q⟩
  · cases rx
    obtain ⟨u, rfl, ru⟩ := rv.one
    cases ru
    obtain ⟨z, its, n, r, hl, e⟩ := I.lstM hH
    obtain ⟨its2, r2, ⟨o, e2, o1, m, o3⟩, hl2⟩ := I.tuple hB
    have l1 := r.length
    have l2 := r2.length
    have hsz : its.toArray.size + its2.toArray.size ≤ sizeLine := by
      rw [List.size_toArray, List.size_toArray]
      omega
    have hlong : ¬ (!its.toArray.isEmpty && Builtin.List.listTooLong (its.toArray.size + its2.toArray.size)) = true := by
      rw [notLongL hsz, Bool.and_false]
      exact Bool.false_ne_true
    obtain ⟨oc, od, oda, os⟩ := o
    simp only at o1 o3
    subst o1
    subst o3
    refine call_meets F.slot_list_extend ⟨_, e, rfl⟩ F.entry_list_extend (F.args_list_extend_2 _ _)
      (grow_tup l b its.toArray its2.toArray n m od os hlong (by rw [List.size_toArray]; omega) (by omega)) ⟨e, e2, ?_⟩
    refine ⟨.non, _, I.lset (its' := its ++ its2) hH e (by simp) (r.append r2) ?_, rfl, q⟩
    rw [List.length_append]
    omega
end Nv

namespace Nv
open PySem L2

/-! rows of figures in a text -/
def Fig (B : Nat) (l : List Nat) : Prop := ∀ a b c, l = a ++ (b ++ c) → b.all Fr.dig = true → b.length ≤ B
theorem Fig.sub {B : Nat} {l m : List Nat} (h : Fig B m) (i : l <:+: m) : Fig B l := by
  obtain ⟨s, t, e⟩ := i
  intro a b c hl hd
  refine h (s ++ a) b (c ++ t) ?_ hd
  rw [← e, hl]
  simp
theorem Fig.len {B : Nat} {l : List Nat} (h : l.length ≤ B) : Fig B l := fun a b c e _ => by
  rw [e, List.length_append, List.length_append] at h
  omega
theorem Fig.le {B C : Nat} {l : List Nat} (h : Fig B l) (k : B ≤ C) : Fig C l := fun a b c e d => Nat.le_trans (h a b c e d) k
theorem Fig.self {B : Nat} {l : List Nat} (h : Fig B l) (d : l.all Fr.dig = true) : l.length ≤ B := h [] l [] (by simp) d
theorem Fig.nil (B : Nat) : Fig B [] := Fig.len (Nat.zero_le _)
/-- a sign that is no figure parts the rows -/
theorem Fig.part {B c : Nat} {l m : List Nat} (h1 : Fig B l) (h2 : Fig B m) (hc : Fr.dig c = false) : Fig B (l ++ c :: m) := by
  intro a b r e d
  by_cases h : a.length + b.length ≤ l.length
  · refine h1 a b ((l.drop (a.length + b.length))) ?_ d
    have e2 : (l ++ c :: m).take (a.length + b.length) = a ++ b := by
      rw [e, ← List.append_assoc]
      have : (a ++ b).length = a.length + b.length := List.length_append
      rw [← this, List.take_left]
    rw [List.take_append_of_le_length h] at e2
    rw [← List.append_assoc, ← e2, List.take_append_drop]
  · by_cases h3 : l.length < a.length
    · have e3 : (l ++ c :: m).drop a.length = b ++ r := by
        rw [e, List.drop_left]
      rw [List.drop_append_of_le_length' h3] at e3
      refine h2 (m.take (a.length - l.length - 1)) b r ?_ d
      rw [← e3, List.take_append_drop]
    · exfalso
      have hi : (l ++ c :: m)[l.length]? = some c := by simp
      rw [e, List.getElem?_append_right (by omega), List.getElem?_append_left (by omega)] at hi
      have hm := List.mem_of_getElem? hi
      have := List.all_eq_true.mp d c hm
      rw [hc] at this
      cases this
where
  List.drop_append_of_le_length' {l : List Nat} {c : Nat} {m : List Nat} {k : Nat} (h : l.length < k) : (l ++ c :: m).drop k = m.drop (k - l.length - 1) := by
    rw [List.drop_append]
    have : l.drop k = [] := List.drop_of_length_le (by omega)
    rw [this, List.nil_append]
    obtain ⟨j, hj⟩ : ∃ j, k - l.length = j + 1 := ⟨k - l.length - 1, by omega⟩
    rw [hj]
    simp
theorem sub_infix (x : Str) (i j : Nat) : sg (Builtin.Str.strSub x i j) <:+: sg x := by
  rw [sub_sg]
  exact (List.take_prefix _ _).isInfix.trans (List.drop_suffix _ _).isInfix
theorem part_infix {x p : Str} {cuts : List Nat} {w : Nat} (h : p ∈ Builtin.Str.partsBetween x cuts w) : sg p <:+: sg x := by
  unfold Builtin.Str.partsBetween at h
  simp only [List.mem_map] at h
  obtain ⟨⟨i, j⟩, _, rfl⟩ := h
  exact sub_infix x i j
open Builtin.Str in
theorem splitMax_infix {x p : Str} {k : Int} (h : p ∈ Txt.splitMax x (Str.ofString " ") k) : sg p <:+: sg x := by
  unfold Txt.splitMax at h
  split at h
  · have : p = x := by simpa using h
    subst this
    exact List.infix_rfl
  · split at h
    · have : p = x := by simpa using h
      subst this
      exact List.infix_rfl
    · exact part_infix h
open Builtin.Str in
theorem split_infix {x p : Str} (h : p ∈ Txt.split x (Str.ofString " ")) : sg p <:+: sg x := by
  unfold Txt.split at h
  split at h
  · have : p = x := by simpa using h
    subst this
    exact List.infix_rfl
  · split at h
    · have : p = x := by simpa using h
      subst this
      exact List.infix_rfl
    · exact part_infix h
theorem num_lt (l : List Nat) (h : ∀ c ∈ l, Fr.dig c = true) : ∀ a : Nat, l.foldl (fun a c => a * 10 + (c - 48)) a < (a + 1) * 10 ^ l.length := by
  induction l with
  | nil => intro a; simp
  | cons c r ih =>
    intro a
    rw [List.foldl_cons, List.length_cons]
    have hc : c - 48 ≤ 9 := by
      have := h c (by simp)
      simp [Fr.dig] at this
      omega
    have := ih (fun d hd => h d (by simp [hd])) (a * 10 + (c - 48))
    have e : (a + 1) * 10 ^ (r.length + 1) = (a * 10 + 10) * 10 ^ r.length := by
      rw [Nat.pow_succ, Nat.mul_comm (10 ^ r.length) 10, ← Nat.mul_assoc, Nat.add_mul, Nat.one_mul]
    rw [e]
    exact Nat.lt_of_lt_of_le this (Nat.mul_le_mul_right _ (by omega))
theorem num_lt' {l : List Nat} {B : Nat} (h : l.all Fr.dig = true) (hB : l.length ≤ B) : Fr.num l < 10 ^ B := by
  have := num_lt l (List.all_eq_true.mp h) 0
  rw [Nat.zero_add, Nat.one_mul] at this
  exact Nat.lt_of_lt_of_le this (Nat.pow_le_pow_right (by decide) hB)
end Nv

namespace Nv
open PySem PySem.Spec PyProof.Rows L2

/-! a name that holds a list or a tuple, walked -/
def iSeqV (K : PySem.W.Frag) (i : Nat) : TI := fun σ H R => ∃ a : Addr, σ[i]? = some (some (.ref a)) ∧ (((∃ xs, SqL K H a xs) ∧ R (Itl K a) H) ∨ ((∃ xs, SqT K H a xs) ∧ R (Itt K a) H))
theorem pi_seqV {X : Cx} {tg e : Expr} {i : Nat} (h : PE X e (tVar i)) : PI X tg e (iSeqV X.K i) := by
  refine ⟨fun pins s σ H R I q => ?_⟩
  obtain ⟨a, hv, ⟨hx, r⟩ | ⟨hx, r⟩⟩ := q
  · exact (pi_list h).run pins s σ H R I ⟨_, hv, a, rfl, hx, r⟩
  · exact (pi_tup h).run pins s σ H R I ⟨_, hv, a, rfl, hx, r⟩
theorem sqT_same {K : PySem.W.Frag} {H H' : Hp} {a : Addr} {xs : List V} (e : Same H H') (h : SqT K H a xs) : SqT K H' a xs :=
  h.elim (fun h => .inl (h.elim (fun h => .inl (e _ _ h)) fun ⟨o, h⟩ => .inr ⟨o, e _ _ h⟩)) fun h => .inr h
theorem lc_seqV {K : PySem.W.Frag} {a : Addr} {xs : List V} {i : Nat} {g : TG} {tt : TT} {te : TE} {vs : List Nat} {σ : L2.St} {H : Hp} {Q : VK} (hv : σ[i]? = some (some (.ref a))) (hx : SqL K H a xs ∨ SqT K H a xs)
    (Pv : Addr → Nat → Hp → Prop) (h0 : ∀ D, H D = none → Pv D 0 (upd H D (.lst []))) (st : ∀ D j H', H D = none → Pv D j H' → Same H H')
    (hs : ∀ D j x H', H D = none → xs[j]? = some x → Pv D j H' → g x (wipe σ vs) H' fun σ2 H2 => wipe σ2 vs = wipe σ vs ∧ tt σ2 H2 fun b H3 =>
      if b = true then te σ2 H3 fun y H4 => ∃ acc, H4 D = some (.lst acc) ∧ acc.length < sizeLine ∧ Pv D (j + 1) (upd H4 D (.lst (acc ++ [y]))) else Pv D (j + 1) H3)
    (hd : ∀ D H', H D = none → Pv D xs.length H' → Q (.ref D) H') : tLc (iSeqV K i) g tt te vs σ H Q := by
  rcases hx with hx | hx
  · refine ⟨a, hv, .inl ⟨⟨xs, hx⟩, fun D hD => ?_⟩⟩
    exact lc_list (K := K) (a := a) (xs := xs) (Pv D) (h0 D hD) (fun j H' _ p => L2.Same.seq (st D j H' hD p) hx) (fun j x H' hj p => hs D j x H' hD hj p) fun H' p => hd D H' hD p
  · refine ⟨a, hv, .inr ⟨⟨xs, hx⟩, fun D hD => ?_⟩⟩
    exact lc_tup (K := K) (a := a) (xs := xs) (Pv D) (h0 D hD) (fun j H' _ p => sqT_same (st D j H' hD p) hx) (fun j x H' hj p => hs D j x H' hD hj p) fun H' p => hd D H' hD p
end Nv

namespace Nv
open PySem L2

/-! what a row of frames was read from -/
theorem dig_val {c : Nat} (h : Fr.dig c = true) : 48 ≤ c ∧ c ≤ 57 := by simpa [Fr.dig] using h
theorem pad_back {l : List Nat} (h4 : l.length = 4) (hd : l.all Fr.dig = true) : l = Fr.pad (Fr.num l) ∧ Fr.num l < 10000 := by
  match l, h4 with
  | [a, b, c, d], _ =>
    have h := List.all_eq_true.mp hd
    have ha := dig_val (h a (by simp))
    have hb := dig_val (h b (by simp))
    have hc := dig_val (h c (by simp))
    have hd' := dig_val (h d (by simp))
    simp only [Fr.num, Fr.pad, List.foldl_cons, List.foldl_nil, List.cons.injEq, and_true]
    refine ⟨⟨?_, ?_, ?_, ?_⟩, ?_⟩ <;> omega
theorem drop_two (l : List Nat) (i j : Nat) : l.drop i = (l.drop i).take j ++ l.drop (i + j) := by
  have := (List.take_append_drop j (l.drop i)).symm
  rw [List.drop_drop] at this
  exact this
theorem fend_split {z : List Nat} {s e : Nat} (h : Fr.fend z s = some e) :
    z.drop s = Fr.frm (Fr.piece z (s + 4) (e - 1)) ++ z.drop e ∧ (Fr.piece z (s + 4) (e - 1)).length < 10000 ∧ e = s + (Fr.piece z (s + 4) (e - 1)).length + 5 := by
  have hb := Fr.fend_bounds h
  unfold Fr.fend at h
  split at h
  · rename_i h1
    split at h
    · rename_i h2
      cases h
      obtain ⟨n, hn⟩ : ∃ n, n = Fr.num ((z.drop s).take 4) := ⟨_, rfl⟩
      obtain ⟨p1, p2⟩ := pad_back h1.1 h1.2
      rw [← hn] at p1 p2 h2 hb ⊢
      have hl : ((z.drop (s + 4 + n)).take 1).length = 1 := by rw [h2]; rfl
      rw [List.length_take, List.length_drop] at hl
      have ep : Fr.piece z (s + 4) (s + 4 + n + 1 - 1) = (z.drop (s + 4)).take n := by
        unfold Fr.piece
        congr 1
        omega
      have lp : ((z.drop (s + 4)).take n).length = n := by
        rw [List.length_take, List.length_drop]
        omega
      rw [ep, lp]
      refine ⟨?_, p2, by omega⟩
      unfold Fr.frm
      rw [lp]
      have e1 : z.drop s = (z.drop s).take 4 ++ z.drop (s + 4) := drop_two z s 4
      have e2 : z.drop (s + 4) = (z.drop (s + 4)).take n ++ z.drop (s + 4 + n) := drop_two z (s + 4) n
      have e3 : z.drop (s + 4 + n) = [46] ++ z.drop (s + 4 + n + 1) := by
        have := drop_two z (s + 4 + n) 1
        rw [h2] at this
        exact this
      conv => lhs; rw [e1, p1, e2, e3]
      simp
    · cases h
  · cases h
theorem rd_take {z : List Nat} : ∀ (n s : Nat) (acc : List (List Nat)), z.take s = Fr.row acc → s = Fr.total acc → s ≤ z.length → (∀ t ∈ acc, t.length < 10000) →
    z.take (Fr.rd z n s acc).2 = Fr.row (Fr.rd z n s acc).1 ∧ (Fr.rd z n s acc).2 = Fr.total (Fr.rd z n s acc).1 ∧ (Fr.rd z n s acc).2 ≤ z.length ∧ ∀ t ∈ (Fr.rd z n s acc).1, t.length < 10000
  | 0, s, acc, h1, h2, h3, h4 => ⟨h1, h2, h3, h4⟩
  | n + 1, s, acc, h1, h2, h3, h4 => by
    rw [Fr.rd]
    cases e : Fr.fend z s with
    | none => exact ⟨h1, h2, h3, h4⟩
    | some x =>
      obtain ⟨k1, k2, k3⟩ := fend_split e
      have hb := Fr.fend_bounds e
      refine rd_take n x _ ?_ ?_ hb.2 ?_
      · have e1 : z.take x = z.take s ++ (z.drop s).take (x - s) := by
          have := List.take_add (l := z) (i := s) (j := x - s)
          rw [show s + (x - s) = x from by omega] at this
          exact this
        rw [e1, h1, k1]
        have lf : (Fr.frm (Fr.piece z (s + 4) (x - 1))).length = x - s := by
          rw [Fr.frm_len]
          omega
        rw [← lf, List.take_left]
        simp [Fr.row]
      · simp only [Fr.total, List.map_append, List.sum_append, List.map_cons, List.map_nil, List.sum_cons, List.sum_nil] at h2 ⊢
        omega
      · intro t ht
        rcases List.mem_append.mp ht with ht | ht
        · exact h4 t ht
        · have : t = Fr.piece z (s + 4) (x - 1) := by simpa using ht
          rw [this]
          exact k2
theorem parse_take (z : List Nat) : z.take (Fr.parse z).2 = Fr.row (Fr.parse z).1 ∧ (Fr.parse z).2 = Fr.total (Fr.parse z).1 ∧ (Fr.parse z).2 ≤ z.length ∧ ∀ t ∈ (Fr.parse z).1, t.length < 10000 :=
  rd_take (z.length + 1) 0 [] rfl rfl (Nat.zero_le _) (by simp)
/-- the texts stand in what was read -/
theorem row_infix {t : List Nat} : ∀ {ts : List (List Nat)}, t ∈ ts → t <:+: Fr.row ts
  | u :: r, h => by
    have e : Fr.row (u :: r) = Fr.pad u.length ++ u ++ ([46] ++ Fr.row r) := by simp [Fr.row, Fr.frm]
    rcases List.mem_cons.mp h with rfl | h
    · exact ⟨Fr.pad t.length, [46] ++ Fr.row r, by rw [e]⟩
    · refine (row_infix h).trans ⟨Fr.pad u.length ++ u ++ [46], [], ?_⟩
      rw [e]
      simp
theorem parse_infix {z t : List Nat} (h : t ∈ (Fr.parse z).1) : t <:+: z := by
  have := (parse_take z).1
  have i := row_infix h
  rw [← this] at i
  exact i.trans (List.take_prefix _ _).isInfix
/-- a numeral is the text of its number -/
theorem numL_back : ∀ (k : Nat) {l : List Nat}, l.length = k → numL l = true → TL.numL (Fr.num l) = l := by
  intro k
  induction k using Nat.strongRecOn with
  | _ k ih =>
    intro l hl h
    unfold numL at h
    simp only [Bool.and_eq_true, decide_eq_true_eq, Bool.or_eq_true, Bool.not_eq_true', decide_eq_false_iff_not] at h
    obtain ⟨⟨h1, h2⟩, h3⟩ := h
    obtain ⟨r, c, rfl⟩ : ∃ r c, l = r ++ [c] := ⟨l.dropLast, l.getLast (by intro q; rw [q] at h1; simp at h1), (List.dropLast_concat_getLast _).symm⟩
    have hc := dig_val (List.all_eq_true.mp h2 c (by simp))
    have ev : Fr.num (r ++ [c]) = Fr.num r * 10 + (c - 48) := by
      unfold Fr.num
      rw [List.foldl_append]
      rfl
    cases r with
    | nil =>
      rw [ev]
      show TL.numL (0 * 10 + (c - 48)) = [c]
      rw [TL.numL_lt (by omega)]
      congr 1
      omega
    | cons d r =>
      have hd : d ≠ 48 := by
        rcases h3 with h3 | h3
        · simp at h3
        · simpa using h3
      have dd := dig_val (List.all_eq_true.mp h2 d (by simp))
      have ok : numL (d :: r) = true := by
        unfold numL
        have a1 : ((d :: r).all Fr.dig) = true := by
          rw [List.all_append] at h2
          simp only [Bool.and_eq_true] at h2
          exact h2.1
        rw [a1]
        simp [hd]
      have hrec := ih (d :: r).length (by rw [← hl]; simp) rfl ok
      have big : 0 < Fr.num (d :: r) := by
        rcases Nat.eq_zero_or_pos (Fr.num (d :: r)) with z | z
        · rw [z, TL.numL_lt (by decide)] at hrec
          injection hrec with q
          omega
        · exact z
      rw [ev, TL.numL_step (by omega)]
      have q1 : (Fr.num (d :: r) * 10 + (c - 48)) / 10 = Fr.num (d :: r) := by omega
      have q2 : 48 + (Fr.num (d :: r) * 10 + (c - 48)) % 10 = c := by omega
      rw [q1, q2, hrec]
/-! a text that falls into four parts -/
theorem first_blank : ∀ l : List Nat, (∀ d ∈ l, d ≠ 32) ∨ ∃ a r, l = a ++ 32 :: r ∧ ∀ d ∈ a, d ≠ 32
  | [] => .inl (by simp)
  | c :: l => by
    by_cases h : c = 32
    · exact .inr ⟨[], l, by rw [h]; rfl, by simp⟩
    · rcases first_blank l with q | ⟨a, r, e, q⟩
      · refine .inl fun d hd => ?_
        rcases List.mem_cons.mp hd with rfl | hd
        · exact h
        · exact q d hd
      · refine .inr ⟨c :: a, r, by rw [e]; rfl, fun d hd => ?_⟩
        rcases List.mem_cons.mp hd with rfl | hd
        · exact h
        · exact q d hd
theorem occL_free {l : List Nat} {i k : Nat} (h : ∀ d ∈ l, d ≠ 32) : occL l i k = [] := by
  have := occL_skip (a := l) (r := []) (k := k) h i
  rw [List.append_nil] at this
  rw [this]
  rfl
open Builtin.Str StrLaws in
theorem four_parts {x a b c t : Str} (h : Txt.splitMax x (Str.ofString " ") 3 = [a, b, c, t]) : sg x = sg a ++ 32 :: (sg b ++ 32 :: (sg c ++ 32 :: sg t)) ∧ (∀ d ∈ sg a, d ≠ 32) ∧ (∀ d ∈ sg b, d ≠ 32) ∧ (∀ d ∈ sg c, d ≠ 32) := by
  have len : (occL (sg x) 0 3).length = 3 := by
    have h2 := h
    unfold Txt.splitMax at h2
    split at h2
    · cases h2
    · split at h2
      · cases h2
      · have := congrArg List.length h2
        rw [length_partsBetween, sp_is, occ_is] at this
        have e : limitOf x 3 = 3 := rfl
        rw [e] at this
        simpa using this
  rcases first_blank (sg x) with q | ⟨a', r1, e1, qa⟩
  · rw [occL_free q] at len
    cases len
  · rcases first_blank r1 with q | ⟨b', r2, e2, qb⟩
    · rw [e1, occL_skip qa, occL_hit, occL_free q] at len
      cases len
    · rcases first_blank r2 with q | ⟨c', t', e3, qc⟩
      · rw [e1, occL_skip qa, occL_hit, e2, occL_skip qb, occL_hit, occL_free q] at len
        cases len
      · have e : sg x = a' ++ 32 :: (b' ++ 32 :: (c' ++ 32 :: t')) := by rw [e1, e2, e3]
        have s := split_four e qa qb qc
        rw [s] at h
        simp only [List.cons.injEq, and_true] at h
        obtain ⟨rfl, rfl, rfl, rfl⟩ := h
        rw [sg_tx, sg_tx, sg_tx, sg_tx]
        exact ⟨e, qa, qb, qc⟩
end Nv

namespace Nv
open PySem L2

/-! a text parted at its blanks -/
def splitL : List Nat → List (List Nat)
  | [] => [[]]
  | c :: r => if c = 32 then [] :: splitL r else match splitL r with
    | [] => [[c]]
    | p :: ps => (c :: p) :: ps
theorem splitL_ne : ∀ l, splitL l ≠ []
  | [] => by simp [splitL]
  | c :: r => by
    unfold splitL
    split
    · simp
    · split <;> simp
theorem splitL_free {l : List Nat} (h : ∀ d ∈ l, d ≠ 32) : splitL l = [l] := by
  induction l with
  | nil => rfl
  | cons c r ih =>
    unfold splitL
    rw [if_neg (h c (by simp)), ih fun d hd => h d (by simp [hd])]
theorem splitL_cons {a r : List Nat} (h : ∀ d ∈ a, d ≠ 32) : splitL (a ++ 32 :: r) = a :: splitL r := by
  induction a with
  | nil =>
    show splitL (32 :: r) = _
    conv => lhs; unfold splitL
    rw [if_pos rfl]
  | cons c a ih =>
    show splitL (c :: (a ++ 32 :: r)) = _
    conv => lhs; unfold splitL
    rw [if_neg (h c (by simp)), ih fun d hd => h d (by simp [hd])]
theorem occL_more : ∀ (l : List Nat) (i k m : Nat), l.length ≤ k → l.length ≤ m → occL l i k = occL l i m
  | [], i, k, m, _, _ => rfl
  | c :: r, i, k, m, h1, h2 => by
    simp only [List.length_cons] at h1 h2
    rw [occL_cons, occL_cons]
    by_cases hc : c = 32
    · rw [if_pos ⟨by omega, hc⟩, if_pos ⟨by omega, hc⟩, occL_more r (i + 1) (k - 1) (m - 1) (by omega) (by omega)]
    · rw [if_neg (fun q => hc q.2), if_neg (fun q => hc q.2), occL_more r (i + 1) k m (by omega) (by omega)]
theorem occL_shift : ∀ (l : List Nat) (i p k : Nat), occL l (p + i) k = (occL l i k).map (p + ·)
  | [], i, p, k => rfl
  | c :: r, i, p, k => by
    rw [occL_cons, occL_cons]
    split
    · rw [List.map_cons, show p + i + 1 = p + (i + 1) from by omega, occL_shift r]
    · rw [show p + i + 1 = p + (i + 1) from by omega, occL_shift r]
open Builtin.Str StrLaws in
theorem sub_shift {x : Str} {p r : List Nat} (e : sg x = p ++ r) (i j : Nat) : strSub x (p.length + i) (p.length + j) = strSub (tx r) i j := by
  apply sg_inj
  rw [sub_sg, sub_sg, sg_tx, e, ← List.drop_drop, List.drop_left]
  congr 1
  omega
open Builtin.Str StrLaws in
theorem parts_shift {x : Str} {p r : List Nat} (e : sg x = p ++ r) : ∀ (cuts : List Nat) (a : Nat), partsFrom x 1 (p.length + a) (cuts.map (p.length + ·)) = partsFrom (tx r) 1 a cuts
  | [], a => by
    have hx : x.length = p.length + r.length := by rw [← sg_len, e, List.length_append]
    show [strSub x (p.length + a) x.length] = [strSub (tx r) a (tx r).length]
    rw [hx, sub_shift e, tx_len]
  | c :: cuts, a => by
    show strSub x (p.length + a) (p.length + c) :: partsFrom x 1 (p.length + c + 1) (cuts.map (p.length + ·)) = strSub (tx r) a c :: partsFrom (tx r) 1 (c + 1) cuts
    rw [sub_shift e, show p.length + c + 1 = p.length + (c + 1) from by omega, parts_shift e cuts]
open Builtin.Str StrLaws in
theorem split_from (x : Str) : Txt.split x (Str.ofString " ") = partsFrom x 1 0 (occL (sg x) 0 (x.length + 1)) := by
  have one : (⟨#[32]⟩ : Str).length = 1 := rfl
  have whole : [x] = partsFrom x 1 0 [] := by
    show [x] = [strSub x 0 x.length]
    rw [sub_whole]
  unfold Txt.split
  rw [sp_is, occ_is, one]
  split
  · rename_i h
    have k1 : Builtin.Str.strKind (⟨#[32]⟩ : Str) = 1 := by decide +kernel
    have k2 : 1 ≤ Builtin.Str.strKind x := by
      unfold Builtin.Str.strKind
      split
      · decide
      · split <;> decide
    rw [k1] at h
    simp only [Bool.or_eq_true, decide_eq_true_eq] at h
    have : sg x = [] := List.length_eq_zero_iff.mp (by rw [sg_len]; omega)
    rw [this]
    exact whole
  · split
    · rename_i h
      rw [List.isEmpty_iff.mp h]
      exact whole
    · rw [partsBetween_eq]
open Builtin.Str StrLaws in
theorem split_parts : ∀ (n : Nat) (x : Str), x.length = n → Txt.split x (Str.ofString " ") = (splitL (sg x)).map tx := by
  intro n
  induction n using Nat.strongRecOn with
  | _ n ih =>
    intro x hx
    rw [split_from]
    rcases first_blank (sg x) with q | ⟨a, r, e, q⟩
    · rw [occL_free q, splitL_free q]
      show [strSub x 0 x.length] = [tx (sg x)]
      rw [sub_whole, tx_sg]
    · have hl : x.length = a.length + (r.length + 1) := by rw [← sg_len, e, List.length_append, List.length_cons]
      rw [e, splitL_cons q, occL_skip q, occL_hit, List.map_cons]
      show strSub x 0 (0 + a.length) :: partsFrom x 1 (0 + a.length + 1) (occL r (0 + a.length + 1) x.length) = tx a :: _
      have e2 : sg x = (a ++ [32]) ++ r := by rw [e]; simp
      have lp : (a ++ [32]).length = a.length + 1 := by simp
      congr 1
      · apply sg_inj
        rw [sub_sg, sg_tx, e, List.drop_zero, show 0 + a.length - 0 = a.length from by omega, List.take_left]
      · have o := occL_shift r 0 (a ++ [32]).length x.length
        rw [lp] at o
        rw [show 0 + a.length + 1 = a.length + 1 + 0 from by omega, o]
        have ps := parts_shift e2 (occL r 0 x.length) 0
        rw [lp] at ps
        rw [ps, occL_more r 0 x.length (r.length + 1) (by omega) (by omega)]
        have := ih r.length (by omega) (tx r) (tx_len r)
        rw [split_from, sg_tx, tx_len] at this
        exact this
theorem split_is (x : Str) : Txt.split x (Str.ofString " ") = (splitL (sg x)).map tx := split_parts x.length x rfl
/-- the parts put together again -/
theorem splitL_join : ∀ n (l : List Nat), l.length = n → ∃ p ps, splitL l = p :: ps ∧ l = p ++ (ps.map fun q => 32 :: q).flatten ∧ ∀ q ∈ splitL l, ∀ d ∈ q, d ≠ 32 := by
  intro n
  induction n using Nat.strongRecOn with
  | _ n ih =>
    intro l hl
    rcases first_blank l with q | ⟨a, r, e, q⟩
    · refine ⟨l, [], splitL_free q, by simp, fun u hu => ?_⟩
      rw [splitL_free q] at hu
      have e : u = l := by simpa using hu
      rw [e]
      exact q
    · have hl2 : l.length = a.length + (r.length + 1) := by rw [e, List.length_append, List.length_cons]
      obtain ⟨p, ps, h1, h2, h3⟩ := ih r.length (by omega) r rfl
      have e1 : splitL l = a :: p :: ps := by rw [e, splitL_cons q, h1]
      refine ⟨a, p :: ps, e1, ?_, ?_⟩
      · rw [e, List.map_cons, List.flatten_cons]
        show a ++ 32 :: r = a ++ (32 :: p ++ _)
        rw [List.cons_append, ← h2]
      · intro u hu
        rw [e1] at hu
        rcases List.mem_cons.mp hu with rfl | hu
        · exact q
        · exact h3 u (by rw [h1]; exact hu)
end Nv

namespace Nv
open PySem PySem.Spec PyProof.Rows L2

/-! data whose outermost list may stand anywhere -/
inductive DR (H : Hp) : V → PyData → Prop
  | dv {v : V} {d : PyData} : DV H v d → DR H v d
  | raw {a : Addr} {xs : List V} {ds : List PyData} : H a = some (.lst xs) → DVs H xs ds → DR H (.ref a) (.list ds)
inductive DRs (H : Hp) : List V → List PyData → Prop
  | nil : DRs H [] []
  | cons {v : V} {vs : List V} {d : PyData} {ds : List PyData} : DR H v d → DRs H vs ds → DRs H (v :: vs) (d :: ds)
theorem DR.mono {H H' : Hp} (e : ∀ a o, H a = some o → H' a = some o) {v : V} {d : PyData} : DR H v d → DR H' v d
  | .dv h => .dv (h.mono e)
  | .raw h r => .raw (e _ _ h) (r.mono e)
theorem DRs.mono {H H' : Hp} (e : ∀ a o, H a = some o → H' a = some o) : ∀ {vs : List V} {ds : List PyData}, DRs H vs ds → DRs H' vs ds
  | _, _, .nil => .nil
  | _, _, .cons a r => .cons (a.mono e) (r.mono e)
theorem DR.ty {K : PySem.W.Frag} {H : Hp} {v : V} {d : PyData} : DR H v d → TyX K H v (.type (tyName d))
  | .dv h => h.ty
  | .raw h r => .base (.lst h)
section
variable {X : Cx} {pins : List (Addr × Obj)} {σ : L2.St} {H : Hp} {s : Shared}
/-- what repr wants of a value -/
def RepK (X : Cx) (s : Shared) (u : Value) (d : PyData) : Prop := ∃ as bs, Reads s.heap u d as ∧ ReadAtMost s.heap d.depth bs ∧ ReprK X.prog X.w bs s.heap d.depth u d.shown
theorem DR.reads (I : Inv X pins σ H s) {v : V} {d : PyData} {u : Value} (h : DR H v d) (r : RelV v u) : ∃ as, Reads s.heap u d as := by
  cases h with
  | dv h =>
    obtain ⟨as, h, _⟩ := h.reads I r
    exact ⟨as, h⟩
  | @raw a xs ds ha hd =>
    cases (show u = Value.ref a from r)
    obtain ⟨_, its, m, rv, e⟩ := (show ObjOk X.prog X.w H s.heap a (.lst xs) from I.hok a _ ha)
    obtain ⟨as, ra, na⟩ := DVs.reads I hd rv
    exact ⟨_, .list e rfl rfl ra⟩
theorem DR.rep (I : Inv X pins σ H s) {v : V} {d : PyData} {u : Value} (h : DR H v d) (r : RelV v u) (hs : d.showable = true) (hz : d.shown.length ≤ sizeLine) : RepK X s u d := by
  cases h with
  | dv h =>
    obtain ⟨as, h, na⟩ := h.reads I r
    obtain ⟨bs, h1, h2⟩ := ReprK.of_reads (prog := X.prog) (w := X.w) h hs (fun _ => na) hz
    exact ⟨as, bs, h, h1, h2⟩
  | @raw a xs ds ha hd =>
    cases (show u = Value.ref a from r)
    obtain ⟨_, its, m, rv, e⟩ := (show ObjOk X.prog X.w H s.heap a (.lst xs) from I.hok a _ ha)
    obtain ⟨as, ra, na⟩ := DVs.reads I hd rv
    have sz : (listText (PyData.shownAll ds)).length ≤ sizeLine := by simpa only [PyData.shown] using hz
    obtain ⟨bs, deep, parts⟩ := ReprAllK.of_readsAll (prog := X.prog) (w := X.w) ra (by simpa only [PyData.showable] using hs) (fun _ => na)
      (fun t ht => Nat.le_trans (listText_mem_le ht) sz)
    have rd : Reads s.heap (.ref a) (.list ds) _ := .list e rfl rfl ra
    have dp : (PyData.list ds).depth = PyData.depthAll ds + 1 := by simp only [PyData.depth]
    have apart : a ∉ bs := not_mem_of_deeper rd (by omega) deep
    refine ⟨_, a :: bs, rd, ?_, ?_⟩
    · intro b hb
      rcases List.mem_cons.mp hb with rfl | hb
      · exact ⟨_, _, rd, Nat.le_refl _⟩
      · obtain ⟨d, as, h1, h2⟩ := deep b hb
        exact ⟨d, as, h1, by omega⟩
    · cases its with
      | nil =>
        cases ra
        have : ReprK X.prog X.w bs s.heap (PyData.list []).depth (.ref a) (PyData.list []).shown := ReprK.listEmpty e rfl rfl
        exact this.more fun b hb => by simp [hb]
      | cons x l =>
        have := ReprK.list (x := x) (l := l) e rfl rfl apart (by simpa using parts.length_eq) (fun i y z => parts.item i y (by simpa using z))
        simpa only [PyData.shown, dp] using this
theorem DRs.rep (I : Inv X pins σ H s) : ∀ {vs : List V} {ds : List PyData} {us : List Value}, DRs H vs ds → Vals vs us → PyData.showableAll ds = true → (∀ t ∈ PyData.shownAll ds, t.length ≤ sizeLine) →
    ∃ as bs, ReadsAll s.heap us ds as ∧ ReadAtMost s.heap (PyData.depthAll ds) bs ∧ ReprAllK X.prog X.w bs s.heap (PyData.depthAll ds) us (PyData.shownAll ds)
  | _, _, us, .nil, r, _, _ => by
    cases r
    exact ⟨[], [], .nil, fun b hb => by simp at hb, .nil⟩
  | _, _, us, @DRs.cons _ v vs d ds a q, r, hs, hz => by
    cases r with
    | cons r1 r2 =>
      simp only [PyData.showableAll, Bool.and_eq_true] at hs
      obtain ⟨as1, bs1, h1, h2, h3⟩ := a.rep I r1 hs.1 (hz _ (by simp [PyData.shownAll]))
      obtain ⟨as2, bs2, g1, g2, g3⟩ := DRs.rep I q r2 hs.2 (fun t ht => hz t (by simp [PyData.shownAll, ht]))
      have m1 : d.depth ≤ PyData.depthAll (d :: ds) := by simp only [PyData.depthAll]; omega
      have m2 : PyData.depthAll ds ≤ PyData.depthAll (d :: ds) := by simp only [PyData.depthAll]; omega
      refine ⟨_, bs1 ++ bs2, .cons h1 g1, ?_, ?_⟩
      · intro b hb
        rcases List.mem_append.mp hb with hb | hb
        · obtain ⟨d', as, z1, z2⟩ := h2 b hb
          exact ⟨d', as, z1, by omega⟩
        · obtain ⟨d', as, z1, z2⟩ := g2 b hb
          exact ⟨d', as, z1, by omega⟩
      · simp only [PyData.shownAll]
        exact .cons ((h3.level_le m1).more fun b hb => by simp [hb]) (g3.more_le (fun b hb => by simp [hb]) m2)
end
/-- repr of a list of such data, the list itself anywhere -/
def rReprR : List V → Hp → VK → Prop := fun xs H Q => ∃ (a : Addr) (ys : List V) (ds : List PyData), xs = [.ref a] ∧ H a = some (.lst ys) ∧ DRs H ys ds ∧
  (PyData.list ds).showable = true ∧ (PyData.list ds).depth ≤ 60 ∧ (PyData.list ds).shown.length ≤ sizeLine ∧ Q (.str (PyData.list ds).shown) H
theorem call_reprR {X : Cx} (hG : X.A.guards = some []) (hu : X.A.units + 64 < cLine) : CallR X (.builtin "repr") rReprR := by
  intro pins s σ H xs us Q I r h
  obtain ⟨a, ys, ds, rfl, ha, hd, hs, hp, hz, q⟩ := h
  obtain ⟨u, rfl, rx⟩ := vals1 r
  cases (show u = Value.ref a from rx)
  obtain ⟨_, its, m, rv, e⟩ := (show ObjOk X.prog X.w H s.heap a (.lst ys) from I.hok a _ ha)
  have sz : (listText (PyData.shownAll ds)).length ≤ sizeLine := by simpa only [PyData.shown] using hz
  obtain ⟨as, bs, ra, deep, parts⟩ := DRs.rep I hd rv (by simpa only [PyData.showable] using hs) (fun t ht => Nat.le_trans (listText_mem_le ht) sz)
  have apart : a ∉ bs := not_mem_of_deeper (.list e rfl rfl ra) (by simp only [PyData.depth]; omega) deep
  have dp : (PyData.list ds).depth = PyData.depthAll ds + 1 := by simp only [PyData.depth]
  have fin : ∀ (h' : Heap) (t : Tok) (k : Nat), (∀ b o, s.heap.get? b = some o → h'.get? b = some o) → EP X pins σ Q (.str (PyData.list ds).shown t) { s with heap := h', toks := k } :=
    fun h' t k keep => ⟨.str (PyData.list ds).shown, H, I.kept keep, ⟨t, rfl⟩, q⟩
  refine call_repr_slot (by omega) (show s.TypeIs (.ref a) "list" from ⟨_, e, rfl⟩) F.slot_list_repr.toG ?_
  cases its with
  | nil =>
    cases ra
    have : EP X pins σ Q (.str "[]" s.toks) { s with toks := s.toks + 1 } := by
      have z := fin s.heap s.toks (s.toks + 1) fun _ _ w => w
      simpa only [PyData.shown, PyData.shownAll, listText_nil] using z
    exact call_list_repr_empty ⟨_, e, rfl⟩ e rfl ⟨_, _, rfl, this⟩
  | cons x l =>
    refine call_list_reprK e rfl rfl apart (by simpa using parts.length_eq) (fun i y z => parts.item i y (by simpa using z)) hG (fun b _ => Clear.nil b) (by show X.A.units + 1 + _ < cLine; omega) (fun _ _ z => z) (fun h' t k keep => ⟨_, _, rfl, ?_⟩) sz
    have z := fin h' t k keep
    simpa only [PyData.shown] using z
def rReprAR : List V → Hp → VK → Prop := fun xs H Q => rReprR xs H Q ∨ rReprA xs H Q
theorem call_reprAR {X : Cx} (hG : X.A.guards = some []) (hu : X.A.units + 64 < cLine) : CallR X (.builtin "repr") rReprAR := CallR.or (call_reprR hG hu) (call_reprA hG hu)
end Nv

namespace Nv
open PySem PySem.Spec PyProof.Rows L2

/-! zip of a tuple and a list -/
/-- what is walked at it: a list or a tuple at l of the items xs, k of them taken -/
inductive ItA (h : Heap) (it l : Addr) (k : Nat) (xs : Array Value) : Prop
  | lst (i : h.IsListIter it l k) (s : h.IsList l xs) : ItA h it l k xs
  | tup (i : h.IsTupleIter it l k) (s : h.IsTuple l xs) : ItA h it l k xs
theorem ItA.ext {h h' : Heap} {b it l : Addr} {k : Nat} {xs : Array Value} (x : ItA h it l k xs) (e : Heap.ExtBut b h h') (n1 : it ≠ b) (n2 : l ≠ b) : ItA h' it l k xs := by
  cases x with
  | lst i s => exact .lst (i.extBut e n1) (s.extBut e n2)
  | tup i s => exact .tup (i.extBut e n1) (s.extBut e n2)
section
variable {prog : Program} {w : World} {A : Around} {E : Value → Shared → Prop} {s : Shared}
theorem ItA.next {it l : Addr} {k : Nat} {xs : Array Value} {x : Value} {Q : Value → Shared → Prop} (i : ItA s.heap it l k xs) (n : l ≠ it) (hx : xs[k]? = some x)
    (q : ∀ h', ItA h' it l (k + 1) xs → Heap.SameBut it s.heap h' → Q x { s with heap := h' }) : wpAny (model prog w) A (Builtin.SmallTypes.nextOf (.ref it)) Q E s := by
  cases i with
  | lst i s => exact wpAny_nextOf_list_item i s hx fun h' i' e => q h' (.lst i' (s.extBut e.extBut n)) e
  | tup i s => exact RZ.nextOf_tuple_item i s hx fun h' i' e => q h' (.tup i' (s.extBut e.extBut n)) e
theorem ItA.stop {it l : Addr} {k : Nat} {xs : Array Value} {Q : Value → Shared → Prop} (hh : A.handled = none) (i : ItA s.heap it l k xs) (hx : xs[k]? = none)
    (q : ∀ h' e, Heap.ExtBut it s.heap h' → (∃ o, h'.get? e = some o ∧ o.cls = .type "StopIteration") → E (.ref e) { s with heap := h' }) : wpAny (model prog w) A (Builtin.SmallTypes.nextOf (.ref it)) Q E s := by
  cases i with
  | lst i s => exact wpAny_nextOf_list_end hh i s hx q
  | tup i s => exact RZ.nextOf_tuple_end hh i s hx q

theorem zipN_item {z TI TO i1 i2 l1 l2 : Addr} {k1 k2 : Nat} {xs ys : Array Value} {x y a b : Value} {Q : Value → Shared → Prop} (D : ZipApart z TI TO i1 i2 l1 l2)
    (hz : IsZip s.heap z TI TO .none) (hTI : IsPair s.heap TI (.ref i1) (.ref i2)) (hTO : IsPair s.heap TO a b)
    (h1 : ItA s.heap i1 l1 k1 xs) (h2 : ItA s.heap i2 l2 k2 ys) (hx : xs[k1]? = some x) (hy : ys[k2]? = some y)
    (hQ : ∀ h', IsZip h' z TI TO (rawInt s.heap.objs.size) → IsPair h' TO x y → ItA h' i1 l1 (k1 + 1) xs → ItA h' i2 l2 (k2 + 1) ys → IsPair h' s.heap.objs.size x y → h'.objs.size = s.heap.objs.size + 1 →
      (∀ c o, c ≠ z → c ≠ TO → c ≠ i1 → c ≠ i2 → s.heap.get? c = some o → h'.get? c = some o) → Q (.ref s.heap.objs.size) { s with heap := h' }) :
    wpAny (model prog w) A (Builtin.«zip.__next__» ⟨[.ref z], []⟩) (fun fin s' => ∃ v, fin = .done (.ret v) ∧ Q v s') E s := by
  have f2 : ∀ {R : Value → Shared → Prop}, R (.bool false) s → wpAny (model prog w) A (field (.ref z) 2) R E s := fun q => wpAny_field hz rfl (x := .bool false) rfl q
  have f3 : ∀ {R : Value → Shared → Prop}, R (.ref TI) s → wpAny (model prog w) A (field (.ref z) 3) R E s := fun q => wpAny_field hz rfl (x := .ref TI) rfl q
  show wpAny _ _ (field (.ref z) 2 >>= _) _ _ _
  refine wpAny_bind (f2 ?_)
  show wpAny _ _ (field (.ref z) 3 >>= _) _ _ _
  refine wpAny_bind (f3 ?_)
  refine wpAny_bind (wpAny_seqItems hTI rfl ?_)
  show wpAny _ _ (Builtin.SmallTypes.ownedTupleIsFree (.ref z) >>= _) _ _ _
  refine wpAny_bind ?_
  unfold Builtin.SmallTypes.ownedTupleIsFree
  refine wpAny_bind (wpAny_field hz rfl (x := .none) rfl (wpAny_pure ?_))
  simp only [if_true]
  refine wpAny_bind (wpAny_rule (wpAny_bind (wpAny_field hz rfl (x := .ref TO) rfl ?_)))
  refine wpAny_bind (wpAny_setField_rec hz (by simp) fun g1 zz e1 => wpAny_bind ?_)
  replace zz : IsZip g1 z TI TO .ellipsis := zz
  simp only [List.zipIdx_cons, List.zipIdx_nil, List.forIn_cons, List.forIn_nil]
  -- the first one
  refine wpAny_bind (wpAny_bind (wpAny_onRaise ?_))
  show wpAny _ _ (Builtin.SmallTypes.nextOf (.ref i1) >>= _) _ _ _
  refine wpAny_bind ((h1.ext e1.extBut D.i1z D.l1z).next D.l1i1 hx fun g2 j1 e2 => wpAny_pure ?_)
  have t2 : IsPair g2 TO a b := e2.extBut _ _ D.TOi1 (e1.extBut _ _ D.TOz hTO)
  refine wpAny_bind (wpAny_seqItems t2 rfl (wpAny_bind (wpAny_updateSeq_pair t2 fun g3 t3 e3 => ?_)))
  replace t3 : IsPair g3 TO x b := t3
  refine wpAny_bind (wpAny_letGo (wpAny_pure ?_))
  -- the second one
  refine wpAny_bind (wpAny_bind (wpAny_onRaise ?_))
  show wpAny _ _ (Builtin.SmallTypes.nextOf (.ref i2) >>= _) _ _ _
  refine wpAny_bind ((((h2.ext e1.extBut D.i2z D.l2z).ext e2.extBut D.i12.symm D.l2i1).ext e3.extBut D.TOi2.symm D.l2TO).next D.l2i2 hy fun g4 j2 e4 => wpAny_pure ?_)
  have t4 : IsPair g4 TO x b := e4.extBut _ _ D.TOi2 t3
  refine wpAny_bind (wpAny_seqItems t4 rfl (wpAny_bind (wpAny_updateSeq_pair t4 fun g5 t5 e5 => ?_)))
  replace t5 : IsPair g5 TO x y := t5
  refine wpAny_bind (wpAny_letGo (wpAny_pure (wpAny_pure ?_)))
  refine wpAny_bind (wpAny_seqItems t5 rfl (wpAny_bind (wpAny_newTuple ?_)))
  have sz : g5.objs.size = s.heap.objs.size := by rw [e5.1, e4.1, e3.1, e2.1, e1.1]
  have z5 : IsZip g5 z TI TO .ellipsis := e5.extBut _ _ D.TOz.symm (e4.extBut _ _ D.i2z.symm (e3.extBut _ _ D.TOz.symm (e2.extBut _ _ D.i1z.symm zz)))
  have k5 : ∀ c o, c ≠ z → c ≠ TO → c ≠ i1 → c ≠ i2 → s.heap.get? c = some o → g5.get? c = some o := fun c o c1 c2 c3 c4 e =>
    e5.extBut _ _ c2 (e4.extBut _ _ c4 (e3.extBut _ _ c2 (e2.extBut _ _ c3 (e1.extBut _ _ c1 e))))
  have a1 := ((j1.ext e3.extBut D.TOi1.symm D.l1TO).ext e4.extBut D.i12 D.l1i2).ext e5.extBut D.TOi1.symm D.l1TO
  have a2 := j2.ext e5.extBut D.TOi2.symm D.l2TO
  have zlt : z < g5.objs.size := Heap.lt_size z5
  show wpAny _ _ (Builtin.SmallTypes.ownedTupleHandOut (.ref z) (.ref g5.objs.size) >>= _) _ _ _
  refine wpAny_bind ?_
  unfold Builtin.SmallTypes.ownedTupleHandOut
  have z6 : IsZip (g5.push { cls := .type "tuple", data := .seq #[x, y] }) z TI TO .ellipsis := Heap.get?_push_of_some _ z5
  refine wpAny_bind (wpAny_setField_rec z6 (by simp) fun g7 z7 e7 => ?_)
  replace z7 : IsZip g7 z TI TO (rawInt g5.objs.size) := z7
  refine wpAny_setField_rec z7 (by simp) fun g8 z8 e8 => ?_
  replace z8 : IsZip g8 z TI TO (rawInt g5.objs.size) := z8
  have up : Heap.ExtBut z g5 g8 := fun c o c1 e => e8.extBut _ _ c1 (e7.extBut _ _ c1 (Heap.get?_push_of_some _ e))
  have p8 : IsPair g8 g5.objs.size x y := e8.extBut _ _ (Nat.ne_of_gt zlt) (e7.extBut _ _ (Nat.ne_of_gt zlt) (Heap.get?_push_size _ rfl))
  have s8 : g8.objs.size = g5.objs.size + 1 := by rw [e8.1, e7.1, Heap.size_push]
  rw [sz] at z8 p8 s8
  refine wpAny_pure ⟨_, rfl, ?_⟩
  show Q (.ref g5.objs.size) _
  rw [sz]
  exact hQ g8 z8 (up _ _ D.TOz t5) (a1.ext up D.i1z D.l1z) (a2.ext up D.i2z D.l2z) p8 s8 fun c o c1 c2 c3 c4 e => up c o c1 (k5 c o c1 c2 c3 c4 e)
theorem zipN_end {z TI TO i1 i2 l1 l2 : Addr} {k1 k2 : Nat} {xs ys : Array Value} {a b : Value} {Q : Fin → Shared → Prop} (hh : A.handled = none) (D : ZipApart z TI TO i1 i2 l1 l2)
    (hz : IsZip s.heap z TI TO .none) (hTI : IsPair s.heap TI (.ref i1) (.ref i2)) (hTO : IsPair s.heap TO a b)
    (h1 : ItA s.heap i1 l1 k1 xs) (h2 : ItA s.heap i2 l2 k2 ys) (hend : xs[k1]? = none ∨ ys[k2]? = none)
    (hE : ∀ h' e, (∀ c o, c ≠ z → c ≠ TO → c ≠ i1 → c ≠ i2 → s.heap.get? c = some o → h'.get? c = some o) → (∃ o, h'.get? e = some o ∧ o.cls = .type "StopIteration") → E (.ref e) { s with heap := h' }) :
    wpAny (model prog w) A (Builtin.«zip.__next__» ⟨[.ref z], []⟩) Q E s := by
  have f2 : ∀ {R : Value → Shared → Prop}, R (.bool false) s → wpAny (model prog w) A (field (.ref z) 2) R E s := fun q => wpAny_field hz rfl (x := .bool false) rfl q
  have f3 : ∀ {R : Value → Shared → Prop}, R (.ref TI) s → wpAny (model prog w) A (field (.ref z) 3) R E s := fun q => wpAny_field hz rfl (x := .ref TI) rfl q
  show wpAny _ _ (field (.ref z) 2 >>= _) _ _ _
  refine wpAny_bind (f2 ?_)
  show wpAny _ _ (field (.ref z) 3 >>= _) _ _ _
  refine wpAny_bind (f3 ?_)
  refine wpAny_bind (wpAny_seqItems hTI rfl ?_)
  show wpAny _ _ (Builtin.SmallTypes.ownedTupleIsFree (.ref z) >>= _) _ _ _
  refine wpAny_bind ?_
  unfold Builtin.SmallTypes.ownedTupleIsFree
  refine wpAny_bind (wpAny_field hz rfl (x := .none) rfl (wpAny_pure ?_))
  simp only [if_true]
  refine wpAny_bind (wpAny_rule (wpAny_bind (wpAny_field hz rfl (x := .ref TO) rfl ?_)))
  refine wpAny_bind (wpAny_setField_rec hz (by simp) fun g1 zz e1 => wpAny_bind ?_)
  replace zz : IsZip g1 z TI TO .ellipsis := zz
  simp only [List.zipIdx_cons, List.zipIdx_nil, List.forIn_cons, List.forIn_nil]
  refine wpAny_bind (wpAny_bind (wpAny_onRaise ?_))
  show wpAny _ _ (Builtin.SmallTypes.nextOf (.ref i1) >>= _) _ _ _
  -- the exception, set down in the zip
  have out : ∀ (g e : _), IsZip g z TI TO .ellipsis → (∃ o, g.get? e = some o ∧ o.cls = .type "StopIteration") → ∃ o, g.get? e = some o ∧ o.cls = .type "StopIteration" ∧ e ≠ z := fun g e zg ⟨o, ho, hc⟩ =>
    ⟨o, ho, hc, fun q => by
      subst q
      rw [zg] at ho
      cases ho
      simp at hc⟩
  cases hx : xs[k1]? with
  | none =>
    refine wpAny_bind ((h1.ext e1.extBut D.i1z D.l1z).stop hh hx fun g2 e e2 he => ?_)
    have z2 : IsZip g2 z TI TO .ellipsis := e2 _ _ D.i1z.symm zz
    obtain ⟨o, ho, hc, nz⟩ := out g2 e z2 he
    exact wpAny_setField_rec z2 (by simp) fun g3 _ e3 => hE g3 e (fun c o c1 _ c3 _ x => e3.extBut _ _ c1 (e2 _ _ c3 (e1.extBut _ _ c1 x))) ⟨o, e3.extBut _ _ nz ho, hc⟩
  | some x =>
    have hy : ys[k2]? = none := by
      rcases hend with h | h
      · rw [hx] at h
        cases h
      · exact h
    refine wpAny_bind ((h1.ext e1.extBut D.i1z D.l1z).next D.l1i1 hx fun g2 j1 e2 => wpAny_pure ?_)
    have t2 : IsPair g2 TO a b := e2.extBut _ _ D.TOi1 (e1.extBut _ _ D.TOz hTO)
    refine wpAny_bind (wpAny_seqItems t2 rfl (wpAny_bind (wpAny_updateSeq_pair t2 fun g3 t3 e3 => ?_)))
    refine wpAny_bind (wpAny_letGo (wpAny_pure ?_))
    refine wpAny_bind (wpAny_bind (wpAny_onRaise ?_))
    show wpAny _ _ (Builtin.SmallTypes.nextOf (.ref i2) >>= _) _ _ _
    refine wpAny_bind ((((h2.ext e1.extBut D.i2z D.l2z).ext e2.extBut D.i12.symm D.l2i1).ext e3.extBut D.TOi2.symm D.l2TO).stop hh hy fun g4 e e4 he => ?_)
    have z4 : IsZip g4 z TI TO .ellipsis := e4 _ _ D.i2z.symm (e3.extBut _ _ D.TOz.symm (e2.extBut _ _ D.i1z.symm zz))
    obtain ⟨o, ho, hc, nz⟩ := out g4 e z4 he
    exact wpAny_setField_rec z4 (by simp) fun g5 _ e5 => hE g5 e (fun c o c1 c2 c3 c4 x => e5.extBut _ _ c1 (e4 _ _ c4 (e3.extBut _ _ c2 (e2.extBut _ _ c3 (e1.extBut _ _ c1 x))))) ⟨o, e5.extBut _ _ nz ho, hc⟩

theorem nextZ_item {z TI TO i1 i2 l1 l2 : Addr} {k1 k2 : Nat} {xs ys : Array Value} {x y a b : Value} {Q : Option Value → Shared → Prop} (D : ZipApart z TI TO i1 i2 l1 l2)
    (hz : IsZip s.heap z TI TO .none) (hTI : IsPair s.heap TI (.ref i1) (.ref i2)) (hTO : IsPair s.heap TO a b)
    (h1 : ItA s.heap i1 l1 k1 xs) (h2 : ItA s.heap i2 l2 k2 ys) (hx : xs[k1]? = some x) (hy : ys[k2]? = some y)
    (hQ : ∀ h', IsZip h' z TI TO (rawInt s.heap.objs.size) → IsPair h' TO x y → ItA h' i1 l1 (k1 + 1) xs → ItA h' i2 l2 (k2 + 1) ys → IsPair h' s.heap.objs.size x y → h'.objs.size = s.heap.objs.size + 1 →
      (∀ c o, c ≠ z → c ≠ TO → c ≠ i1 → c ≠ i2 → s.heap.get? c = some o → h'.get? c = some o) → Q (some (.ref s.heap.objs.size)) { s with heap := h' }) :
    wpAny (model prog w) A (pyNext (.ref z)) Q E s := by
  have T : s.TypeIs (.ref z) "zip" := ⟨_, hz, rfl⟩
  unfold pyNext
  have step := zipN_item (prog := prog) (w := w) (A := A.in1) (E := E) (Q := fun v s' => Q (some v) s') D hz hTI hTO h1 h2 hx hy fun h' a1 a2 a3 a4 a5 a6 a7 => hQ h' a1 a2 a3 a4 a5 a6 a7
  refine wpAny_bind (wpAny_attempt (wpAny_callSpecial?_slot (name := Str.ofString "__next__") T F.slot_zip_next (wpAny_call_entry F.slot_zip_next T F.entry_zip_next ?_ (F.args_zip_next_1 _))))
  exact zipN_item D hz hTI hTO h1 h2 hx hy fun h' a1 a2 a3 a4 a5 a6 a7 => wpAny_pure (hQ h' a1 a2 a3 a4 a5 a6 a7)
theorem nextZ_end {z TI TO i1 i2 l1 l2 : Addr} {k1 k2 : Nat} {xs ys : Array Value} {a b : Value} {Q : Option Value → Shared → Prop} (hh : A.handled = none) (D : ZipApart z TI TO i1 i2 l1 l2)
    (hz : IsZip s.heap z TI TO .none) (hTI : IsPair s.heap TI (.ref i1) (.ref i2)) (hTO : IsPair s.heap TO a b)
    (h1 : ItA s.heap i1 l1 k1 xs) (h2 : ItA s.heap i2 l2 k2 ys) (hend : xs[k1]? = none ∨ ys[k2]? = none)
    (hQ : ∀ h', (∀ c o, c ≠ z → c ≠ TO → c ≠ i1 → c ≠ i2 → s.heap.get? c = some o → h'.get? c = some o) → Q none { s with heap := h' }) : wpAny (model prog w) A (pyNext (.ref z)) Q E s := by
  have T : s.TypeIs (.ref z) "zip" := ⟨_, hz, rfl⟩
  unfold pyNext
  refine wpAny_bind (wpAny_attempt (wpAny_callSpecial?_slot (name := Str.ofString "__next__") T F.slot_zip_next (wpAny_call_entry F.slot_zip_next T F.entry_zip_next ?_ (F.args_zip_next_1 _))))
  refine zipN_end hh D hz hTI hTO h1 h2 hend fun h' e hk ⟨o, ho, hc⟩ => ?_
  exact wpAny_bind (wpAny_isInstance (T := "StopIteration") (b := true) ⟨o, ho, hc⟩ isSubtype_stop (wpAny_pure (hQ _ hk)))
/-- zip(a tuple, a list) -/
def zmA (h : Heap) (l1 : Addr) : Heap := h.push { cls := .type "tuple_iterator", data := .fields #[.ref l1, .int 0 0] }
def zmB (h : Heap) (l1 l2 : Addr) : Heap := (zmA h l1).push { cls := .type "list_iterator", data := .fields #[.ref l2, .int 0 0] }
def zmC (h : Heap) (l1 l2 : Addr) : Heap := (zmB h l1 l2).push { cls := .type "tuple", data := .seq #[.ref h.objs.size, .ref (zmA h l1).objs.size] }
def zmD (h : Heap) (l1 l2 : Addr) : Heap := (zmC h l1 l2).push { cls := .type "tuple", data := .seq #[.none, .none] }
def zmE (h : Heap) (l1 l2 : Addr) : Heap := (zmD h l1 l2).push { cls := .type "zip", data := .fields #[.none, .bool false, .bool false, .ref (zmB h l1 l2).objs.size, .ref (zmC h l1 l2).objs.size] }
theorem zip_mixed (l1 l2 : Addr) (xs ys : Array Value) :
    Meets (Builtin.«zip.__new__» ⟨[.type "zip", .ref l1, .ref l2], []⟩) (fun _ R s => s.heap.IsTuple l1 xs ∧ s.heap.IsList l2 ys ∧ R (.ok (.ret (.ref (zmD s.heap l1 l2).objs.size))) { s with heap := zmE s.heap l1 l2 }) :=
  .of_wp fun prog w A R s h => by
    obtain ⟨hp, g, d, tk, os⟩ := s
    obtain ⟨t1, t2, h⟩ := h
    have sub := sub_zip
    have t1' : Heap.IsTuple (Shared.heap ⟨hp, g, d, tk, os⟩) l1 xs := t1
    have t2' : Heap.IsList (Shared.heap ⟨hp.push { cls := .type "tuple_iterator", data := .fields #[.ref l1, .int 0 0] }, g, d, tk, os⟩) l2 ys := by
      obtain ⟨o, e, r⟩ := t2
      exact ⟨o, Heap.get?_push_of_some _ e, r⟩
    wp_walk using wpAny_pyIter_tuple t1', wpAny_pyIter_list t2'
    exact ⟨_, rfl, h⟩

theorem call_zipM {l1 l2 : Addr} {xs ys : Array Value} {Q : Value → Shared → Prop} (t1 : s.heap.IsTuple l1 xs) (t2 : s.heap.IsList l2 ys)
    (h : ∀ h', IsZip h' (s.heap.objs.size + 4) (s.heap.objs.size + 2) (s.heap.objs.size + 3) .none → IsPair h' (s.heap.objs.size + 2) (.ref s.heap.objs.size) (.ref (s.heap.objs.size + 1)) →
      IsPair h' (s.heap.objs.size + 3) .none .none → ItA h' s.heap.objs.size l1 0 xs → ItA h' (s.heap.objs.size + 1) l2 0 ys →
      (∀ c o, s.heap.get? c = some o → h'.get? c = some o) → Q (.ref (s.heap.objs.size + 4)) { s with heap := h' }) :
    wpAny (model prog w) A (call (.type "zip") [.ref l1, .ref l2]) Q E s := by
  refine callType_new F.called_zip (by decide) (F.typeCall_zip_2 _ _) (F.newCall_zip_2 _ _) (fun obj => F.args_object_init_3 obj _ _) F.entry_zip_new (zip_mixed l1 l2 xs ys) ⟨t1, t2, ?_⟩
  have zA : (zmA s.heap l1).objs.size = s.heap.objs.size + 1 := Heap.size_push ..
  have zB : (zmB s.heap l1 l2).objs.size = s.heap.objs.size + 2 := by unfold zmB; rw [Heap.size_push, zA]
  have zC : (zmC s.heap l1 l2).objs.size = s.heap.objs.size + 3 := by unfold zmC; rw [Heap.size_push, zB]
  have zD : (zmD s.heap l1 l2).objs.size = s.heap.objs.size + 4 := by unfold zmD; rw [Heap.size_push, zC]
  have uA : ∀ c o, s.heap.get? c = some o → (zmA s.heap l1).get? c = some o := fun c o e => Heap.get?_push_of_some _ e
  have uB : ∀ c o, (zmA s.heap l1).get? c = some o → (zmB s.heap l1 l2).get? c = some o := fun c o e => Heap.get?_push_of_some _ e
  have uC : ∀ c o, (zmB s.heap l1 l2).get? c = some o → (zmC s.heap l1 l2).get? c = some o := fun c o e => Heap.get?_push_of_some _ e
  have uD : ∀ c o, (zmC s.heap l1 l2).get? c = some o → (zmD s.heap l1 l2).get? c = some o := fun c o e => Heap.get?_push_of_some _ e
  have uE : ∀ c o, (zmD s.heap l1 l2).get? c = some o → (zmE s.heap l1 l2).get? c = some o := fun c o e => Heap.get?_push_of_some _ e
  have gA : (zmA s.heap l1).get? s.heap.objs.size = some _ := Heap.get?_push_size _ rfl
  have gB : (zmB s.heap l1 l2).get? (zmA s.heap l1).objs.size = some _ := Heap.get?_push_size _ rfl
  have gC : (zmC s.heap l1 l2).get? (zmB s.heap l1 l2).objs.size = some _ := Heap.get?_push_size _ rfl
  have gD : (zmD s.heap l1 l2).get? (zmC s.heap l1 l2).objs.size = some _ := Heap.get?_push_size _ rfl
  have gE : (zmE s.heap l1 l2).get? (zmD s.heap l1 l2).objs.size = some _ := Heap.get?_push_size _ rfl
  rw [zD, zB, zC] at gE
  rw [zC] at gD
  rw [zB, zA] at gC
  rw [zA] at gB
  have keep : ∀ c o, s.heap.get? c = some o → (zmE s.heap l1 l2).get? c = some o := fun c o e => uE _ _ (uD _ _ (uC _ _ (uB _ _ (uA _ _ e))))
  show _ ∧ _
  rw [zD]
  refine ⟨⟨_, gE, rfl⟩, h _ gE (uE _ _ (uD _ _ gC)) (uE _ _ gD) (.tup ⟨_, uE _ _ (uD _ _ (uC _ _ (uB _ _ gA))), rfl, rfl⟩ ?_) (.lst ⟨_, uE _ _ (uD _ _ (uC _ _ gB)), rfl, rfl⟩ ?_) keep⟩
  · obtain ⟨o, e, r⟩ := t1
    exact ⟨o, keep _ _ e, r⟩
  · obtain ⟨o, e, r⟩ := t2
    exact ⟨o, keep _ _ e, r⟩
end
/-- the tuple at a and the list at b as they stand at each turn -/
def ItzM (K : PySem.W.Frag) (a b : Addr) : It :=
  ⟨fun i H => ∃ (xs ys : List V) (x y : V), SqT K H a xs ∧ SqL K H b ys ∧ xs[i]? = some x ∧ ys[i]? = some y,
    fun i H v H' => ∃ T x y, v = .ref T ∧ H T = none ∧ H' = upd H T (.tup [x, y]) ∧ (∀ xs, SqT K H a xs → xs[i]? = some x) ∧ ∀ ys, SqL K H b ys → ys[i]? = some y,
    fun i H => ∃ xs ys : List V, SqT K H a xs ∧ SqL K H b ys ∧ (xs.length ≤ i ∨ ys.length ≤ i)⟩
theorem ItA.keep {h h' : Heap} {it l : Addr} {k : Nat} {xs : Array Value} (x : ItA h it l k xs) (e1 : ∀ o, h.get? it = some o → h'.get? it = some o) (e2 : ∀ o, h.get? l = some o → h'.get? l = some o) : ItA h' it l k xs := by
  cases x with
  | lst i s =>
    obtain ⟨o, e, r⟩ := s
    exact .lst (i.at e1) ⟨o, e2 _ e, r⟩
  | tup i s =>
    obtain ⟨o, e, r⟩ := s
    exact .tup (i.at e1) ⟨o, e2 _ e, r⟩
theorem five {c z TI TO i1 i2 : Addr} (h : c ∈ [z, TI, TO, i1, i2]) : c = z ∨ c = TI ∨ c = TO ∨ c = i1 ∨ c = i2 := by simpa using h
theorem turn_zipM {P : Program} {w : World} {K : PySem.W.Frag} {elts : List Expr} {kk : Nat} {tpos : Pos} {a b z TI TO i1 i2 : Addr} (D : ZipApart z TI TO i1 i2 a b) :
    Turn P w K (.Tuple elts kk tpos) (ItzM K a b) [z, TI, TO, i1, i2] z (fun i h => IsZip h z TI TO .none ∧ IsPair h TI (.ref i1) (.ref i2) ∧ (∃ x y, IsPair h TO x y) ∧ h.IsTupleIter i1 a i ∧ h.IsListIter i2 b i) where
  mem := by simp
  obj := fun i h st c hc => by
    obtain ⟨hz, hTI, ⟨x, y, hTO⟩, ⟨o1, e1, _, d1⟩, ⟨o2, e2, _, d2⟩⟩ := st
    rcases five hc with rfl | rfl | rfl | rfl | rfl
    · exact ⟨_, hz, fun v q => nomatch q⟩
    · exact ⟨_, hTI, fun v q => nomatch q⟩
    · exact ⟨_, hTO, fun v q => nomatch q⟩
    · exact ⟨o1, e1, fun v q => by rw [d1] at q; cases q⟩
    · exact ⟨o2, e2, fun v q => by rw [d2] at q; cases q⟩
  keep := fun i h h' st k => by
    obtain ⟨hz, hTI, ⟨x, y, hTO⟩, h1, h2⟩ := st
    exact ⟨k z (by simp) _ hz, k TI (by simp) _ hTI, ⟨x, y, k TO (by simp) _ hTO⟩, h1.at fun o q => k i1 (by simp) o q, h2.at fun o q => k i2 (by simp) o q⟩
  item := by
    intro X hP hw hK hc i pins s σ H E I hf st hg
    subst hP hw hK
    obtain ⟨hz, hTI, ⟨x0, y0, hTO⟩, h1, h2⟩ := st
    obtain ⟨xs, ys, x, y, hqx, hqy, hx, hy⟩ := hg
    obtain ⟨its, rv, p, _⟩ := I.tuple hqx
    obtain ⟨its2, rv2, p2, _⟩ := I.list hqy
    obtain ⟨u, hu, ru⟩ := rv.get hx
    obtain ⟨u2, hu2, ru2⟩ := rv2.get hy
    have zl : z < s.heap.objs.size := Heap.lt_size hz
    have j1 : ItA s.heap i1 a i its.toArray := .tup h1 p
    have j2 : ItA s.heap i2 b i its2.toArray := .lst h2 p2.isList
    refine nextZ_item D hz hTI hTO j1 j2 (x := u) (y := u2) (by simpa using hu) (by simpa using hu2) fun h' z' TO' k1 k2 hT hsz hk => ?_
    refine ⟨_, rfl, wpAny_letOwnedTupleGo_zip (s := { s with heap := h' }) z' fun h'' z'' sb => ?_⟩
    have hT2 : h''.get? s.heap.objs.size = some { cls := .type "tuple", data := .seq #[u, u2] } := (sb.2 _ (Nat.ne_of_gt zl)).trans hT
    have new : ObjOk X.prog X.w (upd H s.heap.objs.size (.tup [x, y])) h'' s.heap.objs.size (.tup [x, y]) :=
      ⟨by show 2 ≤ sizeLine; decide, [u, u2], .cons ru (.cons ru2 .nil), ⟨_, hT2, rfl, _, rfl⟩⟩
    have away : ∀ c o, c ∉ [z, TI, TO, i1, i2] → s.heap.get? c = some o → h''.get? c = some o := fun c o hb q =>
      (sb.2 c (fun q' => hb (by simp [q']))).trans (hk c o (fun q' => hb (by simp [q'])) (fun q' => hb (by simp [q'])) (fun q' => hb (by simp [q'])) (fun q' => hb (by simp [q'])) q)
    have I1 : Inv X pins σ (upd H s.heap.objs.size (.tup [x, y])) { s with heap := h'' } := I.turnedNew (t' := s.toks) (ch := [z, TI, TO, i1, i2]) away hf (Nat.le_refl _) new
    have c1 : h''.IsTupleIter i1 a (i + 1) := by
      cases k1 with
      | tup k1 _ => exact k1.at fun o q => (sb.2 _ D.i1z).trans q
      | lst k1 s1 =>
        obtain ⟨o, e, c, _⟩ := s1
        obtain ⟨o2, e2, c2, m, d2⟩ := p
        have := hk a o2 D.l1z D.l1TO D.l1i1 D.l1i2 e2
        rw [this] at e
        cases e
        rw [c2] at c
        simp at c
    have c2 : h''.IsListIter i2 b (i + 1) := by
      cases k2 with
      | lst k2 _ => exact k2.at fun o q => (sb.2 _ D.i2z).trans q
      | tup k2 s2 =>
        obtain ⟨o, e, c, _⟩ := s2
        obtain ⟨o2, e2, c2, _⟩ := p2.isList
        have := hk b o2 D.l2z D.l2TO D.l2i1 D.l2i2 e2
        rw [this] at e
        cases e
        rw [c2] at c
        simp at c
    refine ⟨.ref s.heap.objs.size, _, I1, rfl, ⟨_, x, y, rfl, I.hok.fresh (Nat.le_refl _), rfl, fun l hl => by rw [I.tuple_inj hl hqx]; exact hx, fun l hl => by rw [I.list_inj hl hqy]; exact hy⟩, ⟨z'', ?_, ⟨u, u2, ?_⟩, c1, c2⟩, fun c hcm => ?_⟩
    · exact (sb.2 _ D.TIz).trans (hk _ _ D.TIz D.TITO D.TIi1 D.TIi2 hTI)
    · exact (sb.2 _ D.TOz).trans TO'
    · have lt : c < s.heap.objs.size := by
        rcases five hcm with rfl | rfl | rfl | rfl | rfl
        · exact zl
        · exact Heap.lt_size hTI
        · exact Heap.lt_size hTO
        · obtain ⟨_, e1, _⟩ := h1
          exact Heap.lt_size e1
        · obtain ⟨_, e2, _⟩ := h2
          exact Heap.lt_size e2
      rw [upd_ne (Nat.ne_of_lt lt)]
      exact (hf c hcm).1
  done := by
    intro X hP hw hK hc i pins s σ H E I hf st hg
    subst hP hw hK
    obtain ⟨hz, hTI, ⟨x0, y0, hTO⟩, h1, h2⟩ := st
    obtain ⟨xs, ys, hqx, hqy, hend⟩ := hg
    obtain ⟨its, rv, p, _⟩ := I.tuple hqx
    obtain ⟨its2, rv2, p2, _⟩ := I.list hqy
    have l1 := rv.length
    have l2 := rv2.length
    have he : its.toArray[i]? = none ∨ its2.toArray[i]? = none := by
      rcases hend with q | q
      · exact .inl (by simp; omega)
      · exact .inr (by simp; omega)
    refine nextZ_end (I.ok.hd hc) D hz hTI hTO (.tup h1 p) (.lst h2 p2.isList) he fun h' hk => ⟨rfl, I.turnedL (t' := s.toks) (ch := [z, TI, TO, i1, i2]) (fun c o hb q => ?_) hf⟩
    exact hk c o (fun q' => hb (by simp [q'])) (fun q' => hb (by simp [q'])) (fun q' => hb (by simp [q'])) (fun q' => hb (by simp [q'])) q
  self := fun A i s Q E st h => wpAny_pyIter_zip st.1 h
/-- zip of a tuple with a tuple or a list -/
def iZipT (K : PySem.W.Frag) (ta : TA) : TI := fun σ H R => ta σ H fun vs H1 => ∃ a b xs ys, vs = [.ref a, .ref b] ∧ SqT K H1 a xs ∧ ((SqL K H1 b ys ∧ R (ItzM K a b) H1) ∨ (SqT K H1 b ys ∧ R (RZ.ItzT K a b) H1))
theorem pi_zipT {X : Cx} {e e2 : Expr} {ta : TA} {p pos tpos : Pos} {elts : List Expr} {kk : Nat} (hg : Gl X "zip") (hm : X.mg "zip" = none) (ha : PA X [e, e2] ta)
    (hs : starEach [e, e2] X.env = (false, eval e X.env) :: starEach [e2] X.env := by rfl) (hpl : (backTo pos (starEach [e2] X.env)).any (·.1) = false := by rfl) :
    PI X (.Tuple elts kk tpos) (.Call (.Name "zip" p) [e, e2] [] pos) (iZipT X.K ta) := by
  refine ⟨fun pins s σ H R I h => ?_⟩
  have h2 : ta σ H fun vs H1 => ∃ a b xs ys, vs = [.ref a, .ref b] ∧ SqT X.K H1 a xs ∧ ((SqL X.K H1 b ys ∧ R (ItzM X.K a b) H1) ∨ (SqT X.K H1 b ys ∧ R (RZ.ItzT X.K a b) H1)) := h
  refine Call_ (ld_blt I hg hm PyProof.Rows.boot_zip (PyProof.Rows.callWith_type1 (thn (ha.run pos pins s σ H _ I h2) fun us s1 ⟨vs, H1, I1, r1, q1⟩ => ?_) hs hpl))
  obtain ⟨a, b, xs, ys, rfl, hqx, q1⟩ := q1
  obtain ⟨u1, u2, rfl, ra, rb⟩ := vals2 r1
  cases (show u1 = Value.ref a from ra)
  cases (show u2 = Value.ref b from rb)
  obtain ⟨n, hn⟩ : ∃ n, s1.heap.objs.size = n := ⟨_, rfl⟩
  have fresh : ∀ c, c ∈ [n + 4, n + 2, n + 3, n, n + 1] → FpOk X pins H1 c := fun c hcm => by
    have : s1.heap.objs.size ≤ c := by
      rcases five hcm with rfl | rfl | rfl | rfl | rfl <;> omega
    exact I1.fpOk this (I1.hok.fresh this)
  obtain ⟨its, rv, p1, _⟩ := I1.tuple hqx
  obtain ⟨o1, ho1, _⟩ := id p1
  rcases q1 with ⟨hqy, q⟩ | ⟨hqy, q⟩
  · obtain ⟨its2, rv2, p2, _⟩ := I1.list hqy
    refine call_zipM (show s1.heap.IsTuple a its.toArray from p1) p2.isList fun h' hz hTI hTO h1 h2 hk => wpAny_pyIter_zip hz ?_
    have I2 : Inv X pins σ H1 { s1 with heap := h' } := I1.kept (t' := s1.toks) hk
    have j1 : h'.IsTupleIter s1.heap.objs.size a 0 := by
      cases h1 with
      | tup h1 _ => exact h1
      | lst h1 s2 =>
        obtain ⟨o, e, c, _⟩ := s2
        obtain ⟨o2, e2, c2, _⟩ := p1
        rw [hk _ _ e2] at e
        cases e
        rw [c2] at c
        simp at c
    have j2 : h'.IsListIter (s1.heap.objs.size + 1) b 0 := by
      cases h2 with
      | lst h2 _ => exact h2
      | tup h2 s2 =>
        obtain ⟨o, e, c, _⟩ := s2
        obtain ⟨o2, e2, c2, _⟩ := p2.isList
        rw [hk _ _ e2] at e
        cases e
        rw [c2] at c
        simp at c
    subst hn
    exact ⟨_, [s1.heap.objs.size + 4, s1.heap.objs.size + 2, s1.heap.objs.size + 3, s1.heap.objs.size, s1.heap.objs.size + 1], _, _, H1, rfl, I2, turn_zipM (PySem.W.ktu_apart _ a b (Heap.lt_size ho1) p2.lt), ⟨hz, hTI, ⟨_, _, hTO⟩, j1, j2⟩, fresh, q⟩
  · obtain ⟨its2, rv2, p2, _⟩ := I1.tuple hqy
    obtain ⟨o2, ho2, _⟩ := id p2
    refine RZ.call_zipT (show s1.heap.IsTuple a its.toArray from p1) (show s1.heap.IsTuple b its2.toArray from p2) fun h' hz hTI hTO h1 h2 hsz hk => wpAny_pyIter_zip hz ?_
    have I2 : Inv X pins σ H1 { s1 with heap := h' } := I1.kept (t' := s1.toks) hk
    subst hn
    exact ⟨_, [s1.heap.objs.size + 4, s1.heap.objs.size + 2, s1.heap.objs.size + 3, s1.heap.objs.size, s1.heap.objs.size + 1], _, _, H1, rfl, I2, RZ.turn_zipT (PySem.W.ktu_apart _ a b (Heap.lt_size ho1) (Heap.lt_size ho2)), ⟨hz, hTI, ⟨_, _, hTO⟩, h1, h2⟩, fresh, q⟩
section
variable {K : PySem.W.Frag} {a b : Addr} {xs ys : List V}
theorem walk_zipM {n : Nat} (hn : n = min xs.length ys.length) : Walk (ItzM K a b) n (fun H => SqT K H a xs ∧ SqL K H b ys) (YPair (fun i => xs[i]?) (fun i => ys[i]?)) := by
  subst hn
  refine ⟨fun i _ hi q => ?_, fun _ q => ⟨xs, ys, q.1, q.2, by omega⟩, fun i H v H' _ q y => ?_⟩
  · have h1 : i < xs.length := by omega
    have h2 : i < ys.length := by omega
    exact ⟨xs, ys, xs[i], ys[i], q.1, q.2, by simp [h1], by simp [h2]⟩
  · obtain ⟨T, x, z, h1, h2, h3, h4, h5⟩ := y
    exact ⟨T, x, z, h1, h2, h3, h4 xs q.1, h5 ys q.2⟩
theorem walk_zipT {n : Nat} (hn : n = min xs.length ys.length) : Walk (RZ.ItzT K a b) n (fun H => SqT K H a xs ∧ SqT K H b ys) (YPair (fun i => xs[i]?) (fun i => ys[i]?)) := by
  subst hn
  refine ⟨fun i _ hi q => ?_, fun _ q => ⟨xs, ys, q.1, q.2, by omega⟩, fun i H v H' _ q y => ?_⟩
  · have h1 : i < xs.length := by omega
    have h2 : i < ys.length := by omega
    exact ⟨xs, ys, xs[i], ys[i], q.1, q.2, by simp [h1], by simp [h2]⟩
  · obtain ⟨T, x, z, h1, h2, h3, h4, h5⟩ := y
    exact ⟨T, x, z, h1, h2, h3, h4 xs q.1, h5 ys q.2⟩
end

/-! d.get(x), d a dict of the text's top with texts as keys -/
def rGetW (K : PySem.W.Frag) (w : World) (p : Addr) (z : Str) (H : Hp) (Q : VK) : Prop := (∃ v, KDct K w p z v ∧ Q v H) ∨ (KMiss K w p z ∧ Q .non H)
def tGetW (K : PySem.W.Frag) (w : World) (td ty : TE) : TE := fun σ H Q => td σ H fun x H1 => ∃ p, x = .ref p ∧ (∃ es n, K.lookup p = some ⟨.type "dict", none, .dict es n, #[]⟩ ∧ PySem.W.KeysLit w.params es.toList ∧ (p == sysModules) = false) ∧ ty σ H1 fun y H2 => ∃ z, y = .str z ∧ rGetW K w p z H2 Q
section
variable {X : Cx} {o e : Expr} {apos cpos : Pos} {td ty : TE}
theorem pe_getW (ho : PE X o td) (he : PE X e ty) (m : M1 X o "get" apos e cpos) : PE X (.Call (.Attribute o "get" apos) [e] [] cpos) (tGetW X.K X.w td ty) := by
  refine ⟨fun pins s σ H Q I h => ?_⟩
  refine wpAny_Call_method m.base m.few m.line PySem.F.plainAttrs_dict PySem.F.slot_dict_get PySem.F.type_dict_get (thn (ho.run pins s σ H _ I h) fun u s1 ⟨x, H1, I1, rx, p, ex, ⟨es, n, hl, hk, low⟩, q1⟩ => ?_)
  subst ex
  obtain rfl : u = Value.ref p := rx
  have mp := PySem.W.mapOf_K (prog := X.prog) (w := X.w) I1.kIn hl hk
  refine ⟨mp.typeIs, fun b q => ?_, ?_⟩
  · cases q
    exact ⟨_, I1.kIn _ _ hl, rfl⟩
  rw [m.trees]
  refine Calls.callWith_builtin rfl (Calls.evalArgs_plain (Calls.spliced_cons (thn (he.run pins s1 σ H1 _ I1 q1) fun iv s2 ⟨y, H2, I2, ry, z, ey, q2⟩ => Calls.spliced_nil ?_)))
  subst ey
  obtain ⟨t, rfl⟩ := (show ∃ t, iv = Value.str z t from ry)
  have mp2 := PySem.W.mapOf_K (prog := X.prog) (w := X.w) I2.kIn hl hk
  refine call_meetsIn PySem.F.slot_dict_get mp2.typeIs PySem.F.entry_dict_get (PySem.F.args_dict_get_2 _ _) (meets_dict_get (strKind X.prog X.w) p (strKind_is X.prog X.w z t) low) ⟨_, mp2, ?_⟩
  rcases q2 with ⟨v, ⟨es2, n2, u0, hl2, hk2, e, ru⟩, q⟩ | ⟨⟨es2, n2, hl2, hk2, low2, e⟩, q⟩
  · rw [hl] at hl2
    cases hl2
    rw [PySem.W.find_K hl e]
    exact ⟨v, H2, I2.tok _, ru, q⟩
  · rw [hl] at hl2
    cases hl2
    rw [PySem.W.find_K hl e]
    exact ⟨.non, H2, I2.tok _, rfl, q⟩
end
end Nv

namespace Nv
open PySem PySem.Spec PyProof.Rows L2

section
variable {X : Cx} {K : PySem.W.Frag}
/-- i not in range(lo, hi) -/
theorem op_notIn_rng : OpR X (compareOp .NotIn) (fun x y H Q => ∃ i a lo hi, x = V.int i ∧ y = V.ref a ∧ H a = some (.rng lo hi) ∧ Q (.bl (!decide (lo ≤ i ∧ i < hi))) H) := by
  intro pins s σ H x y v u Q I rx ry h
  obtain ⟨i, a, lo, hi, rfl, rfl, ha, q⟩ := h
  obtain ⟨k, rfl⟩ := (show ∃ k, v = Value.int i k from rx)
  cases (show u = Value.ref a from ry)
  obtain ⟨t1, t2, t3, ho⟩ := I.hok a _ ha
  have T : s.TypeIs (.ref a) "range" := ⟨_, ho, rfl⟩
  show wpAny _ _ (do return Value.bool (!(← contains (Value.ref a) (Value.int i k)))) _ _ s
  refine wpAny_bind (wpAny_contains_slot T F.slot_range_contains (call_meets F.slot_range_contains T F.entry_range_contains (F.args_range_contains_2 _ _) (q_contains a lo hi i t1 t2 t3 k) ⟨ho, ?_⟩))
  refine wpAny_truthy_bool (wpAny_pure ⟨.bl _, H, I, rfl, ?_⟩)
  rw [place1]
  exact q
theorem op_in_seqK (h : X.K = K) : OpR X (compareOp .In) (rIn K false) := by
  subst h
  exact op_in_seq
theorem op_notIn_seqK (h : X.K = K) : OpR X (compareOp .NotIn) (rIn K true) := by
  subst h
  exact op_notIn_seq
/-- str(x), x an int or a text -/
theorem call_strA : CallR X (.type "str") (fun xs H Q => (∃ a, xs = [.str a] ∧ Q (.str a) H) ∨ ∃ i, xs = [.int i] ∧ i.natAbs.log2 < 1920 ∧ Q (.str (Str.ofString (toString i))) H) := CallR.or SkE.call_str_str call_str_int
end
end Nv

namespace Nv
open PySem PySem.Spec PyProof.Rows L2

/-! comprehensions without a test: what their list holds -/
section
variable {J : It} {n : Nat} {G : Hp → Prop} {Y : Nat → Hp → V → Hp → Prop} {g : TG} {te : TE} {vs : List Nat} {σ : L2.St} {H : Hp} {D : Addr} {Qd : Hp → Prop}
/-- the items are known ahead -/
theorem lc_flat (w : Walk J n G Y) (ys : List V) (hD : H D = none) (hn : ys.length = n) (hz : n ≤ sizeLine) (hG : ∀ H', Same H H' → G H')
    (hs : ∀ i x y Ha Hb (R : VK), ys[i]? = some y → Same H Ha → Y i Ha x Hb → (∀ H4, Same Ha H4 → R y H4) → g x (wipe σ vs) Hb fun σ2 H2 => wipe σ2 vs = wipe σ vs ∧ te σ2 H2 R)
    (hd : ∀ H', Same H H' → H' D = some (.lst ys) → Qd H') :
    ∃ W : Nat → Nat → Hp → Prop, (∃ m, W 0 m (upd H D (.lst []))) ∧ ∀ i m H, W i m H →
      (J.stop i H ∧ Qd H) ∨ (J.go i H ∧ ∃ Nx : Hp → Prop, (∀ H', Nx H' → ∃ m', m' < m ∧ W (i + 1) m' H') ∧ ∀ x H', J.yld i H x H' → g x (wipe σ vs) H' fun σ2 H2 => wipe σ2 vs = wipe σ vs ∧ tYes σ2 H2 fun b H3 =>
        if b = true then te σ2 H3 fun y H4 => ∃ acc, H4 D = some (.lst acc) ∧ acc.length < sizeLine ∧ Nx (upd H4 D (.lst (acc ++ [y]))) else Nx H3) := by
  refine lc_it w (fun i H' => H' D = some (.lst (ys.take i)) ∧ Same H H') ⟨by rw [upd_same]; rfl, Same.new hD⟩ (fun i H' _ p => hG H' p.2) ?_ ?_
  · rintro i x Ha Hb hi ⟨f, S⟩ y
    obtain ⟨v, hv⟩ : ∃ v, ys[i]? = some v := ⟨_, List.getElem?_eq_getElem (by omega)⟩
    have key := hs i x v Ha Hb (fun v' H4 => ∃ acc, H4 D = some (.lst acc) ∧ acc.length < sizeLine ∧ (upd H4 D (.lst (acc ++ [v'])) D = some (.lst (ys.take (i + 1))) ∧ Same H (upd H4 D (.lst (acc ++ [v']))))) hv S y ?_
    · have e : (fun (σ2 : L2.St) (H2 : Hp) => wipe σ2 vs = wipe σ vs ∧ tYes σ2 H2 fun b H3 => if b = true then te σ2 H3 fun y H4 => ∃ acc, H4 D = some (.lst acc) ∧ acc.length < sizeLine ∧ (upd H4 D (.lst (acc ++ [y])) D = some (.lst (ys.take (i + 1))) ∧ Same H (upd H4 D (.lst (acc ++ [y])))) else (H3 D = some (.lst (ys.take (i + 1))) ∧ Same H H3))
          = fun σ2 H2 => wipe σ2 vs = wipe σ vs ∧ te σ2 H2 fun v' H4 => ∃ acc, H4 D = some (.lst acc) ∧ acc.length < sizeLine ∧ (upd H4 D (.lst (acc ++ [v'])) D = some (.lst (ys.take (i + 1))) ∧ Same H (upd H4 D (.lst (acc ++ [v'])))) := by
        funext σ2 H2
        rw [e_tyes, if_pos rfl]
      rw [e]
      exact key
    · intro H4 S4
      refine ⟨_, S4 _ _ f, by rw [List.length_take]; omega, ?_, fun b o hb => ?_⟩
      · rw [upd_same, List.take_add_one, hv]
        rfl
      · rw [upd_ne (ne_of_none hb hD)]
        exact S4 _ _ (S _ _ hb)
  · rintro H' ⟨f, S⟩
    rw [List.take_of_length_le (by omega)] at f
    exact hd H' S f
/-- the items are new data, each apart from the list -/
theorem lc_data (w : Walk J n G Y) (ds : List PyData) (hD : H D = none) (hn : ds.length = n) (hz : n ≤ sizeLine) (hG : ∀ H', Same H H' → G H')
    (hs : ∀ i x d Ha Hb (R : VK), ds[i]? = some d → Same H Ha → Y i Ha x Hb → (∀ v Hs H4, Same Ha H4 → Same Hs H4 → Hs D = none → DV Hs v d → R v H4) → g x (wipe σ vs) Hb fun σ2 H2 => wipe σ2 vs = wipe σ vs ∧ te σ2 H2 R)
    (hd : ∀ acc H', Same H H' → H' D = some (.lst acc) → DVs H' acc ds → Qd H') :
    ∃ W : Nat → Nat → Hp → Prop, (∃ m, W 0 m (upd H D (.lst []))) ∧ ∀ i m H, W i m H →
      (J.stop i H ∧ Qd H) ∨ (J.go i H ∧ ∃ Nx : Hp → Prop, (∀ H', Nx H' → ∃ m', m' < m ∧ W (i + 1) m' H') ∧ ∀ x H', J.yld i H x H' → g x (wipe σ vs) H' fun σ2 H2 => wipe σ2 vs = wipe σ vs ∧ tYes σ2 H2 fun b H3 =>
        if b = true then te σ2 H3 fun y H4 => ∃ acc, H4 D = some (.lst acc) ∧ acc.length < sizeLine ∧ Nx (upd H4 D (.lst (acc ++ [y]))) else Nx H3) := by
  refine lc_it w (fun i H' => ∃ acc, H' D = some (.lst acc) ∧ Same H H' ∧ acc.length = i ∧ ∀ (j : Nat) (v : V) (d : PyData), acc[j]? = some v → ds[j]? = some d → ∃ Hs, Hs D = none ∧ DV Hs v d ∧ ∀ a o, Hs a = some o → H' a = some o) ⟨[], upd_same, Same.new hD, rfl, fun j v d h => by simp at h⟩ (fun i H' _ ⟨acc, _, S, _⟩ => hG H' S) ?_ ?_
  · rintro i x Ha Hb hi ⟨acc, f, S, la, pd⟩ y
    obtain ⟨d, hv⟩ : ∃ v, ds[i]? = some v := ⟨_, List.getElem?_eq_getElem (by omega)⟩
    have key := hs i x d Ha Hb (fun v' H4 => ∃ acc, H4 D = some (.lst acc) ∧ acc.length < sizeLine ∧ (∃ acc2, upd H4 D (.lst (acc ++ [v'])) D = some (.lst acc2) ∧ Same H (upd H4 D (.lst (acc ++ [v']))) ∧ acc2.length = i + 1 ∧ ∀ (j : Nat) (v : V) (d : PyData), acc2[j]? = some v → ds[j]? = some d → ∃ Hs, Hs D = none ∧ DV Hs v d ∧ ∀ a o, Hs a = some o → upd H4 D (.lst (acc ++ [v'])) a = some o)) hv S y ?_
    · have e : (fun (σ2 : L2.St) (H2 : Hp) => wipe σ2 vs = wipe σ vs ∧ tYes σ2 H2 fun b H3 => if b = true then te σ2 H3 fun y H4 => ∃ acc, H4 D = some (.lst acc) ∧ acc.length < sizeLine ∧ (∃ acc2, upd H4 D (.lst (acc ++ [y])) D = some (.lst acc2) ∧ Same H (upd H4 D (.lst (acc ++ [y]))) ∧ acc2.length = i + 1 ∧ ∀ (j : Nat) (v : V) (d : PyData), acc2[j]? = some v → ds[j]? = some d → ∃ Hs, Hs D = none ∧ DV Hs v d ∧ ∀ a o, Hs a = some o → upd H4 D (.lst (acc ++ [y])) a = some o)
            else (∃ acc, H3 D = some (.lst acc) ∧ Same H H3 ∧ acc.length = i + 1 ∧ ∀ (j : Nat) (v : V) (d : PyData), acc[j]? = some v → ds[j]? = some d → ∃ Hs, Hs D = none ∧ DV Hs v d ∧ ∀ a o, Hs a = some o → H3 a = some o))
          = fun σ2 H2 => wipe σ2 vs = wipe σ vs ∧ te σ2 H2 fun v' H4 => ∃ acc, H4 D = some (.lst acc) ∧ acc.length < sizeLine ∧ (∃ acc2, upd H4 D (.lst (acc ++ [v'])) D = some (.lst acc2) ∧ Same H (upd H4 D (.lst (acc ++ [v']))) ∧ acc2.length = i + 1 ∧ ∀ (j : Nat) (v : V) (d : PyData), acc2[j]? = some v → ds[j]? = some d → ∃ Hs, Hs D = none ∧ DV Hs v d ∧ ∀ a o, Hs a = some o → upd H4 D (.lst (acc ++ [v'])) a = some o) := by
        funext σ2 H2
        rw [e_tyes, if_pos rfl]
      rw [e]
      exact key
    · intro v Hs H4 S4 s4 nD dv
      refine ⟨acc, S4 _ _ f, by omega, acc ++ [v], upd_same, fun b o hb => ?_, by simp [la], fun j u e hu he => ?_⟩
      · rw [upd_ne (ne_of_none hb hD)]
        exact S4 _ _ (S _ _ hb)
      · have away : ∀ (Hx : Hp), Hx D = none → Same Hx H4 → ∀ a o, Hx a = some o → upd H4 D (.lst (acc ++ [v])) a = some o := fun Hx nx s a o h => by
          rw [upd_ne (ne_of_none h nx)]
          exact s _ _ h
        by_cases hj : j < acc.length
        · rw [List.getElem?_append_left hj] at hu
          obtain ⟨Hx, nx, dx, s⟩ := pd j u e hu he
          exact ⟨Hx, nx, dx, away Hx nx fun a o h => S4 _ _ (s a o h)⟩
        · have : j = acc.length := by
            have := (List.getElem?_eq_some_iff.mp hu).1
            simp at this
            omega
          subst this
          rw [List.getElem?_concat_length] at hu
          cases hu
          rw [la, hv] at he
          cases he
          exact ⟨Hs, nD, dv, away Hs nD s4⟩
  · rintro H' ⟨acc, f, S, la, pd⟩
    refine hd acc H' S f ?_
    have all : ∀ (acc : List V) (ds : List PyData), acc.length = ds.length → (∀ (j : Nat) (v : V) (d : PyData), acc[j]? = some v → ds[j]? = some d → DV H' v d) → DVs H' acc ds := by
      intro acc
      induction acc with
      | nil =>
        intro ds l _
        cases ds with
        | nil => exact .nil
        | cons _ _ => simp at l
      | cons a r ih =>
        intro ds l h
        cases ds with
        | nil => simp at l
        | cons d ds =>
          refine .cons (h 0 a d rfl rfl) (ih ds (by simpa using l) fun j v d' hv hd => h (j + 1) v d' (by simpa using hv) (by simpa using hd))
    refine all acc ds (by omega) fun j v d hv hd => ?_
    obtain ⟨Hs, _, dv, s⟩ := pd j v d hv hd
    exact dv.mono s
end
/-- data that stands apart from a new list -/
theorem DV.apart {H : Hp} {v : V} {d : PyData} {D : Addr} (h : DV H v d) (hD : H D = none) {H' : Hp} (S : Same H H') : ∃ Hs, Same Hs H' ∧ Hs D = none ∧ DV Hs v d := ⟨H, S, hD, h⟩
end Nv
namespace Nv
open PySem L2
theorem sIx_one {n : Nat} (h : 1 ≤ n) : HT.sIx n 0 (some 1) = 1 := by
  unfold HT.sIx
  simp
  omega
theorem cutV_tail {x : V} {xs : List V} : cutV (x :: xs) (some 1) none = xs := by
  unfold cutV
  rw [sIx_one (by simp)]
  simp [HT.sIx]
theorem sIx_tail {x : V} {xs : List V} {P : Prop} : ¬ (HT.sIx (x :: xs).length 0 (some 1) = 0 ∧ P) := fun h => by
  have := h.1
  rw [sIx_one (by simp)] at this
  cases this
end Nv
namespace Nv
open PySem L2
theorem cutV_head {x : V} {xs : List V} : cutV (x :: xs) none (some 1) = [x] := by
  unfold cutV
  have : HT.sIx (x :: xs).length (x :: xs).length (some 1) = 1 := by
    unfold HT.sIx
    simp
  rw [this]
  simp [HT.sIx]
end Nv
namespace Nv
open PySem L2
theorem inV_strs (z : Str) (l : List Str) : inV (V.str z) (l.map V.str) = decide (z ∈ l) := by
  unfold inV
  rw [List.any_map]
  induction l with
  | nil => simp
  | cons a r ih =>
    rw [List.any_cons, ih]
    by_cases h : a = z
    · simp [eqV, h]
    · have : ¬ z = a := fun e => h e.symm
      simp [eqV, h, this]
theorem flat_strs (l : List Str) : (l.map V.str).all flatV = true := by
  rw [List.all_map, List.all_eq_true]
  intro x _
  rfl
/-- in a list or a tuple of texts -/
theorem r_inS {K : PySem.W.Frag} {H : Hp} {Q : VK} {z : Str} {p : Addr} {l : List Str} (h : SqL K H p (l.map V.str) ∨ SqT K H p (l.map V.str)) (q : Q (.bl (decide (z ∈ l))) H) : rIn K false (.str z) (.ref p) H Q :=
  ⟨p, _, rfl, h, rfl, flat_strs l, by rw [inV_strs]; exact q⟩
theorem r_ninS {K : PySem.W.Frag} {H : Hp} {Q : VK} {z : Str} {p : Addr} {l : List Str} (h : SqL K H p (l.map V.str) ∨ SqT K H p (l.map V.str)) (q : Q (.bl (!decide (z ∈ l))) H) : rIn K true (.str z) (.ref p) H Q :=
  ⟨p, _, rfl, h, rfl, flat_strs l, by rw [inV_strs]; exact q⟩
end Nv

namespace Nv
open PySem L2

/-! draws -/
/-- the box of draws at p, of which at most N have been mixed -/
def BoxAt (H : Hp) (p : Addr) (N : Nat) : Prop := ∃ (n : Int) (b : Bool) (m c : Int), H p = some (.lst [.int n, .bl b, .int m, .int c]) ∧ 0 ≤ m ∧ m < 2147483648 ∧ 0 ≤ c ∧ c ≤ (N : Int)
theorem BoxAt.mono {H H' : Hp} {p : Addr} {N : Nat} (e : Same H H') (h : BoxAt H p N) : BoxAt H' p N := by
  obtain ⟨n, b, m, c, h, r⟩ := h
  exact ⟨n, b, m, c, e _ _ h, r⟩
theorem BoxAt.le {H : Hp} {p : Addr} {N M : Nat} (h : BoxAt H p N) (l : N ≤ M) : BoxAt H p M := by
  obtain ⟨n, b, m, c, h, r1, r2, r3, r4⟩ := h
  exact ⟨n, b, m, c, h, r1, r2, r3, by omega⟩
def nvCell (K : PySem.W.Frag) : Sp := fun vs H Q _ => ∃ (a : Addr) (ns : List Int) (k : Int), vs = [.ref a, .int k] ∧ SqL K H a (ns.map V.int) ∧ 0 ≤ k ∧ k ≤ 1000 ∧ ∀ i H', Same H H' → Q (.int i) H'
def nvBox : Sp := fun vs H Q _ => ∃ g, vs = [.int g] ∧ ∀ p H', H p = none → Same H H' → BoxAt H' p 0 → Q (.ref p) H'
def nvTake : Sp := fun vs H Q _ => ∃ p m N, vs = [.ref p, .int m] ∧ BoxAt H p N ∧ N ≤ 1000000 ∧ 0 < m ∧ m < 1073741824 ∧
  ∀ d H', 0 ≤ d → d < m → BoxAt H' p (N + 1) → Ext1 p H H' → Q (.int d) H'
theorem fmod_in (a : Int) {m : Int} (h : 0 < m) : 0 ≤ a.fmod m ∧ a.fmod m < m := by
  rw [Int.fmod_eq_emod_of_nonneg a (Int.le_of_lt h)]
  exact ⟨Int.emod_nonneg a (by omega), Int.emod_lt_of_pos a h⟩
theorem at0 {α : Type} {xs : List α} {v : α} (h : xs[0]? = some v) : atI xs 0 = some v := atI_nat (j := 0) h
theorem at1 {α : Type} {xs : List α} {v : α} (h : xs[1]? = some v) : atI xs 1 = some v := atI_nat (j := 1) h
theorem at2 {α : Type} {xs : List α} {v : α} (h : xs[2]? = some v) : atI xs 2 = some v := atI_nat (j := 2) h
theorem at3 {α : Type} {xs : List α} {v : α} (h : xs[3]? = some v) : atI xs 3 = some v := atI_nat (j := 3) h
theorem cmul_r {a b : Int} (h1 : -(2 ^ 64) < b) (h2 : b < 2 ^ 64) : CMul a b := .inr ⟨h1, h2⟩
theorem cmul_l {a b : Int} (h1 : -(2 ^ 64) < a) (h2 : a < 2 ^ 64) : CMul a b := .inl ⟨h1, h2⟩
theorem cpow_of {a e : Int} (h0 : 0 ≤ e) (h1 : e ≤ 1000000) (h2 : 0 ≤ a) (h3 : a < 2 ^ 64) : CPow a e := ⟨h0, h1, by omega⟩
theorem setIx {n : Nat} {j : Nat} (h : j < n) : ixN n (j : Int) = some j := by
  unfold ixN
  rw [if_pos (by omega), if_pos (by omega)]
  simp

theorem BoxAt.off {H : Hp} {p D : Addr} {N : Nat} {o : HO} (h : BoxAt H p N) (hD : H D = none) : BoxAt (upd H D o) p N := by
  obtain ⟨n, b, m, c, hx, r⟩ := h
  exact ⟨n, b, m, c, by rw [upd_ne (ne_of_none hx hD)]; exact hx, r⟩
theorem BoxAt.ne {H : Hp} {p D : Addr} {N : Nat} (h : BoxAt H p N) (hD : H D = none) : D ≠ p := by
  obtain ⟨_, _, _, _, hx, _⟩ := h
  intro e
  rw [e, hx] at hD
  cases hD
theorem BoxAt.keep {H H' : Hp} {p D : Addr} {N : Nat} {xs : List V} (h : BoxAt H p N) (nD : D ≠ p) : BoxAt (upd H D (.lst xs)) p N := by
  obtain ⟨n, b, m, c, hx, r⟩ := h
  exact ⟨n, b, m, c, by rw [upd_ne (Ne.symm nD)]; exact hx, r⟩
theorem ext_new {H : Hp} {p D : Addr} (o : HO) (hD : H D = none) : Ext1 p H (upd H D o) := fun a u _ ha => by
  rw [upd_ne (ne_of_none ha hD)]
  exact ha
theorem ext_trans {H H1 H2 : Hp} {p : Addr} (a : Ext1 p H H1) (b : Ext1 p H1 H2) : Ext1 p H H2 := fun x o n h => b x o n (a x o n h)
theorem ext_same {H H1 : Hp} {p : Addr} (a : Same H H1) : Ext1 p H H1 := fun x o _ h => a x o h
theorem ext_none {p a : Addr} {H H' : Hp} {N : Nat} (hp : BoxAt H' p N) (e : Ext1 p H H') (h : H' a = none) : H a = none := by
  cases q : H a with
  | none => rfl
  | some o =>
    have := e a o (hp.ne h) q
    rw [this] at h
    cases h
section
open PySem.Spec PyProof.Rows
variable {J : It} {n : Nat} {G : Hp → Prop} {Y : Nat → Hp → V → Hp → Prop} {g : TG} {te : TE} {vs : List Nat} {σ : L2.St} {H : Hp} {D : Addr} {Qd : Hp → Prop}
/-- a comprehension whose items are drawn -/
theorem lc_box (w : Walk J n G Y) (p : Addr) (N M : Nat) (Pv : Nat → V → Prop) (hp : BoxAt H p N) (hD : H D = none) (hz : n ≤ sizeLine) (hG : ∀ H', Ext1 p H H' → G H')
    (hs : ∀ i x Ha Hb (R : VK), i < n → BoxAt Ha p (N + i * M) → Ext1 p H Ha → Y i Ha x Hb → (∀ v H4, Pv i v → BoxAt H4 p (N + (i + 1) * M) → Ext1 p Ha H4 → R v H4) → g x (wipe σ vs) Hb fun σ2 H2 => wipe σ2 vs = wipe σ vs ∧ te σ2 H2 R)
    (hd : ∀ ws H', ws.length = n → (∀ (i : Nat) (v : V), ws[i]? = some v → Pv i v) → H' D = some (.lst ws) → BoxAt H' p (N + n * M) → Ext1 p H H' → Qd H') :
    ∃ W : Nat → Nat → Hp → Prop, (∃ m, W 0 m (upd H D (.lst []))) ∧ ∀ i m H, W i m H →
      (J.stop i H ∧ Qd H) ∨ (J.go i H ∧ ∃ Nx : Hp → Prop, (∀ H', Nx H' → ∃ m', m' < m ∧ W (i + 1) m' H') ∧ ∀ x H', J.yld i H x H' → g x (wipe σ vs) H' fun σ2 H2 => wipe σ2 vs = wipe σ vs ∧ tYes σ2 H2 fun b H3 =>
        if b = true then te σ2 H3 fun y H4 => ∃ acc, H4 D = some (.lst acc) ∧ acc.length < sizeLine ∧ Nx (upd H4 D (.lst (acc ++ [y]))) else Nx H3) := by
  have nD : D ≠ p := hp.ne hD
  refine lc_it w (fun i H' => ∃ ws : List V, H' D = some (.lst ws) ∧ ws.length = i ∧ (∀ (j : Nat) (v : V), ws[j]? = some v → Pv j v) ∧ BoxAt H' p (N + i * M) ∧ Ext1 p H H')
    ⟨[], upd_same, rfl, fun j v h => (by rw [List.getElem?_nil] at h; cases h), by rw [Nat.zero_mul]; exact hp.off hD, ext_new _ hD⟩ (fun i H' _ ⟨_, _, _, _, _, e⟩ => hG H' e) ?_ ?_
  · rintro i x Ha Hb hi ⟨ws, f, lw, pw, hB, E⟩ y
    let C : Hp → Prop := fun H' => ∃ ws : List V, H' D = some (.lst ws) ∧ ws.length = i + 1 ∧ (∀ (j : Nat) (v : V), ws[j]? = some v → Pv j v) ∧ BoxAt H' p (N + (i + 1) * M) ∧ Ext1 p H H'
    have key := hs i x Ha Hb (fun v' H4 => ∃ acc, H4 D = some (.lst acc) ∧ acc.length < sizeLine ∧ C (upd H4 D (.lst (acc ++ [v'])))) hi hB E y ?_
    · have e : (fun (σ2 : L2.St) (H2 : Hp) => wipe σ2 vs = wipe σ vs ∧ tYes σ2 H2 fun b H3 => if b = true then te σ2 H3 fun y H4 => ∃ acc, H4 D = some (.lst acc) ∧ acc.length < sizeLine ∧ C (upd H4 D (.lst (acc ++ [y]))) else C H3)
          = fun σ2 H2 => wipe σ2 vs = wipe σ vs ∧ te σ2 H2 fun v' H4 => ∃ acc, H4 D = some (.lst acc) ∧ acc.length < sizeLine ∧ C (upd H4 D (.lst (acc ++ [v']))) := by
        funext σ2 H2
        rw [e_tyes, if_pos rfl]
      show g x (wipe σ vs) Hb fun σ2 H2 => wipe σ2 vs = wipe σ vs ∧ tYes σ2 H2 fun b H3 => if b = true then te σ2 H3 fun y H4 => ∃ acc, H4 D = some (.lst acc) ∧ acc.length < sizeLine ∧ C (upd H4 D (.lst (acc ++ [y]))) else C H3
      rw [e]
      exact key
    · intro v H4 pv hB4 e4
      refine ⟨ws, e4 _ _ nD f, by omega, ws ++ [v], upd_same, by simp [lw], fun j u hu => ?_, hB4.keep (H' := H4) nD, fun a o na ha => ?_⟩
      · by_cases hj : j < ws.length
        · rw [List.getElem?_append_left hj] at hu
          exact pw j u hu
        · have : j = ws.length := by
            have := (List.getElem?_eq_some_iff.mp hu).1
            simp at this
            omega
          subst this
          rw [List.getElem?_concat_length] at hu
          cases hu
          rw [lw]
          exact pv
      · rw [upd_ne (ne_of_none ha hD)]
        exact e4 a o na (E a o na ha)
  · rintro H' ⟨ws, f, lw, pw, hB, E⟩
    exact hd ws H' lw pw f hB E
end
/-- drawn signs, as a text -/
theorem ones_of {P : Nat → Bool} : ∀ (ws : List V), (∀ (i : Nat) (v : V), ws[i]? = some v → ∃ c, P c = true ∧ v = V.str ⟨#[c]⟩) → ∃ l : List Nat, (∀ c ∈ l, P c = true) ∧ l.length = ws.length ∧ ws = l.map fun c => V.str ⟨#[c]⟩
  | [], _ => ⟨[], by simp, rfl, rfl⟩
  | w :: r, h => by
    obtain ⟨c, hc, rfl⟩ := h 0 w rfl
    obtain ⟨l, hl, ll, rfl⟩ := ones_of r fun i v hv => h (i + 1) v (by simpa using hv)
    refine ⟨c :: l, fun x hx => ?_, (by rw [List.length_cons, List.length_cons, ll]), rfl⟩
    rcases List.mem_cons.mp hx with rfl | hx
    · exact hc
    · exact hl x hx
theorem ones_sum (l : List Nat) : ((l.map fun c => (⟨#[c]⟩ : Str)).map fun x => x.length).sum = l.length := by
  induction l with
  | nil => rfl
  | cons a r ih =>
    simp only [List.map_cons, List.sum_cons, ih, List.length_cons]
    show 1 + _ = _
    omega
theorem join_ones (l : List Nat) : Txt.join (Str.ofString "") (l.map fun c => (⟨#[c]⟩ : Str)) = tx l := by
  have : Str.ofString "" = Str.empty := by decide +kernel
  rw [this, join_signs]
  rfl
/-- a sign of a text, by its place -/
theorem sign_at {A : Str} {P : Nat → Bool} (h : (sg A).all P = true) {d : Int} (h0 : 0 ≤ d) (h1 : d < (A.length : Int)) : ∃ c, P c = true ∧ atI A.cps.toList d = some c := by
  obtain ⟨j, rfl⟩ : ∃ j : Nat, d = (j : Int) := ⟨d.toNat, by omega⟩
  have hj : j < (sg A).length := by rw [sg_len]; omega
  exact ⟨(sg A)[j], List.all_eq_true.mp h _ (List.getElem_mem hj), atI_nat (List.getElem?_eq_getElem hj)⟩
/-- an item of a menu, by its place -/
theorem menu_at {xs : List V} {d : Int} (h0 : 0 ≤ d) (h1 : d < (xs.length : Int)) : ∃ j v, d = ((j : Nat) : Int) ∧ xs[j]? = some v ∧ atI xs d = some v := by
  obtain ⟨j, rfl⟩ : ∃ j : Nat, d = (j : Int) := ⟨d.toNat, by omega⟩
  have hj : j < xs.length := by omega
  exact ⟨j, xs[j], rfl, List.getElem?_eq_getElem hj, atI_nat (List.getElem?_eq_getElem hj)⟩
end Nv
namespace Nv
open PySem L2
/-- an item of a menu -/
theorem r_menu {K : PySem.W.Frag} {H : Hp} {R : VK} {xs : List V} {m : Addr} {e : Int} (f : H m = some (.lst xs)) (e0 : 0 ≤ e) (e1 : e < (xs.length : Int)) (q : ∀ v ∈ xs, R v H) : rIxL K (.ref m) (.int e) H R := by
  obtain ⟨j, v, _, hv, hat⟩ := menu_at e0 e1
  exact r_ixL (.of f) hat (q v (List.mem_of_getElem? hv))
end Nv
namespace Nv
open PySem L2
theorem big_log {i : Int} (h : i.natAbs < 10 ^ 500) : i.natAbs.log2 < 1920 := by
  by_cases h0 : i.natAbs = 0
  · rw [h0]
    decide +kernel
  · rw [Nat.log2_lt h0]
    exact Nat.lt_of_lt_of_le h (by decide +kernel)
theorem big_len {i : Int} (h : i.natAbs < 10 ^ 500) : (Str.ofString (toString i)).length ≤ 510 := by
  have h1 := int_text_length_le10 (a := i) (k := 500) (by decide) (by omega)
  have e : (Str.ofString (toString i)).length = (toString i).length := ofString_length _
  omega
end Nv

namespace Nv
open PySem L2

/-! splits at blanks, as lists of signs -/
def spl : Nat → List Nat → List Nat → List (List Nat)
  | _, q, [] => [q]
  | k, q, c :: r => if 0 < k ∧ c = 32 then q :: spl (k - 1) [] r else spl k (q ++ [c]) r
def joinL : List (List Nat) → List Nat
  | [] => []
  | [a] => a
  | a :: b :: r => a ++ 32 :: joinL (b :: r)
theorem spl_ne : ∀ (k : Nat) (q r : List Nat), ∃ a l, spl k q r = a :: l
  | _, q, [] => ⟨q, [], rfl⟩
  | k, q, c :: r => by
    unfold spl
    split
    · exact ⟨_, _, rfl⟩
    · exact spl_ne k _ r
theorem join_spl : ∀ (k : Nat) (q r : List Nat), joinL (spl k q r) = q ++ r
  | _, q, [] => by simp [spl, joinL]
  | k, q, c :: r => by
    unfold spl
    split
    · rename_i h
      obtain ⟨a, l, e⟩ := spl_ne (k - 1) [] r
      rw [e, joinL, ← e, join_spl, h.2]
      rfl
    · rw [join_spl]
      simp
theorem spl_zero : ∀ (q r : List Nat), spl 0 q r = [q ++ r]
  | q, [] => by simp [spl]
  | q, c :: r => by
    unfold spl
    rw [if_neg (by simp), spl_zero]
    simp
/-- few cuts, of many -/
theorem spl_few : ∀ (r q : List Nat) (k n : Nat), k ≤ n → spl k q r = if (spl n q r).length ≤ k then spl n q r else (spl n q r).take k ++ [joinL ((spl n q r).drop k)]
  | [], q, k, n, h => by
    cases k with
    | zero => simp [spl, joinL]
    | succ k => simp [spl]
  | c :: r, q, k, n, h => by
    by_cases hc : c = 32
    · cases k with
      | zero =>
        have : ¬ (spl n q (c :: r)).length ≤ 0 := by
          obtain ⟨a, l, e⟩ := spl_ne n q (c :: r)
          rw [e]
          simp
        rw [if_neg this, spl_zero, List.drop_zero, join_spl]
        rfl
      | succ k =>
        obtain ⟨m, rfl⟩ : ∃ m, n = m + 1 := ⟨n - 1, by omega⟩
        have e1 : ∀ j, spl (j + 1) q (c :: r) = q :: spl j [] r := fun j => by
          conv => lhs; unfold spl
          rw [if_pos ⟨by omega, hc⟩]
          rfl
        rw [e1, e1, spl_few r [] k m (by omega)]
        by_cases l : (spl m [] r).length ≤ k
        · rw [if_pos l, if_pos (by simpa using l)]
        · rw [if_neg l, if_neg (by simpa using l)]
          simp
    · have e1 : ∀ j, spl j q (c :: r) = spl j (q ++ [c]) r := fun j => by
        conv => lhs; unfold spl
        rw [if_neg fun z => hc z.2]
      rw [e1, e1]
      exact spl_few r _ k n h
theorem parts_spl {x : Str} : ∀ (r p q : List Nat) (k : Nat), sg x = p ++ (q ++ r) → (StrLaws.partsFrom x 1 p.length (occL r (p.length + q.length) k)).map sg = spl k q r
  | [], p, q, k, e => by
    show [sg (Builtin.Str.strSub x p.length x.length)] = [q]
    rw [sub_sg, e, ← sg_len, e]
    simp
  | c :: r, p, q, k, e => by
    rw [occL_cons]
    unfold spl
    by_cases h : 0 < k ∧ c = 32
    · rw [if_pos h, if_pos h]
      show sg (Builtin.Str.strSub x p.length (p.length + q.length)) :: (StrLaws.partsFrom x 1 (p.length + q.length + 1) _).map sg = _
      have := parts_spl r (p ++ q ++ [c]) [] (k - 1) (by rw [e]; simp)
      simp only [List.length_append, List.length_cons, List.length_nil, Nat.add_zero] at this
      rw [this, sub_sg, e]
      simp
    · rw [if_neg h, if_neg h]
      have := parts_spl r p (q ++ [c]) k (by rw [e]; simp)
      rw [List.length_append] at this
      exact this
open Builtin.Str StrLaws in
theorem parts_all (x : Str) (k : Nat) : ((if (decide (x.length < (Str.ofString " ").length) || decide (Builtin.Str.strKind x < Builtin.Str.strKind (Str.ofString " "))) = true then [x] else
    if (occurrences x (Str.ofString " ") 0 x.length k).isEmpty = true then [x] else partsBetween x (occurrences x (Str.ofString " ") 0 x.length k) (Str.ofString " ").length)).map sg = spl k [] (sg x) := by
  have one : (Str.ofString " ").length = 1 := by decide +kernel
  have k1 : Builtin.Str.strKind (Str.ofString " ") = 1 := by decide +kernel
  have k2 : 1 ≤ Builtin.Str.strKind x := by
    unfold Builtin.Str.strKind
    split
    · decide
    · split <;> decide
  have key := parts_spl (x := x) (sg x) [] [] k (by simp)
  simp only [List.length_nil, Nat.add_zero] at key
  have whole : partsFrom x 1 0 [] = [x] := by
    show [strSub x 0 x.length] = [x]
    congr 1
    apply sg_inj
    rw [sub_sg, ← sg_len]
    simp
  rw [one, k1]
  by_cases h1 : x.length < 1
  · rw [if_pos (by simp; omega)]
    have : sg x = [] := List.eq_nil_of_length_eq_zero (by rw [sg_len]; omega)
    rw [List.map_cons, this]
    rfl
  · rw [if_neg (by simp; omega)]
    rw [sp_is, occ_is]
    by_cases h2 : occL (sg x) 0 k = []
    · rw [if_pos (by rw [h2]; rfl)]
      rw [h2, whole] at key
      exact key
    · rw [if_neg (by simpa using h2), partsBetween_eq]
      exact key
open StrLaws in
theorem splitMax_spl (x : Str) (k : Nat) : (Txt.splitMax x (Str.ofString " ") (k : Int)).map sg = spl k [] (sg x) := by
  have e : limitOf x (k : Int) = k := by
    unfold limitOf
    rw [if_neg (by omega)]
    rfl
  unfold Txt.splitMax
  rw [e]
  exact parts_all x _
theorem split_spl (x : Str) : (Txt.split x (Str.ofString " ")).map sg = spl (x.length + 1) [] (sg x) := by
  unfold Txt.split
  exact parts_all x _
end Nv
namespace Nv
open PySem L2
theorem spl_skip {a : List Nat} (h : ∀ c ∈ a, c ≠ 32) : ∀ (k : Nat) (q r : List Nat), spl k q (a ++ r) = spl k (q ++ a) r := by
  induction a with
  | nil =>
    intro k q r
    simp
  | cons c a ih =>
    intro k q r
    have hc := h c (by simp)
    show spl k q (c :: (a ++ r)) = _
    conv => lhs; unfold spl
    rw [if_neg fun z => hc z.2, ih fun d hd => h d (by simp [hd])]
    simp
theorem spl_one {a : List Nat} (h : ∀ c ∈ a, c ≠ 32) (k : Nat) : spl k [] a = [a] := by
  have := spl_skip h k [] []
  simp only [List.append_nil, List.nil_append] at this
  rw [this]
  rfl
theorem spl_hit {a r : List Nat} (h : ∀ c ∈ a, c ≠ 32) (k : Nat) : spl (k + 1) [] (a ++ 32 :: r) = a :: spl k [] r := by
  rw [spl_skip h]
  conv => lhs; unfold spl
  rw [if_pos ⟨by omega, rfl⟩]
  simp
theorem spl_join : ∀ (ws : List (List Nat)) (t : List Nat) (k : Nat), (∀ a ∈ ws, ∀ c ∈ a, c ≠ 32) → ws.length ≤ k → (k = ws.length ∨ ∀ c ∈ t, c ≠ 32) → spl k [] (joinL (ws ++ [t])) = ws ++ [t]
  | [], t, k, _, _, h => by
    show spl k [] t = [t]
    rcases h with h | h
    · have h : k = 0 := h
      rw [h, spl_zero]
      rfl
    · exact spl_one h k
  | a :: ws, t, k, ha, hk, h => by
    obtain ⟨j, rfl⟩ : ∃ j, k = j + 1 := ⟨k - 1, by simp at hk; omega⟩
    have ih := spl_join ws t j (fun b hb => ha b (by simp [hb])) (by simp at hk; omega) (h.imp (fun h => by simp at h; omega) id)
    obtain ⟨b, l, e⟩ : ∃ b l, ws ++ [t] = b :: l := by
      cases ws with
      | nil => exact ⟨_, _, rfl⟩
      | cons b l => exact ⟨_, _, rfl⟩
    have : joinL (a :: ws ++ [t]) = a ++ 32 :: joinL (ws ++ [t]) := by
      show joinL (a :: (ws ++ [t])) = _
      rw [e]
      rfl
    rw [this, spl_hit (ha a (by simp)), ih]
    rfl
theorem joinL_sg : ∀ ps : List Str, sg (Txt.join (Str.ofString " ") ps) = joinL (ps.map sg)
  | [] => by
    show sg (Builtin.Str.glued (Str.ofString " ") []) = _
    rw [StrLaws.glued_eq_join]
    rfl
  | [a] => by
    show sg (Builtin.Str.glued (Str.ofString " ") [a]) = _
    rw [StrLaws.glued_eq_join]
    rfl
  | a :: b :: r => by
    have ih := joinL_sg (b :: r)
    have e1 : ∀ l, Txt.join (Str.ofString " ") l = Str.join (Str.ofString " ") l := fun l => StrLaws.glued_eq_join _ _
    rw [e1] at ih ⊢
    show sg (a ++ Str.ofString " " ++ Str.join (Str.ofString " ") (b :: r)) = _
    rw [sg_app, sg_app, ih]
    have : sg (Str.ofString " ") = [32] := by decide +kernel
    rw [this]
    simp [joinL]
theorem splitMax_ne (x : Str) (k : Nat) : ∃ a l, Txt.splitMax x (Str.ofString " ") (k : Int) = a :: l := by
  have e := splitMax_spl x k
  obtain ⟨a, l, h⟩ := spl_ne k [] (sg x)
  rw [h] at e
  cases q : Txt.splitMax x (Str.ofString " ") (k : Int) with
  | nil =>
    rw [q] at e
    cases e
  | cons a l => exact ⟨_, _, rfl⟩
/-- a cut off split, by the whole one -/
theorem splitMax_few (x : Str) : Txt.splitMax x (Str.ofString " ") 3 = if (Txt.split x (Str.ofString " ")).length ≤ 3 then Txt.split x (Str.ofString " ") else (Txt.split x (Str.ofString " ")).take 3 ++ [Txt.join (Str.ofString " ") ((Txt.split x (Str.ofString " ")).drop 3)] := by
  have inj : ∀ l m : List Str, l.map sg = m.map sg → l = m := by
    intro l m h
    rw [← map_tx_sg l, ← map_tx_sg m, h]
  apply inj
  have h3 := splitMax_spl x 3
  have hs := split_spl x
  have hl : (Txt.split x (Str.ofString " ")).length = (spl (x.length + 1) [] (sg x)).length := by rw [← hs, List.length_map]
  have big : spl (x.length + 1) [] (sg x) = spl (x.length + 4) [] (sg x) := by
    rw [spl_few (sg x) [] (x.length + 1) (x.length + 4) (by omega)]
    have : ∀ (r q : List Nat) (n : Nat), (spl n q r).length ≤ r.length + 1 := by
      intro r
      induction r with
      | nil => intro q n; simp [spl]
      | cons c r ih =>
        intro q n
        unfold spl
        split
        · have := ih [] (n - 1)
          simp only [List.length_cons]
          omega
        · have := ih (q ++ [c]) n
          simp only [List.length_cons]
          omega
    have := this (sg x) [] (x.length + 4)
    rw [sg_len] at this
    rw [if_pos this]
  have e3 : ((3 : Nat) : Int) = 3 := rfl
  rw [e3] at h3
  rw [h3, spl_few (sg x) [] 3 (x.length + 4) (by omega), ← big, hl]
  by_cases h : (spl (x.length + 1) [] (sg x)).length ≤ 3
  · rw [if_pos h, if_pos h, hs]
  · rw [if_neg h, if_neg h, List.map_append, List.map_take, hs, List.map_cons, joinL_sg, List.map_drop, hs]
    rfl
end Nv

namespace Nv
open PySem L2

/-! values whose text is short, with long numbers -/
structure SB (W D : Nat) (d : PyData) : Prop where
  s : d.leavesShort 1000 = true
  w : d.weight ≤ W
  p : d.depth ≤ D
  h : d.showable = true
structure SBs (W D : Nat) (ds : List PyData) : Prop where
  s : PyData.leavesShortAll 1000 ds = true
  w : PyData.weightAll ds ≤ W
  p : PyData.depthAll ds ≤ D
  h : PyData.showableAll ds = true
theorem SB.len {W D : Nat} {d : PyData} (h : SB W D d) (hw : W ≤ 16000) : d.shown.length ≤ sizeLine := by
  have h1 := PyData.shown_le 1000 (by decide) d h.s
  have h2 : (1000 + 2) * d.weight ≤ (1000 + 2) * 16000 := Nat.mul_le_mul_left _ (Nat.le_trans h.w hw)
  have e : sizeLine = 16777216 := sizeLine_eq
  omega
theorem SB.le {W D W' D' : Nat} {d : PyData} (h : SB W D d) (a : W ≤ W') (b : D ≤ D') : SB W' D' d := ⟨h.s, Nat.le_trans h.w a, Nat.le_trans h.p b, h.h⟩
theorem SB.non {W D : Nat} : SB W D .none := ⟨rfl, Nat.zero_le _, Nat.zero_le _, rfl⟩
theorem SB.bl {W D : Nat} (b : Bool) : SB W D (.bool b) := ⟨rfl, Nat.zero_le _, Nat.zero_le _, rfl⟩
theorem SB.int {D : Nat} {i : Int} (h : i.natAbs < 10 ^ 500) : SB 1921 D (.int i) := by
  have hl := big_log h
  refine ⟨?_, ?_, Nat.zero_le _, ?_⟩
  · have h1 := big_len h
    have h2 : (PyData.shown (.int i)).length ≤ 1000 := by
      simp only [PyData.shown]
      exact Nat.le_trans h1 (by omega)
    simpa only [PyData.leavesShort, decide_eq_true_eq] using h2
  · simp only [PyData.weight]
    split <;> omega
  · simp only [PyData.showable, decide_eq_true_eq]
    omega
theorem SB.str {D : Nat} {z : Str} (a : Asc z) : SB z.length D (.str z) := by
  refine ⟨?_, Nat.le_refl _, Nat.zero_le _, rfl⟩
  simp only [PyData.leavesShort, List.all_eq_true, decide_eq_true_eq]
  exact fun c hc => Nat.lt_of_lt_of_le (a c hc) (by decide)
theorem SB.list {W D : Nat} {ds : List PyData} (h : SBs W D ds) : SB W (D + 1) (.list ds) := by
  refine ⟨?_, ?_, ?_, ?_⟩
  · simpa only [PyData.leavesShort] using h.s
  · simpa only [PyData.weight] using h.w
  · have := h.p
    simp only [PyData.depth]
    omega
  · simpa only [PyData.showable] using h.h
theorem SB.tuple {W D : Nat} {ds : List PyData} (h : SBs W D ds) : SB W (D + 1) (.tuple ds) := by
  refine ⟨?_, ?_, ?_, ?_⟩
  · simpa only [PyData.leavesShort] using h.s
  · simpa only [PyData.weight] using h.w
  · have := h.p
    simp only [PyData.depth]
    omega
  · simpa only [PyData.showable] using h.h
theorem SB.dict1 {W1 W2 D : Nat} {k v : PyData} (a : SB W1 D k) (b : SB W2 D v) : SB (W1 + W2 + 2) (D + 1) (.dict [(k, v)]) := by
  refine ⟨?_, ?_, ?_, ?_⟩
  · simp only [PyData.leavesShort, PyData.leavesShortKv, a.s, b.s, Bool.and_self]
  · have := a.w
    have := b.w
    simp only [PyData.weight, PyData.weightKv]
    omega
  · have := a.p
    have := b.p
    simp only [PyData.depth, PyData.depthKv]
    omega
  · simp only [PyData.showable, PyData.showableKv, a.h, b.h, Bool.and_self]
theorem SBs.nil {W D : Nat} : SBs W D [] := ⟨rfl, Nat.zero_le _, Nat.zero_le _, rfl⟩
theorem SBs.cons {W1 W2 D : Nat} {d : PyData} {ds : List PyData} (a : SB W1 D d) (b : SBs W2 D ds) : SBs (W1 + 1 + W2) D (d :: ds) := by
  refine ⟨?_, ?_, ?_, ?_⟩
  · simp only [PyData.leavesShortAll, a.s, b.s, Bool.and_self]
  · have := a.w
    have := b.w
    simp only [PyData.weightAll]
    omega
  · have := a.p
    have := b.p
    simp only [PyData.depthAll]
    omega
  · simp only [PyData.showableAll, a.h, b.h, Bool.and_self]
theorem SBs.le {W D W' D' : Nat} {d : List PyData} (h : SBs W D d) (a : W ≤ W') (b : D ≤ D') : SBs W' D' d := ⟨h.s, Nat.le_trans h.w a, Nat.le_trans h.p b, h.h⟩
theorem SBs.app {W1 W2 D : Nat} : ∀ {ds es : List PyData}, SBs W1 D ds → SBs W2 D es → SBs (W1 + W2) D (ds ++ es)
  | [], es, a, b => b.le (by omega) (Nat.le_refl _)
  | d :: ds, es, a, b => by
    have h1 := a.s
    have h2 := a.w
    have h3 := a.p
    have h4 := a.h
    simp only [PyData.leavesShortAll, Bool.and_eq_true] at h1
    simp only [PyData.weightAll] at h2
    simp only [PyData.depthAll] at h3
    simp only [PyData.showableAll, Bool.and_eq_true] at h4
    have q : SBs (PyData.weightAll ds) D ds := ⟨h1.2, Nat.le_refl _, by omega, h4.2⟩
    have p : SB (PyData.weight d) D d := ⟨h1.1, Nat.le_refl _, by omega, h4.1⟩
    have r := SBs.cons p (SBs.app q b)
    exact r.le (by omega) (Nat.le_refl _)
theorem r_reprB {H : Hp} {Q : VK} {v : V} {d : PyData} {W D : Nat} (h : DV H v d) (s : SB W D d) (hw : W ≤ 16000) (hd : D ≤ 60) (q : Q (.str d.shown) H) : rReprA [v] H Q :=
  ⟨v, d, rfl, h, s.h, Nat.le_trans s.p hd, s.len hw, fun i e => (by
    have := s.h
    rw [e] at this
    simpa only [PyData.showable, decide_eq_true_eq] using this), q⟩
theorem dp_strs {K : PySem.W.Frag} {H : Hp} : ∀ l : List Str, DpAll K H (l.map V.str) (l.map PyData.str)
  | [] => .nil
  | c :: r => .cons (.str _) (dp_strs r)
theorem strs_ft (l : List Str) (h : ∀ z ∈ l, Asc z) : Fts (wt (l.map sg)) 0 (l.map PyData.str) := by
  have := Fts.strs (D := 0) (ts := l.map sg) (fun t ht c hc => by
    obtain ⟨z, hz, rfl⟩ := List.mem_map.mp ht
    exact h z hz c hc)
  have e : strsD (l.map sg) = l.map PyData.str := by
    unfold strsD
    rw [List.map_map]
    apply List.map_congr_left
    intro z _
    show PyData.str (tx (sg z)) = _
    rw [tx_sg]
  rw [e] at this
  exact this
theorem shaped_strs (l : List Str) (h : ∀ z ∈ l, Asc z) : SeqAt.shaped (.list (l.map PyData.str)) = true := by
  have f := Ft.list (strs_ft l h)
  have d : (PyData.list (l.map PyData.str)).depth ≤ 1 := f.s.p
  unfold SeqAt.shaped
  rw [f.c]
  simp
  omega
theorem eqv_nilS (l : List Str) : PyData.eqv (.list (l.map PyData.str)) (.list []) = l.isEmpty := by
  cases l <;> simp [PyData.eqv, PyData.eqvAll]
theorem r_eq_nil {K : PySem.W.Frag} {H : Hp} {Q : VK} {D p : Addr} {l : List Str} (h : ∀ z ∈ l, Asc z) (hD : H D = some (.lst (l.map V.str))) (hp : H p = some (.lst [])) (q : Q (.bl l.isEmpty) H) : rEqD K (.ref D) (.ref p) H Q :=
  ⟨_, _, .lst (.of hD) (dp_strs l), .lst (.of hp) .nil, shaped_strs l h, by decide, by rw [eqv_nilS]; exact q⟩
theorem r_ne_nil {K : PySem.W.Frag} {H : Hp} {Q : VK} {D p : Addr} {l : List Str} (h : ∀ z ∈ l, Asc z) (hD : H D = some (.lst (l.map V.str))) (hp : H p = some (.lst [])) (q : Q (.bl (!l.isEmpty)) H) : rNeD K (.ref D) (.ref p) H Q :=
  ⟨_, _, .lst (.of hD) (dp_strs l), .lst (.of hp) .nil, shaped_strs l h, by decide, by rw [eqv_nilS]; exact q⟩
theorem cutV_from (xs : List V) (b : Nat) : cutV xs (some (b : Int)) none = xs.drop b := by
  unfold cutV
  rw [HT.sIx_nat]
  simp only [HT.sIx]
  rcases Nat.le_total b xs.length with h | h
  · rw [Nat.min_eq_left h]
    apply List.take_of_length_le
    simp
  · rw [Nat.min_eq_right h, List.drop_eq_nil_of_le h, List.drop_eq_nil_of_le (Nat.le_refl _)]
    simp
theorem join_bound (ps : List Str) (B : Nat) (h : ∀ p ∈ ps, p.length ≤ B) : (ps.map (·.length)).sum ≤ B * ps.length := by
  induction ps with
  | nil => simp
  | cons a r ih =>
    have h1 := ih fun p hp => h p (by simp [hp])
    have h2 := h a (by simp)
    simp only [List.map_cons, List.sum_cons, List.length_cons, Nat.mul_add, Nat.mul_one]
    omega
theorem join_len : ∀ (ps : List Str), (Txt.join (Str.ofString " ") ps).length ≤ (ps.map (·.length)).sum + ps.length
  | [] => by
    have : Txt.join (Str.ofString " ") [] = Str.empty := rfl
    rw [this]
    exact Nat.zero_le _
  | [a] => by
    have : Txt.join (Str.ofString " ") [a] = a := rfl
    rw [this]
    simp
  | a :: b :: r => by
    have ih := join_len (b :: r)
    have e : (Txt.join (Str.ofString " ") (a :: b :: r)).length = a.length + 1 + (Txt.join (Str.ofString " ") (b :: r)).length := by
      rw [← sg_len (Txt.join (Str.ofString " ") (a :: b :: r)), ← sg_len (Txt.join (Str.ofString " ") (b :: r)), joinL_sg, joinL_sg, ← sg_len a]
      simp [joinL]
      omega
    rw [e]
    simp only [List.map_cons, List.sum_cons, List.length_cons] at ih ⊢
    omega
theorem Asc.join {ps : List Str} (h' : ∀ p ∈ ps, Asc p) : Asc (Txt.join (Str.ofString " ") ps) := by
  intro c hc
  have hc : c ∈ sg (Txt.join (Str.ofString " ") ps) := hc
  rw [joinL_sg] at hc
  have : ∀ ls : List (List Nat), c ∈ joinL ls → c = 32 ∨ ∃ l ∈ ls, c ∈ l := by
    intro ls
    induction ls with
    | nil => intro h; cases h
    | cons a r ih =>
      cases r with
      | nil =>
        intro h
        exact .inr ⟨a, by simp, h⟩
      | cons b r =>
        intro h
        have h : c ∈ a ++ 32 :: joinL (b :: r) := h
        rcases List.mem_append.mp h with h | h
        · exact .inr ⟨a, by simp, h⟩
        · rcases List.mem_cons.mp h with h | h
          · exact .inl h
          · rcases ih h with h | ⟨l, hl, h⟩
            · exact .inl h
            · exact .inr ⟨l, by simp only [List.mem_cons] at hl ⊢; exact .inr hl, h⟩
  rcases this _ hc with h | ⟨l, hl, h⟩
  · omega
  · obtain ⟨p, hp, rfl⟩ := List.mem_map.mp hl
    exact h' p hp c h
theorem asc_of {z : Str} (h : (sg z).all (fun c => decide (c < 128)) = true) : Asc z := fun c hc => by
  simpa using List.all_eq_true.mp h c hc
/-! texts of few signs, not too many -/
structure Gd (B : Nat) (z : Str) : Prop where
  a : Asc z
  l : z.length ≤ B
theorem Gd.le {B C : Nat} {z : Str} (h : Gd B z) (k : B ≤ C) : Gd C z := ⟨h.a, Nat.le_trans h.l k⟩
theorem Gd.app {B C : Nat} {x y : Str} (h : Gd B x) (g : Gd C y) : Gd (B + C) (x ++ y) := ⟨h.a.app g.a, by
  rw [append_len]
  exact Nat.add_le_add h.l g.l⟩
theorem Gd.cut {B : Nat} {z : Str} (h : Gd B z) (lo hi : Option Int) : Gd B (cutS z lo hi) := ⟨h.a.cut lo hi, Nat.le_trans (cutS_length z lo hi) h.l⟩
theorem Gd.one {c : Nat} (h : c < 128) : Gd 1 ⟨#[c]⟩ := ⟨Asc.one h, Nat.le_refl _⟩
theorem Gd.fit {B : Nat} {z : Str} (h : Gd B z) (k : B ≤ 16777216) : z.length ≤ sizeLine := by
  rw [sizeLine_eq]
  exact Nat.le_trans h.l k
theorem Gd.upper {B : Nat} {z : Str} (h : Gd B z) : Gd B (Txt.upper z) := by
  rw [PyProof.Rows.upper_ascii h.a]
  refine ⟨fun c hc => ?_, ?_⟩
  · simp only [Array.toList_map, List.mem_map] at hc
    obtain ⟨d, hd, rfl⟩ := hc
    have := h.a d hd
    unfold PyProof.Rows.up1
    split <;> omega
  · have := h.l
    simpa [Str.length] using this
theorem Gd.lower {B : Nat} {z : Str} (h : Gd B z) : Gd B (Txt.lower z) := by
  rw [PyProof.Rows.lower_ascii h.a]
  refine ⟨fun c hc => ?_, ?_⟩
  · simp only [Array.toList_map, List.mem_map] at hc
    obtain ⟨d, hd, rfl⟩ := hc
    have := h.a d hd
    unfold PyProof.Rows.lo1
    split <;> omega
  · have := h.l
    simpa [Str.length] using this
theorem joinL_take : ∀ (l : List (List Nat)) (n : Nat), (joinL (l.take n)).length ≤ (joinL l).length
  | [], n => by simp
  | a :: r, 0 => by simp [joinL]
  | [a], n + 1 => by simp
  | a :: b :: r, n + 1 => by
    have ih := joinL_take (b :: r) n
    cases n with
    | zero => simp [joinL]
    | succ n =>
      rw [List.take_succ_cons, List.take_succ_cons]
      rw [List.take_succ_cons] at ih
      simp only [joinL, List.length_append, List.length_cons]
      omega
/-- the words of a text -/
theorem words_join (z : Str) (n : Nat) : (Txt.join (Str.ofString " ") ((Txt.split z (Str.ofString " ")).take n)).length ≤ z.length := by
  rw [← sg_len, joinL_sg, List.map_take, split_spl]
  refine Nat.le_trans (joinL_take _ _) ?_
  rw [join_spl, List.nil_append, sg_len]
  exact Nat.le_refl _
theorem cutV_but (xs : List V) : cutV xs none (some (-1)) = xs.take (xs.length - 1) := by
  unfold cutV
  have : HT.sIx xs.length xs.length (some (-1)) = xs.length - 1 := by
    unfold HT.sIx
    simp
    omega
  rw [this]
  simp [HT.sIx]
theorem at_last {α : Type} {xs : List α} {y : α} (h : xs.getLast? = some y) : atI xs (-1) = some y := by
  obtain ⟨ys, rfl⟩ := List.getLast?_eq_some_iff.mp h
  have e : ixN (ys ++ [y]).length (-1) = some ys.length := by
    unfold ixN
    rw [if_neg (by decide), if_pos (by rw [List.length_append, List.length_singleton]; omega)]
    congr 1
    rw [List.length_append, List.length_singleton]
    omega
  unfold atI
  rw [e]
  simp
/-! tuples, cut and put together -/
theorem cutV_all {xs : List V} {lo hi : Option Int} (h : HT.sIx xs.length 0 lo = 0 ∧ HT.sIx xs.length xs.length hi = xs.length) : cutV xs lo hi = xs := by
  unfold cutV
  rw [h.1, h.2]
  simp
theorem r_slA {K : PySem.W.Frag} {H : Hp} {Q : VK} {a : Addr} {xs : List V} {lo hi : Option Int} (h : H a = some (.tup xs)) (q : ∀ b H', Same H H' → H' b = some (.tup (cutV xs lo hi)) → Q (.ref b) H') : rSlA K (.ref a) lo hi H Q := by
  refine ⟨a, xs, rfl, .of h, fun w => ?_, fun _ p hp => q p _ (Same.new hp) upd_same⟩
  exact q a H (Same.refl H) (by rw [cutV_all w]; exact h)
theorem r_catA {K : PySem.W.Frag} {H : Hp} {Q : VK} {a b : Addr} {xs ys : List V} (h : H a = some (.tup xs)) (g : H b = some (.tup ys)) (l : xs.length + ys.length ≤ sizeLine) (q : ∀ c H', Same H H' → H' c = some (.tup (xs ++ ys)) → Q (.ref c) H') : rCatA K (.ref a) (.ref b) H Q := by
  refine ⟨a, b, xs, ys, rfl, rfl, .of h, .of g, l, fun e => ?_, fun _ e => ?_, fun _ _ p hp => q p _ (Same.new hp) upd_same⟩
  · exact q b H (Same.refl H) (by rw [e]; exact g)
  · exact q a H (Same.refl H) (by rw [e, List.append_nil]; exact h)
end Nv

namespace Nv
open PySem PySem.Spec PyProof.Rows L2

/-! own exceptions that are made with keywords -/
section
variable {M : Model} {prog : Program} {w : World} {A : Around} {E : Value → Shared → Prop} {R : Result → Shared → Prop} {h : Heap} {g : Array GenState} {d : Drawn} {t : Nat} {os : OsState} {nm q : Str} {C N : Addr} {bs bm bmB : List Value} {hdct : Bool} {sn : List Str}
  {sub : List Value} {ab : Bool} {col : Option Bool} {dd : Option Addr} {k0 k1 k2 k3 k5 : Option Value} {B newId initId : String} {kw : List (Str × Value)}
theorem checkArgs_any {id full short : String} {rc : Manifest.Receiver} {ps : List Manifest.Param} {xs : List Value} : Bind.checkArgs id ⟨.any, full, short, rc, ps⟩ ⟨xs, kw⟩ = Bind.checkArgs id ⟨.any, full, short, rc, ps⟩ ⟨xs, []⟩ := by
  cases kw <;> rfl
theorem check_same (F : ExcBaseFacts B newId initId bmB) {rest : List Value} : checkBuiltinCall newId ⟨.ref C :: rest, kw⟩ = checkBuiltinCall newId ⟨.ref C :: rest, []⟩ := by
  unfold checkBuiltinCall
  simp only [F.newKind, F.newSplit, F.newRow]
  simp only [checkArgs_any (kw := kw)]
theorem check_newK (F : ExcBaseFacts B newId initId bmB) (hb : ∀ X : String, bm.contains (Value.type X) = bmB.contains (Value.type X)) {rest : List Value} {Q : Unit → Shared → Prop} (hC : h.get? C = some (excClassObj nm q C N bs bm hdct sn sub ab col dd k0 k1 k2 k3 k5 newId))
    (hq : Q () ⟨h, g, d, t, os⟩) : wpAny M A (checkBuiltinCall newId ⟨.ref C :: rest, kw⟩) Q E ⟨h, g, d, t, os⟩ := by
  rw [check_same F]
  exact PySem.HandSPX.check_new_own F hb hC hq
theorem new_ownK (F : ExcBaseFacts B newId initId bmB) (hb : ∀ X : String, bm.contains (Value.type X) = bmB.contains (Value.type X)) {rest : List Value} (hC : h.get? C = some (excClassObj nm q C N bs bm hdct sn sub ab col dd k0 k1 k2 k3 k5 newId))
    (hR : R (.ok (.ret (.ref (h.objs.size + 1)))) ⟨(h.push (PySem.W.kdv_tup rest)).push (PySem.HandSPX.excO C h.objs.size), g, d, t, os⟩) (hl : rest.length ≤ sizeLine) :
    codeAny (model prog w) A (Code.builtin newId ⟨.ref C :: rest, kw⟩) R ⟨h, g, d, t, os⟩ := by
  refine codeAny_builtinAt F.entry ?_
  unfold Builtin.«BaseException.__new__»
  refine PySem.wpAt_bind (PySem.wpAt_bind (m := stack) (PySem.wpAt_stack fun p below => ?_))
  have mem : ∀ X : String, (Value.ref C :: bm).contains (Value.type X) = bmB.contains (Value.type X) := fun X => by
    rw [List.contains_cons, hb X]
    rfl
  refine PySem.wpAt_of_wpAny (wpAny_ite_true (decide_eq_true F.ends) (wpAny_pure (PySem.wpAt_of_wpAny ?_)))
  rw [F.owner]
  show wpAny _ _ (isType (Value.ref C) >>= _) _ _ _
  refine wpAny_bind (wpAny_bind (m := loadHead C) (wpAny_loadPart_at hC (wpAny_pure ?_)))
  refine wpAny_ite_false rfl ?_
  refine wpAny_bind (wpAny_isSubtype_exc hC ?_)
  rw [mem, F.hasB]
  refine wpAny_ite_false rfl ?_
  refine wpAny_bind (wpAny_madeHere_exc F.canon hC ?_)
  refine wpAny_bind (wpAny_bind (wpAny_isSubtype_exc hC ?_))
  rw [mem, F.noAttr]
  refine wpAny_ite_false rfl (wpAny_bind (wpAny_isSubtype_exc hC ?_))
  rw [mem, F.noName]
  refine wpAny_ite_false rfl (wpAny_pure ?_)
  show wpAny _ _ (newTuple rest >>= _) _ _ _
  refine wpAny_bind ?_
  have sz : ¬ (rest.toArray.size > sizeLine) := by
    rw [List.size_toArray]
    omega
  show wpAny _ _ (if rest.toArray.size > sizeLine then _ else _) _ _ _
  rw [if_neg sz]
  refine wpAny_bind (wpAny_alloc' (wpAny_pure ?_))
  refine wpAny_bind ?_
  have en : newObj (Value.ref C) (Data.fields (#[Value.ref h.objs.size, Value.none, Value.none, Value.none, Value.bool false, Value.none] ++ (List.replicate 0 (rawInt 0)).toArray)) = newObjAsIs (Value.ref C) (Data.fields (#[Value.ref h.objs.size, Value.none, Value.none, Value.none, Value.bool false, Value.none] ++ (List.replicate 0 (rawInt 0)).toArray)) := by
    unfold newObj
    exact if_neg (by rw [sizeLine_eq]; simp)
  rw [en]
  refine wpAny_bind (wpAny_alloc' ?_)
  refine wpAny_bind (wpAny_bind (wpAny_load' (o := excClassObj nm q C N bs bm hdct sn sub ab col dd k0 k1 k2 k3 k5 newId) (Heap.get?_push_of_some _ (Heap.get?_push_of_some _ hC)) (wpAny_pure ?_)))
  refine wpAny_ite_false rfl (wpAny_pure (wpAny_pure ?_))
  have e : (h.push (PySem.W.kdv_tup rest)).objs.size = h.objs.size + 1 := by simp
  show R (Except.ok (Flow.ret (Value.ref (h.push (PySem.W.kdv_tup rest)).objs.size))) _
  rw [e]
  exact hR
/-- C(..) itself: type.__call__ -/
theorem type_call_ownK (F : ExcBaseFacts B newId initId bmB) (hb : ∀ X : String, bm.contains (Value.type X) = bmB.contains (Value.type X)) {rest : List Value} {fI : Addr} {Q : PySem.Fin → Shared → Prop} (hC : h.get? C = some (excClassObj nm q C N bs bm hdct sn sub ab col dd k0 k1 k2 k3 k5 newId))
    (hi : PySem.W.Looks (model prog w) h (typeLookup (.ref C) (Str.ofString "__init__")) (some (.ref fI))) (hs : ∀ self : Value, PySem.W.Looks (model prog w) h (bindSpecial (.ref fI) self) (.ref fI, [self])) (hl : rest.length ≤ sizeLine)
    (hr : codeAny (model prog w) A (Code.call (.ref fI) ⟨.ref (h.objs.size + 1) :: rest, kw⟩) (fun r s' => match r with
      | .ok (.ret v) => v = Value.none ∧ Q (.done (.ret (.ref (h.objs.size + 1)))) s'
      | .ok _ => False
      | .error e => E e s') ⟨(h.push (PySem.W.kdv_tup rest)).push (PySem.HandSPX.excO C h.objs.size), g, d, t, os⟩) :
    wpAny (model prog w) A (Builtin.«type.__call__» ⟨.ref C :: rest, kw⟩) Q E ⟨h, g, d, t, os⟩ := by
  unfold Builtin.«type.__call__»
  refine wpAny_ite_false rfl ?_
  refine wpAny_bind (wpAny_bind (m := classData C) (wpAny_bind (wpAny_load' hC (wpAny_pure (wpAny_pure ?_)))))
  refine wpAny_ite_false rfl ?_
  refine wpAny_bind (wpAny_madeBy_exc hC ?_)
  have kk : ∀ b o, h.get? b = some o → ((h.push (PySem.W.kdv_tup rest)).push (PySem.HandSPX.excO C h.objs.size)).get? b = some o := fun b o e => Heap.get?_push_of_some _ (Heap.get?_push_of_some _ e)
  have hget : ((h.push (PySem.W.kdv_tup rest)).push (PySem.HandSPX.excO C h.objs.size)).get? (h.objs.size + 1) = some (PySem.HandSPX.excO C h.objs.size) := by heap_get
  refine wpAny_bind (wpAny_pure ?_)
  refine wpAny_bind (wpAny_holding (wpAny_call (codeAny_call_builtin_code (Code.quiet_builtin _ F.toExcCallFacts.quiet) (check_newK F hb hC (new_ownK F hb hC ?_ hl)))))
  refine wpAny_bind (m := isInstance (.ref (h.objs.size + 1)) (.ref C)) (wpAny_bind (m := typeOf _) (wpAny_bind (wpAny_loadPart_at hget (wpAny_pure ?_))))
  refine wpAny_isSubtype_exc (kk _ _ hC) ?_
  have own : (Value.ref C :: bm).contains (Value.ref C) = true := by simp
  rw [own]
  refine wpAny_ite_false rfl ?_
  refine wpAny_bind (wpAny_holding ?_)
  refine wpAny_bind (m := specialOf _ _) (wpAny_bind (m := typeOf _) (wpAny_bind (wpAny_loadPart_at hget (wpAny_pure ?_))))
  refine PySem.W.Looks.at (hi.keeps kk) ?_
  refine wpAny_holding ?_
  refine wpAny_bind (PySem.W.Looks.at ((hs _).keeps kk) ?_)
  refine wpAny_bind (wpAny_call (codeAny_mono hr fun r s' hq => ?_))
  cases r with
  | error er => exact hq
  | ok fl =>
    cases fl with
    | ret u =>
      obtain ⟨e, q⟩ := hq
      subst e
      exact wpAny_pure (wpAny_ite_false rfl (wpAny_pure q))
    | next => exact hq.elim
    | brk => exact hq.elim
    | cont => exact hq.elim
theorem checkArgs_hand {id full short : String} {rc : Manifest.Receiver} {ps : List Manifest.Param} {xs : List Value} : Bind.checkArgs id ⟨.hand, full, short, rc, ps⟩ ⟨xs, kw⟩ = Bind.checkArgs id ⟨.hand, full, short, rc, ps⟩ ⟨xs, []⟩ := by
  cases kw <;> rfl
theorem check_tc {rest : List Value} : checkBuiltinCall "type.__call__" ⟨.ref C :: rest, kw⟩ = checkBuiltinCall "type.__call__" ⟨.ref C :: rest, []⟩ := by
  obtain ⟨full, short, rc, ps, hs⟩ : ∃ full short rc ps, Manifest.signature? "type.__call__" = some ⟨.hand, full, short, rc, ps⟩ := ⟨_, _, _, _, rfl⟩
  unfold checkBuiltinCall
  simp only [tc_kind, tc_split, hs]
  simp only [checkArgs_hand (kw := kw)]
/-- C(.., k=..) -/
theorem call_ownK (F : ExcBaseFacts B newId initId bmB) (hb : ∀ X : String, bm.contains (Value.type X) = bmB.contains (Value.type X)) {rest : List Value} {fI : Addr} (hC : h.get? C = some (excClassObj nm q C N bs bm hdct sn sub ab col dd k0 k1 k2 k3 k5 newId))
    (hi : PySem.W.Looks (model prog w) h (typeLookup (.ref C) (Str.ofString "__init__")) (some (.ref fI))) (hs : ∀ self : Value, PySem.W.Looks (model prog w) h (bindSpecial (.ref fI) self) (.ref fI, [self])) (hl : rest.length ≤ sizeLine)
    (hr : codeAny (model prog w) (A.under (Code.builtin "type.__call__" ⟨.ref C :: rest, kw⟩)) (Code.call (.ref fI) ⟨.ref (h.objs.size + 1) :: rest, kw⟩) (PySem.W.InitBack (h.objs.size + 1) R) ⟨(h.push (PySem.W.kdv_tup rest)).push (PySem.HandSPX.excO C h.objs.size), g, d, t, os⟩) :
    codeAny (model prog w) A (Code.call (.ref C) ⟨rest, kw⟩) R ⟨h, g, d, t, os⟩ := by
  refine codeAny_of_tree ?_
  show wpAny _ _ (callAny (.ref C) ⟨rest, kw⟩) _ _ _
  refine wpAny_bind (m := load C) (wpAny_load' hC ?_)
  have ty : Shared.TypeIs ⟨h, g, d, t, os⟩ (.ref C) "type" := ⟨_, hC, rfl⟩
  refine wpAny_bind (m := specialOf (.ref C) (Str.ofString "__call__")) (wpAny_specialOf ty tc_lookup ?_)
  refine wpAny_bind (m := bindSpecial _ _) (wpAny_of_eq (tc_bind _) (wpAny_pure ?_))
  refine ⟨rfl, ?_⟩
  refine codeAny_call_builtin_at (Code.quiet_builtin _ (by decide +kernel)) entry_typeCall ?_
  show wpAny _ _ (checkBuiltinCall "type.__call__" ⟨.ref C :: rest, kw⟩) _ _ _
  rw [check_tc]
  refine wpAny_check_type_call_sub hC (type_call_ownK F hb hC hi hs hl (codeAny_mono hr fun r s' hq => ?_))
  cases r with
  | error er => exact hq
  | ok fl =>
    cases fl with
    | ret u => exact hq
    | next => exact hq
    | brk => exact hq
    | cont => exact hq
end
end Nv

namespace Nv
open PySem PySem.Spec PyProof.Rows L2

/-! own exceptions as values, made with any arguments -/
/-- what stands of an own error class: at C, its __init__ at fI -/
structure ErrC (K : PySem.W.Frag) (mg : Str → Option Value) (x : Str) (C fI : Addr) : Prop where
  gC : mg x = some (.ref C)
  T : OexC K C
  iC : PySem.W.findIn K (.ref C) "__init__" = some (some (.ref fI))
  tI : PySem.W.typeIn K (.ref fI) = some (.type "function")
  nv : PySem.W.NvCls K C
theorem ErrT.c {K : PySem.W.Frag} {mg : Str → Option Value} {x f : Str} {C fI : Addr} (T : ErrT K mg x f C fI) : ErrC K mg x C fI := ⟨T.gC, T.T, T.iC, T.tI, T.nv⟩
/-- keywords in the order ks, of which π makes the order of the parameters -/
def KwP (fd : FuncData) (ps ks : List Str) (n : Nat) (π : List Value → List Value) : Prop :=
  ∀ us ws : List Value, us.length = n → ws.length = ks.length → bindArgs fd ⟨us, ks.zip ws⟩ = pure (ps.zip (us ++ π ws))
/-- C(..) as a value -/
def tErrG (C : Addr) (sp : Sp) (π : List V → List V) (t : TA) : TE := fun σ H Q => t σ H fun vs H1 => ∀ a, H1 a = none → sp (.ref a :: π vs) (upd H1 a (exo a C none)) (fun w H2 => w = .non ∧ Q (.ref a) H2) (fun _ _ _ => False)
theorem e_errG {C : Addr} {sp : Sp} {π : List V → List V} {t : TA} {σ : L2.St} {H : Hp} {Q : VK} : tErrG C sp π t σ H Q = t σ H (fun vs H1 => ∀ a, H1 a = none → sp (.ref a :: π vs) (upd H1 a (exo a C none)) (fun w H2 => w = .non ∧ Q (.ref a) H2) (fun _ _ _ => False)) := rfl
section
variable {X : Cx} {x : Str} {C fI : Addr} {fd : FuncData} {ps ks : List Str} {sp : Sp} {e : Expr} {es : List Expr} {kws : List Keyword} {p pos : Pos} {t t2 : TA}
theorem run_err {pins : List (Addr × Obj)} {σ : L2.St} {H : Hp} {s : Shared} {Q : VK} {us us2 : List Value} {vs : List V} {kw : List (Str × Value)} (T : ErrC X.K X.mg x C fI) (F1 : FnOk X.prog X.w X.K X.mg X.base CX0 1 fI fd ps sp) (hr : Room 2 X.A)
    (hb : ∀ (s : Shared) (u : Value), X.K.In s.heap → BindsTo s fd ⟨u :: us, kw⟩ (ps.zip (u :: us2))) (I : Inv X pins σ H s) (r : Vals vs us2) (hus : us.length ≤ sizeLine)
    (h : ∀ a, H a = none → sp (.ref a :: vs) (upd H a (exo a C none)) (fun w H2 => w = .non ∧ Q (.ref a) H2) (fun _ _ _ => False)) :
    wpAny (model X.prog X.w) X.A (call (.ref C) us kw) (EP X pins σ Q) X.xe s := by
  obtain ⟨nm, q, N, bs, bm, sn, sub, ab, col, dd, k0, k1, k2, k3, k5, hC, hbm⟩ := T.T.cls
  obtain ⟨hp, g, dr, tk, os⟩ := s
  have hsz : hp.objs.size ≤ hp.objs.size + 1 := Nat.le_succ _
  have hn : H (hp.objs.size + 1) = none := I.hok.fresh hsz
  have kk : ∀ b o, hp.get? b = some o → ((hp.push (PySem.W.kdv_tup us)).push (PySem.HandSPX.excO C hp.objs.size)).get? b = some o := fun b o e => Heap.get?_push_of_some _ (Heap.get?_push_of_some _ e)
  have hget : ((hp.push (PySem.W.kdv_tup us)).push (PySem.HandSPX.excO C hp.objs.size)).get? (hp.objs.size + 1) = some (PySem.HandSPX.excO C hp.objs.size) := by heap_get
  have I2 : Inv X pins σ (upd H (hp.objs.size + 1) (exo (hp.objs.size + 1) C none)) ⟨(hp.push (PySem.W.kdv_tup us)).push (PySem.HandSPX.excO C hp.objs.size), g, dr, tk, os⟩ :=
    I.laid (t' := tk) (a := hp.objs.size + 1) (o := exo (hp.objs.size + 1) C none) (h' := (hp.push (PySem.W.kdv_tup us)).push (PySem.HandSPX.excO C hp.objs.size)) kk hsz (exo_ok hget)
  have r2 : Vals (V.ref (hp.objs.size + 1) :: vs) (Value.ref (hp.objs.size + 1) :: us2) := .cons rfl r
  refine wpAny_call (call_ownK F.excBase_ValueError (fun Y => PySem.HandSPX.refsVE_contains Y bm hbm) (I.kIn _ _ hC) (PySem.W.looks_findIn I.kIn T.iC) (fun self => PySem.W.bind_fn I.kIn self T.tI) hus
    (codeAny_mono (F1.run _ X.stack _ _ ⟨Value.ref (hp.objs.size + 1) :: us, kw⟩ (Value.ref (hp.objs.size + 1) :: us2) _ _ (fun _ _ _ => False) (hr.make C us kw) (I2.env0.make C us kw) (hb _ _ I2.kIn) r2 (h _ hn)) fun r s' hq' => ?_))
  cases r with
  | error er => exact pass0 pins σ _ _ er s' I2 hq'
  | ok fl =>
    cases fl with
    | ret u =>
      obtain ⟨w, H2, J, rv, ew, q2⟩ := I2.after hq'
      subst ew
      exact ⟨rv, .ref (hp.objs.size + 1), H2, J, rfl, q2⟩
    | next => exact False.elim hq'
    | brk => exact False.elim hq'
    | cont => exact False.elim hq'
theorem err_len {us : List Value} {vs : List V} {H : Hp} {Q : VK} {pins : List (Addr × Obj)} {σ : L2.St} {s : Shared} (F1 : FnOk X.prog X.w X.K X.mg X.base CX0 1 fI fd ps sp) (I : Inv X pins σ H s) (r : Vals vs us)
    (h : ∀ a, H a = none → sp (.ref a :: vs) (upd H a (exo a C none)) (fun w H2 => w = .non ∧ Q (.ref a) H2) (fun _ _ _ => False)) : us.length + 1 = ps.length := by
  rw [← r.length]
  exact F1.len _ _ _ _ (h (s.heap.objs.size + 1) (I.hok.fresh (Nat.le_succ _)))
/-- C(e, ..) -/
theorem pe_errP (T : ErrC X.K X.mg x C fI) (F1 : FnOk X.prog X.w X.K X.mg X.base CX0 1 fI fd ps sp) (b : Binds X.K fd ps []) (hr : Room 2 X.A) (hsz : ps.length ≤ 100) (ha : PA X (e :: es) t) (hg : Gl X x := by rfl)
    (hdb : (x == ("__debug__" : Str)) = false := by decide) (he : starEach (e :: es) X.env = (false, eval e X.env) :: starEach es X.env := by rfl) (hpl : (backTo pos (starEach es X.env)).any (·.1) = false := by rfl) :
    PE X (.Call (.Name x p) (e :: es) [] pos) (tErrG C sp (fun vs => vs) t) := by
  refine ⟨fun pins s σ H Q I h => ?_⟩
  refine wpAny_Call_Name_kw (ld_glob I hg T.gC ?_ hdb)
  refine PySem.W.callWith_K (h₀ := X.base) I.ok.mod.kin T.T.kC (thn (ha.run pos pins s σ H _ I h) fun us s1 ⟨vs, H1, I1, r, q⟩ => ⟨I1.kIn, ?_⟩) he hpl
  have ll := err_len F1 I1 r q
  have lz : us.length ≤ sizeLine := by
    rw [sizeLine_eq]
    omega
  refine run_err (us := us) (us2 := us) T F1 hr (fun s u z => ?_) I1 r lz q
  have := b s (u :: us) z (by rw [List.append_nil, List.length_cons, ll])
  rw [List.append_nil] at this
  exact this
/-- C(k=e, ..) -/
theorem pe_errK {π : List V → List V} {ρ : List Value → List Value} (T : ErrC X.K X.mg x C fI) (F1 : FnOk X.prog X.w X.K X.mg X.base CX0 1 fI fd ps sp) (b : KwP fd ps ks 1 ρ) (hlen : ps.length = ks.length + 1) (hπ : ∀ vs us, Vals vs us → Vals (π vs) (ρ us)) (hρ : ∀ us, (ρ us).length = us.length) (hr : Room 2 X.A) (ha : PK X kws t) (hg : Gl X x := by rfl)
    (hall : (backToKw pos (keywordEach kws X.env)).all (·.1.isSome) = true := by rfl) (hks : (backToKw pos (keywordEach kws X.env)).filterMap (·.1) = ks := by rfl)
    (hdb : (x == ("__debug__" : Str)) = false := by decide)
    (hpl : ((backTo pos (starEach [] X.env)).any (·.1) || (backToKw pos (keywordEach kws X.env)).any (·.1.isNone)) = false := by rfl) :
    PE X (.Call (.Name x p) [] kws pos) (tErrG C sp π t) := by
  refine ⟨fun pins s σ H Q I h => ?_⟩
  refine wpAny_Call_Name_kw (ld_glob I hg T.gC ?_ hdb)
  refine PySem.W.callWith_KW0 (h₀ := X.base) I.ok.mod.kin T.T.kC hall ?_ hpl
  refine thn (ha.run pos pins s σ H _ I h) ?_
  intro ws s2 ⟨zs, H2, I2, rz, q2⟩
  refine ⟨I2.kIn, ?_⟩
  rw [hks]
  have ll := err_len F1 I2 (hπ _ _ rz) q2
  rw [hρ] at ll
  refine run_err (us := []) (us2 := ρ ws) T F1 hr (fun s u z => .of_eq (b [u] ws rfl (by omega))) I2 (hπ _ _ rz) (by rw [sizeLine_eq]; decide) q2
/-- C(e, .., k=e2, ..) -/
theorem pe_errM {n : Nat} (T : ErrC X.K X.mg x C fI) (F1 : FnOk X.prog X.w X.K X.mg X.base CX0 1 fI fd ps sp) (b : KwP fd ps ks (n + 1) fun ws => ws) (hlen : ps.length = ks.length + 1 + n) (hn : (e :: es).length = n) (hn2 : n ≤ 100) (hr : Room 2 X.A) (ha : PA X (e :: es) t) (hk : PK X kws t2) (hg : Gl X x := by rfl)
    (hall : (backToKw pos (keywordEach kws X.env)).all (·.1.isSome) = true := by rfl) (hks : (backToKw pos (keywordEach kws X.env)).filterMap (·.1) = ks := by rfl)
    (hdb : (x == ("__debug__" : Str)) = false := by decide)
    (he : starEach (e :: es) X.env = (false, eval e X.env) :: starEach es X.env := by rfl)
    (hpl : ((backTo pos (starEach (e :: es) X.env)).any (·.1) || (backToKw pos (keywordEach kws X.env)).any (·.1.isNone)) = false := by rfl) :
    PE X (.Call (.Name x p) (e :: es) kws pos) (tErrG C sp (fun vs => vs) fun σ H Q => t σ H fun vs H1 => vs.length = n ∧ t2 σ H1 fun ws H2 => Q (vs ++ ws) H2) := by
  refine ⟨fun pins s σ H Q I h => ?_⟩
  refine wpAny_Call_Name_kw (ld_glob I hg T.gC ?_ hdb)
  refine PySem.W.callWith_KW (h₀ := X.base) I.ok.mod.kin T.T.kC hall ?_ hpl he
  refine thn (ha.run pos pins s σ H _ I h) ?_
  intro us s1 ⟨vs, H1, I1, r1, lv, h2⟩
  refine thn (hk.run pos pins s1 σ H1 _ I1 h2) ?_
  intro ws s2 ⟨zs, H2, I2, rz, q2⟩
  refine ⟨I2.kIn, ?_⟩
  rw [hks]
  have lu : us.length = n := by rw [← r1.length]; exact lv
  have rr : Vals (vs ++ zs) (us ++ ws) := Vals.append r1 rz
  have ll := err_len F1 I2 rr q2
  rw [List.length_append] at ll
  refine run_err (us := us) (us2 := us ++ ws) T F1 hr (fun s u z => ?_) I2 rr (by rw [lu, sizeLine_eq]; omega) q2
  exact .of_eq (b (u :: us) ws (by simp [lu]) (by omega))
end
end Nv

namespace Nv
open PySem PySem.Spec PyProof.Rows L2

/-! own exceptions as values: whose class they are, and what they keep -/
/-- an own exception of class C with the attributes fs: in the heap, or caught -/
def ExF (pn : List (Addr × Obj)) (H : Hp) (a C : Addr) (fs : List (Str × V)) : Prop :=
  (∃ d, H a = some (exo a C (some d)) ∧ H d = some (exd d fs)) ∨ (fs = [] ∧ H a = some (exo a C none)) ∨
  (∃ oe d vs, (a, oe) ∈ pn ∧ Zc (.ref C) (some d) oe ∧ oe.data = .fields vs ∧ H d = some (.xd fs)) ∨ (∃ oe vs, fs = [] ∧ (a, oe) ∈ pn ∧ Zc (.ref C) none oe ∧ oe.data = .fields vs)
theorem ExF.same {pn : List (Addr × Obj)} {H H' : Hp} {a C : Addr} {fs : List (Str × V)} (h : ExF pn H a C fs) (s : Same H H') : ExF pn H' a C fs := by
  rcases h with ⟨d, h1, h2⟩ | ⟨e, h1⟩ | ⟨oe, d, vs, h1, h2, h3, h4⟩ | ⟨oe, vs, h⟩
  · exact .inl ⟨d, s _ _ h1, s _ _ h2⟩
  · exact .inr (.inl ⟨e, s _ _ h1⟩)
  · exact .inr (.inr (.inl ⟨oe, d, vs, h1, h2, h3, s _ _ h4⟩))
  · exact .inr (.inr (.inr ⟨oe, vs, h⟩))
theorem exf_inst {X : Cx} {pins : List (Addr × Obj)} {σ : L2.St} {H : Hp} {s : Shared} {a C : Addr} {fs : List (Str × V)} (I : Inv X pins σ H s) (h : ExF X.pn H a C fs) :
    ∃ ox od, PySem.W.InstAt s.heap a ox C od ∧ ∀ n v, fs.lookup n = some v → ∃ o u, od = some o ∧ RelV v u ∧ PySem.W.lookIn n o = some (some u) := by
  have at_ns : ∀ {d : Addr} {mA : Str → Option Value}, s.heap.Ns1 d mA → (∀ f, RelO (fs.lookup f) (mA f)) → ∃ o, s.heap.get? d = some o ∧ ∀ n v, fs.lookup n = some v → ∃ o' u, some o = some o' ∧ RelV v u ∧ PySem.W.lookIn n o' = some (some u) := fun {d mA} ns rel => by
    obtain ⟨od, hod, lk⟩ := lookIn_ns ns
    refine ⟨od, hod, fun n v hl => ?_⟩
    have rn := rel n
    rw [hl] at rn
    obtain ⟨w, ew, rw_⟩ := rn.some_of
    exact ⟨od, w, rfl, rw_, by rw [lk n, ew]⟩
  rcases h with ⟨d, h1, h2⟩ | ⟨e, h1⟩ | ⟨oe, d, vs, h1, ⟨z1, z2⟩, h3, h4⟩ | ⟨oe, vs, e, h1, ⟨z1, z2⟩, h3⟩
  · obtain ⟨t1, ho⟩ := exo_at I.hok h1
    obtain ⟨mA, ns, rel⟩ := exd_at I.hok h2
    obtain ⟨o, go, lk⟩ := at_ns ns rel
    exact ⟨{ cls := .ref C, dict := some d, data := .fields #[.ref t1, .none, .none, .none, .bool false, .none] }, some o, ⟨ho, rfl, rfl, go⟩, lk⟩
  · obtain ⟨t1, ho⟩ := exo_at I.hok h1
    subst e
    exact ⟨{ cls := .ref C, dict := none, data := .fields #[.ref t1, .none, .none, .none, .bool false, .none] }, none, ⟨ho, rfl, rfl, trivial⟩, fun n v hl => by cases hl⟩
  · have P1 := I.pin (a, oe) (List.mem_append_left _ h1)
    obtain ⟨mA, ns, rel⟩ := I.hok _ _ h4
    obtain ⟨o, go, lk⟩ := at_ns ns rel
    refine ⟨oe, some o, ⟨P1.1, z1, ?_, ?_⟩, lk⟩
    · unfold PySem.W.notCls
      rw [h3]
    · rw [z2]
      exact go
  · have P1 := I.pin (a, oe) (List.mem_append_left _ h1)
    subst e
    refine ⟨oe, none, ⟨P1.1, z1, ?_, ?_⟩, fun n v hl => by cases hl⟩
    · unfold PySem.W.notCls
      rw [h3]
    · rw [z2]
      trivial
/-- is an own exception of a class, own or built-in? -/
def rIsiX (K : PySem.W.Frag) (pn : List (Addr × Obj)) : List V → Hp → VK → Prop := fun xs H Q => ∃ (a C : Addr) (fs : List (Str × V)) (c : V) (cv : Value) (b : Bool), xs = [.ref a, c] ∧ ExF pn H a C fs ∧ PySem.W.NvCls K C ∧ ClsV c cv ∧ PySem.W.kitOne K (.ref C) cv = some b ∧ Q (.bl b) H
theorem clsv_val {c : V} {cv u : Value} (h : ClsV c cv) (r : RelV c u) : u = cv := by
  cases h with
  | ty n => exact r
  | own C => exact r
theorem call_isiX {X : Cx} : CallR X (.builtin "isinstance") (rIsiX X.K X.pn) := by
  intro pins s σ H xs us Q I r h
  obtain ⟨a, C, fs, c, cv, b, rfl, ex, n, hc, e, q⟩ := h
  obtain ⟨u1, u2, rfl, r1, r2⟩ := vals2 r
  cases (show u1 = Value.ref a from r1)
  cases clsv_val hc r2
  obtain ⟨ox, od, J, _⟩ := exf_inst I ex
  exact PySem.W.kia_one (PySem.W.nv_kit n) I.kIn ⟨od, J⟩ e (fun z => nomatch z) fun tk => ⟨.bl b, H, I.tok tk, rfl, q⟩
/-- .. of one of some classes -/
def rIsiXT (K : PySem.W.Frag) (pn : List (Addr × Obj)) : List V → Hp → VK → Prop := fun xs H Q => ∃ (a C tp : Addr) (fs : List (Str × V)) (cs : List V) (us : List Value) (b : Bool), xs = [.ref a, .ref tp] ∧ ExF pn H a C fs ∧ PySem.W.NvCls K C ∧ H tp = some (.tup cs) ∧ Paired ClsV cs us ∧ PySem.W.kitAny K (.ref C) us = some b ∧ Q (.bl b) H
theorem call_isiXT {X : Cx} : CallR X (.builtin "isinstance") (rIsiXT X.K X.pn) := by
  intro pins s σ H xs us Q I r h
  obtain ⟨a, C, tp, fs, cs, ks, b, rfl, ex, n, ht, pr, e, q⟩ := h
  obtain ⟨u1, u2, rfl, r1, r2⟩ := vals2 r
  cases (show u1 = Value.ref a from r1)
  cases (show u2 = Value.ref tp from r2)
  obtain ⟨ox, od, J, _⟩ := exf_inst I ex
  obtain ⟨its, r3, ⟨o, e2, o1, m, o3⟩, hl2⟩ := I.tuple (.of ht)
  have es : its = ks := by
    have : ∀ {cs : List V} {ks its : List Value}, Paired ClsV cs ks → Vals cs its → its = ks := by
      intro cs
      induction cs with
      | nil =>
        intro ks its p v
        cases p
        cases v
        rfl
      | cons c cs ih =>
        intro ks its p v
        cases p with
        | cons p1 p2 =>
          cases v with
          | cons v1 v2 => rw [clsv_val p1 v1, ih p2 v2]
    exact this pr r3
  subst es
  obtain ⟨oc, od2, oda, os⟩ := o
  simp only at o1 o3
  subst o1
  subst o3
  exact PySem.W.kia_tup (PySem.W.nv_kit n) I.kIn ⟨od, J⟩ e2 e (fun z => nomatch z) fun tk => ⟨.bl b, H, I.tok tk, rfl, q⟩
/-- an attribute of an own exception -/
def tFldE (K : PySem.W.Frag) (pn : List (Addr × Obj)) (te : TE) (n : Str) : TE := fun σ H Q => te σ H fun x H1 => ∃ (a C : Addr) (fs : List (Str × V)) (v : V), x = .ref a ∧ PySem.W.NvCls K C ∧ PySem.W.findIn K (.ref C) n = some none ∧ ExF pn H1 a C fs ∧ fs.lookup n = some v ∧ Q v H1
theorem e_fldE {K : PySem.W.Frag} {pn : List (Addr × Obj)} {te : TE} {n : Str} {σ : L2.St} {H : Hp} {Q : VK} : tFldE K pn te n σ H Q = te σ H (fun x H1 => ∃ (a C : Addr) (fs : List (Str × V)) (v : V), x = .ref a ∧ PySem.W.NvCls K C ∧ PySem.W.findIn K (.ref C) n = some none ∧ ExF pn H1 a C fs ∧ fs.lookup n = some v ∧ Q v H1) := rfl
theorem pe_fldE {X : Cx} {e : Expr} {n : Str} {pos : Pos} {te : TE} (he : PE X e te) (hb : attributeBase e n X.env (eval e X.env) = eval e X.env := by rfl) : PE X (.Attribute e n pos) (tFldE X.K X.pn te n) := by
  refine ⟨fun pins s σ H Q I h => ?_⟩
  refine attr_of hb (thn (he.run pins s σ H _ I h) ?_)
  rintro u s1 ⟨v0, H1, I1, r, a, C, fs, v, rfl, nv, nf, ex, hl, q⟩
  cases (show u = Value.ref a from r)
  obtain ⟨ox, od, J, lk⟩ := exf_inst I1 ex
  obtain ⟨o, w, rfl, rw_, el⟩ := lk n v hl
  exact PySem.HandSPX.exc_get I1.kIn J nv.ga nv.gt nv.sub (PySem.W.findObj_own nv.dct nf rfl el) (handed_of rw_) ⟨v, H1, I1.tok _, rw_, q⟩

/-! classes of own exceptions: all are made below one, which is below ValueError -/
/-- C is an own error class called nm, right below U -/
structure ErrN (K : PySem.W.Frag) (U C : Addr) (nm : Str) : Prop where
  lk : ∃ q N bs sn sub ab col dd k0 k1 k2 k3 k5, K.lookup C = some (excClassObj nm q C N bs [.ref U, .type "ValueError", .type "Exception", .type "BaseException", .type "object"] true sn sub ab col dd k0 k1 k2 k3 k5 "ValueError.__new__")
  ty : PySem.W.typeIn K (.ref C) = some (.type "type")
theorem ErrN.cls {K : PySem.W.Frag} {U C : Addr} {nm : Str} (h : ErrN K U C nm) : ∃ cd, PySem.W.clsIn K C = some cd ∧ cd.name = nm ∧ cd.mro = [.ref C, .ref U, .type "ValueError", .type "Exception", .type "BaseException", .type "object"] := by
  obtain ⟨q, N, bs, sn, sub, ab, col, dd, k0, k1, k2, k3, k5, e⟩ := h.lk
  unfold PySem.W.clsIn
  rw [e]
  exact ⟨_, rfl, rfl, rfl⟩
theorem ErrN.mro {K : PySem.W.Frag} {U C : Addr} {nm : Str} (h : ErrN K U C nm) (v : Value) : PySem.W.subIn K (.ref C) v = some (([.ref C, .ref U, .type "ValueError", .type "Exception", .type "BaseException", .type "object"] : List Value).contains v) := by
  obtain ⟨cd, e, _, m⟩ := h.cls
  show PySem.W.mroIn K C v = _
  unfold PySem.W.mroIn
  rw [e]
  simp [m]
/-- names tell the classes apart -/
theorem ErrN.inj {K : PySem.W.Frag} {U C D : Addr} {n m : Str} (h : ErrN K U C n) (g : ErrN K U D m) (e : C = D) : n = m := by
  subst e
  obtain ⟨c1, e1, n1, _⟩ := h.cls
  obtain ⟨c2, e2, n2, _⟩ := g.cls
  rw [e1] at e2
  cases e2
  rw [← n1, ← n2]
theorem ErrN.one {K : PySem.W.Frag} {U C D : Addr} {n m : Str} (h : ErrN K U C n) (g : ErrN K U D m) (nu : D ≠ U) (nm : n = m → C = D) : PySem.W.kitOne K (.ref C) (.ref D) = some (decide (n = m)) := by
  by_cases e : C = D
  · have := h.inj g e
    subst e
    rw [decide_eq_true this]
    unfold PySem.W.kitOne
    rw [if_pos (by simp)]
  · rw [decide_eq_false fun q => e (nm q)]
    obtain ⟨cd, e1, _, _⟩ := g.cls
    unfold PySem.W.kitOne
    rw [if_neg (by simpa using e)]
    show (if ((PySem.W.clsIn K D).isSome && PySem.W.typeIn K (.ref D) == some (.type "type")) = true then PySem.W.subIn K (.ref C) (.ref D) else none) = _
    rw [e1, g.ty, if_pos (by rfl), h.mro]
    simp [Ne.symm e, nu]
theorem ErrN.below {K : PySem.W.Frag} {U C : Addr} {n : Str} (h : ErrN K U C n) (cu : (PySem.W.clsIn K U).isSome = true) (tu : PySem.W.typeIn K (.ref U) = some (.type "type")) : PySem.W.kitOne K (.ref C) (.ref U) = some true := by
  unfold PySem.W.kitOne
  split
  · rfl
  · show (if ((PySem.W.clsIn K U).isSome && PySem.W.typeIn K (.ref U) == some (.type "type")) = true then PySem.W.subIn K (.ref C) (.ref U) else none) = _
    rw [cu, tu, if_pos (by rfl), h.mro]
    simp
theorem ErrN.value {K : PySem.W.Frag} {U C : Addr} {n : Str} (h : ErrN K U C n) : PySem.W.kitOne K (.ref C) (.type "ValueError") = some true :=
  kit_type (by decide +kernel) (by
    rw [h.mro]
    simp)
end Nv

namespace Nv
open PySem PySem.Spec PyProof.Rows L2

/-! own exceptions that are raised, made with any arguments -/
/-- a new own exception, raised where nothing is handled: its context is None -/
theorem mk_endN {X : Cx} {pins : List (Addr × Obj)} {σ : L2.St} {H H2 : Hp} {Q : XK} {hp hp2 h2 : Heap} {g g2 : Array GenState} {dr dr2 : Drawn} {tk tk2 : Nat} {os os2 : OsState} {a C d : Addr} {fs : List (Str × V)} (T : Raises X (.ref C)) (I : Inv X pins σ H ⟨hp, g, dr, tk, os⟩) (le : hp.objs.size ≤ a) (kk : ∀ b o, hp.get? b = some o → hp2.get? b = some o)
    (hu : Un (frs X.stack) [] (upd H a (exo a C none)) H2 hp2 h2) (hk : HOk X.prog X.w H2 h2) (ho : os2 = os) (bare : AllBare g2) (e1 : H2 a = some (exo a C (some d))) (e2 : H2 d = some (exd d fs)) (e3 : H d = none) (q : Q (.ref C) (some d) (upd (del H2 a) d (.xd fs))) : L2N.MkP X pins σ Q (.ref a) ⟨h2, g2, dr2, tk2, os2⟩ := by
  obtain ⟨t, G, J, k, free, stands, gone⟩ := mk_end0 (d2 := dr2) (t2 := tk2) I le kk hu hk ho bare e1 e2 e3
  refine ⟨a, _, _, ⟨G, g2, dr2, tk2, os2⟩, _, .ref C, some d, rfl, J, k, free, stands, ⟨rfl, rfl, fun vs e => ?_⟩, rfl, rfl, gone, rfl, bare, T, q⟩
  cases e
  rfl
/-- raise C(..) -/
def tMkG (C : Addr) (sp : Sp) (π : List V → List V) (t : TA) : L2.St → Hp → XK → Prop := fun σ H Q => t σ H fun vs H1 => ∀ a, H1 a = none → sp (.ref a :: π vs) (upd H1 a (exo a C none)) (fun v H2 => v = .non ∧ ∃ d fs, H2 a = some (exo a C (some d)) ∧ H2 d = some (exd d fs) ∧ H1 d = none ∧ Q (.ref C) (some d) (upd (del H2 a) d (.xd fs))) (fun _ _ _ => False)
section
variable {X : Cx} {x : Str} {C fI : Addr} {fd : FuncData} {ps ks : List Str} {sp : Sp} {e : Expr} {es : List Expr} {kws : List Keyword} {p pos : Pos} {t t2 : TA}
theorem run_mk {pins : List (Addr × Obj)} {σ : L2.St} {H : Hp} {s : Shared} {Q : XK} {us us2 : List Value} {vs : List V} {kw : List (Str × Value)} (T : ErrC X.K X.mg x C fI) (F1 : FnOk X.prog X.w X.K X.mg X.base CX0 1 fI fd ps sp) (hr : Room 2 X.A)
    (hb : ∀ (s : Shared) (u : Value), X.K.In s.heap → BindsTo s fd ⟨u :: us, kw⟩ (ps.zip (u :: us2))) (I : Inv X pins σ H s) (r : Vals vs us2) (hus : us.length ≤ sizeLine)
    (h : ∀ a, H a = none → sp (.ref a :: vs) (upd H a (exo a C none)) (fun v H2 => v = .non ∧ ∃ d fs, H2 a = some (exo a C (some d)) ∧ H2 d = some (exd d fs) ∧ H d = none ∧ Q (.ref C) (some d) (upd (del H2 a) d (.xd fs))) (fun _ _ _ => False)) :
    wpAny (model X.prog X.w) X.A (call (.ref C) us kw) (L2N.MkP X pins σ Q) X.xe s := by
  obtain ⟨nm, q, N, bs, bm, sn, sub, ab, col, dd, k0, k1, k2, k3, k5, hC, hbm⟩ := T.T.cls
  obtain ⟨hp, g, dr, tk, os⟩ := s
  have hsz : hp.objs.size ≤ hp.objs.size + 1 := Nat.le_succ _
  have hn : H (hp.objs.size + 1) = none := I.hok.fresh hsz
  have kk : ∀ b o, hp.get? b = some o → ((hp.push (PySem.W.kdv_tup us)).push (PySem.HandSPX.excO C hp.objs.size)).get? b = some o := fun b o e => Heap.get?_push_of_some _ (Heap.get?_push_of_some _ e)
  have hget : ((hp.push (PySem.W.kdv_tup us)).push (PySem.HandSPX.excO C hp.objs.size)).get? (hp.objs.size + 1) = some (PySem.HandSPX.excO C hp.objs.size) := by heap_get
  have I2 : Inv X pins σ (upd H (hp.objs.size + 1) (exo (hp.objs.size + 1) C none)) ⟨(hp.push (PySem.W.kdv_tup us)).push (PySem.HandSPX.excO C hp.objs.size), g, dr, tk, os⟩ :=
    I.laid (t' := tk) (a := hp.objs.size + 1) (o := exo (hp.objs.size + 1) C none) (h' := (hp.push (PySem.W.kdv_tup us)).push (PySem.HandSPX.excO C hp.objs.size)) kk hsz (exo_ok hget)
  have r2 : Vals (V.ref (hp.objs.size + 1) :: vs) (Value.ref (hp.objs.size + 1) :: us2) := .cons rfl r
  refine wpAny_call (call_ownK F.excBase_ValueError (fun Y => PySem.HandSPX.refsVE_contains Y bm hbm) (I.kIn _ _ hC) (PySem.W.looks_findIn I.kIn T.iC) (fun self => PySem.W.bind_fn I.kIn self T.tI) hus
    (codeAny_mono (F1.run _ X.stack _ _ ⟨Value.ref (hp.objs.size + 1) :: us, kw⟩ (Value.ref (hp.objs.size + 1) :: us2) _ _ (fun _ _ _ => False) (hr.make C us kw) (I2.env0.make C us kw) (hb _ _ I2.kIn) r2 (h _ hn)) fun r s' hq' => ?_))
  cases r with
  | error er => exact (pass0 pins σ _ _ er s' I2 hq' : _)
  | ok fl =>
    cases fl with
    | ret u =>
      obtain ⟨v, H2, ho, hb2, hu, hk, rv, ev, dx, fs, e1, e2, e3, q2⟩ := hq'
      subst ev
      refine ⟨rv, ?_⟩
      obtain ⟨hp', g', dr', tk', os'⟩ := s'
      exact mk_endN (raises_own T.T.exC T.T.tyC) I hsz kk hu hk ho hb2 e1 e2 e3 q2
    | next => exact False.elim hq'
    | brk => exact False.elim hq'
    | cont => exact False.elim hq'
theorem mk_len {us : List Value} {vs : List V} {H : Hp} {Q : V → Hp → Prop} {pins : List (Addr × Obj)} {σ : L2.St} {s : Shared} (F1 : FnOk X.prog X.w X.K X.mg X.base CX0 1 fI fd ps sp) (I : Inv X pins σ H s) (r : Vals vs us)
    (h : ∀ a, H a = none → ∃ Qa : VK, sp (.ref a :: vs) (upd H a (exo a C none)) Qa (fun _ _ _ => False)) : us.length + 1 = ps.length := by
  rw [← r.length]
  obtain ⟨Qa, z⟩ := h (s.heap.objs.size + 1) (I.hok.fresh (Nat.le_succ _))
  exact F1.len _ _ _ _ z
/-- raise C(e, ..) -/
theorem pmk_errP (T : ErrC X.K X.mg x C fI) (F1 : FnOk X.prog X.w X.K X.mg X.base CX0 1 fI fd ps sp) (b : Binds X.K fd ps []) (hr : Room 2 X.A) (hsz : ps.length ≤ 100) (ha : PA X (e :: es) t) (hg : Gl X x := by rfl)
    (hdb : (x == ("__debug__" : Str)) = false := by decide) (he : starEach (e :: es) X.env = (false, eval e X.env) :: starEach es X.env := by rfl) (hpl : (backTo pos (starEach es X.env)).any (·.1) = false := by rfl) :
    L2N.PMk X (.Call (.Name x p) (e :: es) [] pos) (tMkG C sp (fun vs => vs) t) := by
  intro pins s σ H Q I h
  refine wpAny_Call_Name_kw (ld_glob I hg T.gC ?_ hdb)
  refine PySem.W.callWith_K (h₀ := X.base) I.ok.mod.kin T.T.kC (thn (ha.run pos pins s σ H _ I h) fun us s1 ⟨vs, H1, I1, r, q⟩ => ⟨I1.kIn, ?_⟩) he hpl
  have ll := mk_len (C := C) (Q := fun _ _ => True) F1 I1 r fun a n => ⟨_, q a n⟩
  have lz : us.length ≤ sizeLine := by
    rw [sizeLine_eq]
    omega
  refine run_mk (us := us) (us2 := us) T F1 hr (fun s u z => ?_) I1 r lz q
  have := b s (u :: us) z (by rw [List.append_nil, List.length_cons, ll])
  rw [List.append_nil] at this
  exact this
/-- raise C(k=e, ..) -/
theorem pmk_errK {π : List V → List V} {ρ : List Value → List Value} (T : ErrC X.K X.mg x C fI) (F1 : FnOk X.prog X.w X.K X.mg X.base CX0 1 fI fd ps sp) (b : KwP fd ps ks 1 ρ) (hlen : ps.length = ks.length + 1) (hπ : ∀ vs us, Vals vs us → Vals (π vs) (ρ us)) (hρ : ∀ us, (ρ us).length = us.length) (hr : Room 2 X.A) (ha : PK X kws t) (hg : Gl X x := by rfl)
    (hall : (backToKw pos (keywordEach kws X.env)).all (·.1.isSome) = true := by rfl) (hks : (backToKw pos (keywordEach kws X.env)).filterMap (·.1) = ks := by rfl)
    (hdb : (x == ("__debug__" : Str)) = false := by decide)
    (hpl : ((backTo pos (starEach [] X.env)).any (·.1) || (backToKw pos (keywordEach kws X.env)).any (·.1.isNone)) = false := by rfl) :
    L2N.PMk X (.Call (.Name x p) [] kws pos) (tMkG C sp π t) := by
  intro pins s σ H Q I h
  refine wpAny_Call_Name_kw (ld_glob I hg T.gC ?_ hdb)
  refine PySem.W.callWith_KW0 (h₀ := X.base) I.ok.mod.kin T.T.kC hall ?_ hpl
  refine thn (ha.run pos pins s σ H _ I h) ?_
  intro ws s2 ⟨zs, H2, I2, rz, q2⟩
  refine ⟨I2.kIn, ?_⟩
  rw [hks]
  have ll := mk_len (C := C) (Q := fun _ _ => True) F1 I2 (hπ _ _ rz) fun a n => ⟨_, q2 a n⟩
  rw [hρ] at ll
  exact run_mk (us := []) (us2 := ρ ws) T F1 hr (fun s u z => .of_eq (b [u] ws rfl (by omega))) I2 (hπ _ _ rz) (by rw [sizeLine_eq]; decide) q2
end
/-! the two orders of two keywords -/
theorem vals_rev : ∀ {vs : List V} {us : List Value}, Vals vs us → Vals vs.reverse us.reverse
  | _, _, .nil => .nil
  | _, _, .cons a r => by
    rw [List.reverse_cons, List.reverse_cons]
    exact Vals.append (vals_rev r) (.cons a .nil)
/-- an own error's __init__ that keeps two things -/
def spXI2 (K : PySem.W.Frag) (f1 f2 : Str) : Sp := fun vs H Q _ => ∃ (a C : Addr) (v1 v2 : V), vs = [.ref a, v1, v2] ∧ OexC K C ∧ PySem.W.findIn K (.ref C) f1 = some none ∧ PySem.W.findIn K (.ref C) f2 = some none ∧
  H a = some (exo a C none) ∧ ∀ dx, H dx = none → dx ≠ a → Q .non (upd (upd H a (exo a C (some dx))) dx (exd dx [(f2, v2), (f1, v1)]))
section
variable {P : Program} {w : World} {K : PySem.W.Frag} {mg : Str → Option Value} {base : Heap}
theorem ok_xi2 {qual f1 f2 : Str} {st : Stmt} {fI : Addr} {fd : FuncData} {p1 p2 p3 p4 p5 p6 p7 p8 : Pos} (F : Fun K "__init__" qual st fI fd) (S : FnScope ["self", f1, f2] ["self", f1, f2] (defScope st))
    (hb : defBody st = [.Assign [.Attribute (.Name "self" p1) f1 p2] (.Name f1 p3) p4, .Assign [.Attribute (.Name "self" p5) f2 p6] (.Name f2 p7) p8])
    (hd1 : (f1 == ("__debug__" : Str)) = false) (hc1 : (f1 == ("__classdict__" : Str)) = false) (hd2 : (f2 == ("__debug__" : Str)) = false) (hc2 : (f2 == ("__classdict__" : Str)) = false) :
    FnOk P w K mg base CX0 1 fI fd ["self", f1, f2] (spXI2 K f1 f2) := by
  refine F.ok S (fun vs H Q E h => ?_) (fun cdv A outer s H vs Q E hr h => ?_)
  · obtain ⟨a, C, v1, v2, rfl, _⟩ := h
    rfl
  · obtain ⟨a, C, v1, v2, rfl, T, hn1, hn2, he, q⟩ := h
    have v0 : ∀ f ∈ ([("self" : Str), f1, f2] : List Str), Vis (defScope st) f := fun f m => by
      rcases S.par f m with z | z
      · exact .inl z
      · exact .inr (.inl z)
    rw [hb]
    refine ⟨_, pss_cons (ps_ost (pe_var (i := 0) rfl (v0 "self" (by simp))) (pe_var (i := 1) rfl (v0 f1 (by simp)) hd1 hc1) rfl) (pss_one (ps_ost (pe_var (i := 0) rfl (v0 "self" (by simp))) (pe_var (i := 2) rfl (v0 f2 (by simp)) hd2 hc2) rfl)), ?_⟩
    refine ⟨_, rfl, _, rfl, a, C, rfl, T, hn1, .inl ⟨he, fun dx h1 h2 => ?_⟩⟩
    refine ⟨_, rfl, _, rfl, a, C, rfl, T, hn2, .inr ⟨dx, [(f1, v1)], upd_same, ?_, by simp, ?_⟩⟩
    · rw [upd_ne h2, upd_same]
    · have e : upd (upd (upd H dx (exd dx [(f1, v1)])) a (exo a C (some dx))) dx (exd dx [(f2, v2), (f1, v1)]) = upd (upd H a (exo a C (some dx))) dx (exd dx [(f2, v2), (f1, v1)]) := by
        funext b
        by_cases g : b = dx
        · subst g
          rw [upd_same, upd_same]
        · rw [upd_ne g, upd_ne g]
          by_cases g2 : b = a
          · subst g2
            rw [upd_same, upd_same]
          · rw [upd_ne g2, upd_ne g2, upd_ne g]
      rw [e]
      exact q dx h1 h2
end
end Nv

namespace Nv
open PySem PySem.Spec PyProof.Rows L2

/-! a def that is called within an except suite, is told of the caught exception, and lets nothing out -/
open L2H in
structure FnGP (P : Program) (w : World) (K : PySem.W.Frag) (mg : Str → Option Value) (base : Heap) (k : Nat)
    (f : Addr) (fd : FuncData) (ps : List Str) (sp : Addr × Obj → Sp) : Prop where
  len : ∀ p vs H Q E, sp p vs H Q E → vs.length = ps.length
  run : ∀ (A : Around) (outer : List Env) (s : Shared) (H : Hp) (args : Args) (us : List Value) (vs : List V) (Q : VK) (E : XK) (p : Addr × Obj),
    A.guards = some [] → Hot1 A p → RoomH k A → PinOk outer H s p → Env0 P w K mg base A outer s H → BindsTo s fd args (ps.zip us) → Vals vs us →
    sp p vs H Q E → codeAny (model P w) A (.call (.ref f) args) (CR CX0 outer P w H s Q E) s
open L2H in
theorem okGP {P : Program} {w : World} {K : PySem.W.Frag} {mg : Str → Option Value} {base : Heap} {k : Nat} {f : Addr} {fd : FuncData} {ps : List Str} {sp : Addr × Obj → Sp} {x qual : Str} {st : Stmt} {N : List Str}
    (F : Fun K x qual st f fd) (S : FnScope N ps (defScope st)) (len : ∀ p vs H Q E, sp p vs H Q E → vs.length = ps.length)
    (body : ∀ (cdv : Value) (A : Around) (outer : List Env) (s : Shared) (H : Hp) (vs : List V) (Q : VK) (E : XK) (p : Addr × Obj),
      A.guards = some [] → Hot1 A p → RoomH k (A.deeper (envOfC qual (defScope st) s.heap.objs.size f cdv)) → sp p vs H Q E →
      ∃ t, PSs (cxH CX0 P w K mg base N qual (defScope st) f cdv A outer s H E p) (defBody st) t ∧
        t { nx := fun _ H' => Q .non H', rt := Q } (start N vs) H) :
    FnGP P w K mg base (k + 1) f fd ps sp := by
  obtain ⟨oc, od, kV, doc, pm, an, cdv, ct, osl, rfl, lk, hcd⟩ := F.ex
  refine ⟨len, ?_⟩
  intro A outer s H args us vs Q E p hg hot hr pin e0 hb r hsp
  have hl := len _ _ _ _ _ hsp
  have stays : ∀ b o, base.get? b = some o → s.heap.get? b = some o := fun b o e => (e0.bs b o e).1
  have KX : K.In s.heap := e0.mod.kin.keeps stays
  have kinds : ∀ y ∈ ps.zip us, (defScope st).names.lookup y.1 = some .local ∨
      ((defScope st).names.lookup y.1 = some .cell ∧
        ((cellsFrom (s.heap.objs.size + 1) (defScope st).names []).lookup y.1).isSome = true) := by
    intro y hy
    rcases S.par y.1 (List.of_mem_zip (a := y.1) (b := y.2) hy).1 with q | q
    · exact Or.inl q
    · exact Or.inr ⟨q, PySem.W.cellsFrom_some _ _ _ (Or.inl q)⟩
  refine codeAny_call_function hr.depth (KX _ _ lk) rfl S.co S.gen rfl (PySem.W.codeRec_of KX hcd) (hb _ _ _ _ ?_)
  refine wpAny_newFunctionEnv_cells S.kind kinds ?_
  intro env he s1 x
  subst he
  refine ⟨(e0.mod.nolimit.keeps stays).keeps x.toInCall.keep, codeAny_func ?_⟩
  obtain ⟨t, ht, hq⟩ := body cdv A outer s H vs Q E p hg hot (hr.deeper _) hsp
  have I := inv_startH (CX := CX0) (E := E) S pin e0 hl r x
  refine wpAny_mono (ht.run [] s1 (start N vs) H _ I hq) ?_ (fun _ _ z => z)
  intro fl s' hs
  have fin : ∀ {σ' : L2.St} {H' : Hp} {v : V} {u : Value},
      Inv (cxH CX0 P w K mg base N qual (defScope st) f cdv A outer s H E p) [] σ' H' s' → RelV v u → Q v H' →
      CE outer P w H s Q u s' := fun {σ' H' v u} J rv q => ⟨v, H', J.os, J.bare, J.base, J.hok, rv, q⟩
  cases fl with
  | next => obtain ⟨_, _, J, q⟩ := hs; exact fin (v := V.non) (u := Value.none) J rfl q
  | ret u => obtain ⟨_, _, _, J, rv, q⟩ := hs; exact fin J rv q
  | brk => obtain ⟨_, _, _, q⟩ := hs; exact q.elim
  | cont => obtain ⟨_, _, _, q⟩ := hs; exact q.elim
open L2H in
theorem pe_cGP {X : Cx} {W : WX} {k : Nat} {f : Addr} {fd : FuncData} {ps : List Str} {sp : Addr × Obj → Sp} {x : Str} {q pos : Pos} {e : Expr} {es : List Expr} {t : TA} {p : Addr × Obj}
    (F : FnGP X.prog X.w X.K X.mg X.base k f fd ps sp) (b : Pos1 fd ps) (hG : X.A.guards = some []) (hot : Hot1 X.A p) (hr : RoomH k X.A) (hp : p ∈ X.pn)
    (hm : X.mg x = some (.ref f)) (hk : PySem.W.keepIn X.K (.ref f) = true) (ha : PA X (e :: es) t) (hg : Gl X x := by rfl)
    (hdb : (x == ("__debug__" : Str)) = false := by decide) (he : starEach (e :: es) X.env = (false, eval e X.env) :: starEach es X.env := by rfl)
    (hpl : (backTo pos (starEach es X.env)).any (·.1) = false := by rfl) : PE X (.Call (.Name x q) (e :: es) [] pos) (tCG (sp p) W t) := by
  constructor
  intro pins s σ H Q I h
  refine wpAny_Call_Name_kw (ld_glob I hg hm ?_ hdb)
  refine PySem.W.callWith_K (h₀ := X.base) I.ok.mod.kin hk (thn (ha.run pos pins s σ H _ I h) ?_) he hpl
  intro us s1 ⟨vs, H1, I1, r, h2⟩
  refine ⟨I1.kIn, ?_⟩
  have P1 := I1.pin p (List.mem_append_left _ hp)
  have hpin : PinOk X.stack H1 s1 p := ⟨P1.1, P1.2.1, fun hm => (List.mem_cons.mp (I1.stkSub p.1 hm)).elim P1.2.2.1 P1.2.2.2.1, P1.2.2.2.2⟩
  have hl : us.length = ps.length := by
    rw [← r.length]
    exact F.len _ _ _ _ _ h2
  refine wpAny_call (codeAny_mono (F.run X.A X.stack s1 H1 ⟨us, []⟩ us vs Q (WE W σ) p hG hot hr hpin I1.env0 (.of_eq (b _ hl)) r h2) ?_)
  intro r s' hq
  cases r with
  | error er => exact (pass0 pins σ _ _ er s' I1 hq)
  | ok fl =>
    cases fl with
    | ret u => exact I1.after hq
    | next => exact hq.elim
    | brk => exact hq.elim
    | cont => exact hq.elim
end Nv

namespace Nv
open PySem PySem.Spec PyProof.Rows L2

/-! an own exception without an __init__ of its own, made with nothing -/
section
variable {X : Cx} {x : Str} {C : Addr} {B newId initId : String} {bmB : List Value} {p pos : Pos}
theorem pe_err0 (F : ExcBaseFacts B newId initId bmB) (q : PySem.W.excIn X.K C bmB newId = true) (gC : X.mg x = some (.ref C)) (kC : PySem.W.keepIn X.K (.ref C) = true) (hg : Gl X x := by rfl) (hdb : (x == ("__debug__" : Str)) = false := by decide) :
    PE X (.Call (.Name x p) [] [] pos) (fun σ H Q => ∀ a, H a = none → Q (.ref a) (upd H a (exo a C none))) := by
  refine ⟨fun pins s σ H Q I h => ?_⟩
  refine wpAny_Call_Name_kw (ld_glob I hg gC ?_ hdb)
  refine PySem.W.callWith_K0 I.kIn kC ?_
  obtain ⟨bm, N, nm, qn, bs, hdct, sn, sub, ab, col, dd, k0, k1, k2, k3, k5, mN, hC, hN, hi, ot⟩ := exc_obj I.kIn q
  obtain ⟨hp, g, dr, tk, os⟩ := s
  refine wpAny_call_exc_subT F ot hC hN hi (fun h' e m => ?_)
  obtain ⟨t, ht, _, _⟩ := m.there
  exact ⟨.ref e, _, I.laidN m.keeps m.new (I.hok.gone m.new) (exo_ok ht), rfl, h e (I.hok.gone m.new)⟩
theorem pmk_err0 (F : ExcBaseFacts B newId initId bmB) (q : PySem.W.excIn X.K C bmB newId = true) (gC : X.mg x = some (.ref C)) (kC : PySem.W.keepIn X.K (.ref C) = true) (r : Raises X (.ref C)) (hg : Gl X x := by rfl) (hdb : (x == ("__debug__" : Str)) = false := by decide) :
    L2N.PMk X (.Call (.Name x p) [] [] pos) (fun _ H Q => Q (.ref C) none H) := by
  intro pins s σ H Q I h
  refine wpAny_Call_Name_kw (ld_glob I hg gC ?_ hdb)
  refine PySem.W.callWith_K0 I.kIn kC ?_
  obtain ⟨bm, N, nm, qn, bs, hdct, sn, sub, ab, col, dd, k0, k1, k2, k3, k5, mN, hC, hN, hi, ot⟩ := exc_obj I.kIn q
  obtain ⟨hp, g, dr, tk, os⟩ := s
  exact wpAny_call_exc_subT F ot hC hN hi (fun h' e m => L2N.mk_of I m r h (I.hok.gone m.new))
end
end Nv

namespace Nv
open PySem PySem.Spec PyProof.Rows L2

/-! xs != ys of equal lists that may hold dicts -/
theorem items_at {M : Model} {A : Around} {E : Value → Shared → Prop} {h : Heap} {g : Array GenState} {d : Drawn} {t : Nat} {os : OsState} {l : Addr} {items : Array Value} {n : Nat} {dd : Option Addr} {sl : Array (Option Value)} {Q : Array Value → Shared → Prop}
    (hl : h.get? l = some { cls := .type "list", dict := dd, data := .seq items n, slots := sl }) (q : Q items ⟨h, g, d, t, os⟩) : wpAny M A (Builtin.List.listItems (.ref l)) Q E ⟨h, g, d, t, os⟩ :=
  wpAny_bind (m := seqItems? (.ref l)) (wpAny_bind (m := load l) (wpAny_load' hl (wpAny_pure (wpAny_pure q))))
theorem ne_loop {prog : Program} {w : World} {l b : Addr} {items items2 : Array Value} {n n2 : Nat} {dd dd2 : Option Addr} {sl sl2 : Array (Option Value)} {A : Around} {R : Result → Shared → Prop} {s : Shared}
    (hl : s.heap.get? l = some { cls := .type "list", dict := dd, data := .seq items n, slots := sl }) (hb : s.heap.get? b = some { cls := .type "list", dict := dd2, data := .seq items2 n2, slots := sl2 }) (hs : items.size = items2.size)
    (he : ∀ (j : Nat) (h1 : j < items.size) (h2 : j < items2.size), SeqAt.EqP prog w A.in1 s items[j] items2[j] true) (hR : R (.ok (.ret (.bool false))) s) :
    ∀ (m j : Nat), j + m = items.size → codeAny (model prog w) A (Code.builtin "list.__eq__.loop" ⟨[.ref l, .ref b, rawInt (j : Int), rawInt 3], []⟩) R s := by
  obtain ⟨hp, g, d, t, os⟩ := s
  intro m
  induction m with
  | zero =>
    intro j hj
    refine codeAny_builtin MeetsSeq3.entry_eq_loop ?_
    rw [Around.under_plainId MeetsSeq3.plain_eq_loop]
    refine wpAny_bind (m := Builtin.List.listItems (.ref l)) (items_at hl ?_)
    refine wpAny_bind (m := Builtin.List.listItems (.ref b)) (items_at hb ?_)
    have e1 : items[(j : Int).toNat]? = none := by
      rw [Int.toNat_natCast]
      exact Array.getElem?_eq_none (by omega)
    have e2 : items2[(j : Int).toNat]? = none := by
      rw [Int.toNat_natCast]
      exact Array.getElem?_eq_none (by omega)
    rw [e1, e2]
    refine wpAny_bind (m := Builtin.List.listItems (.ref l)) (items_at hl ?_)
    refine wpAny_bind (m := Builtin.List.listItems (.ref b)) (items_at hb ?_)
    refine wpAny_pure ?_
    rw [hs]
    show R (.ok (.ret (.bool (items2.size != items2.size)))) _
    rw [bne_self_eq_false]
    exact hR
  | succ m ih =>
    intro j hj
    refine codeAny_builtin MeetsSeq3.entry_eq_loop ?_
    rw [Around.under_plainId MeetsSeq3.plain_eq_loop]
    refine wpAny_bind (m := Builtin.List.listItems (.ref l)) (items_at hl ?_)
    refine wpAny_bind (m := Builtin.List.listItems (.ref b)) (items_at hb ?_)
    have h1 : j < items.size := by omega
    have h2 : j < items2.size := by omega
    have e1 : items[(j : Int).toNat]? = some items[j] := by
      rw [Int.toNat_natCast]
      exact Array.getElem?_eq_getElem h1
    have e2 : items2[(j : Int).toNat]? = some items2[j] := by
      rw [Int.toNat_natCast]
      exact Array.getElem?_eq_getElem h2
    rw [e1, e2]
    refine wpAny_bind (m := eqBool _ _) (he j h1 h2 _ _ ?_)
    refine wpAny_ite_true rfl ?_
    refine wpAny_pure ⟨Code.quiet_builtin _ (by decide +kernel), ?_⟩
    exact ih (j + 1) (by omega)
theorem list_neIn {prog : Program} {w : World} {l b : Addr} {items items2 : Array Value} {n n2 : Nat} {dd dd2 : Option Addr} {sl sl2 : Array (Option Value)} (hs : items.size = items2.size) :
    MeetsIn prog w (Builtin.«list.__ne__» ⟨[.ref l, .ref b], []⟩) fun A R s =>
      s.heap.get? l = some { cls := .type "list", dict := dd, data := .seq items n, slots := sl } ∧ s.heap.get? b = some { cls := .type "list", dict := dd2, data := .seq items2 n2, slots := sl2 } ∧
      (∀ (j : Nat) (h1 : j < items.size) (h2 : j < items2.size), SeqAt.EqP prog w A.in1 s items[j] items2[j] true) ∧ R (.ok (.ret (.bool false))) s := by
  rintro A R s ⟨hl, hb, he, hR⟩
  have key := ne_loop hl hb hs he hR items.size 0 (by omega)
  obtain ⟨hp, g, d, t, os⟩ := s
  unfold Builtin.«list.__ne__»
  refine wpAny_bind (m := slotArgs "__ne__" 1 ⟨[.ref l, .ref b], []⟩) (wpAny_of_eq (show slotArgs "__ne__" 1 ⟨[.ref l, .ref b], []⟩ = pure (.ref l, [.ref b]) from rfl) ?_)
  refine wpAny_bind (m := isInstance (.ref b) (.type "list")) (wpAny_bind (m := typeOf (.ref b)) (wpAny_bind (wpAny_loadPart_at hb (wpAny_pure (wpAny_of_eq AutoSeq1.sub_list_list ?_)))))
  refine wpAny_ite_false rfl ?_
  refine wpAny_ite_true rfl ?_
  refine wpAny_bind (m := Builtin.List.listItems (.ref l)) (items_at hl ?_)
  refine wpAny_bind (m := Builtin.List.listItems (.ref b)) (items_at hb ?_)
  refine wpAny_ite_false (by rw [hs]; simp) ?_
  exact wpAny_pure ⟨Code.quiet_builtin _ (by decide +kernel), key⟩
theorem rc_ne_lists {prog : Program} {w : World} {A : Around} {s : Shared} {l b : Addr} {items items2 : Array Value} {E Q : Value → Shared → Prop} (hl : s.heap.IsList l items) (hb : s.heap.IsList b items2) (hs : items.size = items2.size) (hu : A.units < cLine)
    (he : ∀ (j : Nat) (h1 : j < items.size) (h2 : j < items2.size), SeqAt.EqP prog w A.in1 s items[j] items2[j] true) (hq : Q (.bool false) s) : wpAny (model prog w) A (richCompare .NotEq (.ref l) (.ref b)) Q E s := by
  obtain ⟨o1, e1, c1, n1, d1⟩ := hl
  obtain ⟨o2, e2, c2, n2, d2⟩ := hb
  obtain ⟨oc1, od1, oda1, os1⟩ := o1
  obtain ⟨oc2, od2, oda2, os2⟩ := o2
  simp only at c1 c2 d1 d2
  subst c1
  subst c2
  subst d1
  subst d2
  have t1 : s.TypeIs (.ref l) "list" := ⟨_, e1, rfl⟩
  have t2 : s.TypeIs (.ref b) "list" := ⟨_, e2, rfl⟩
  refine wpAny_richCompare_same_room t1 t2 F.slot_list_ne ?_ hu
  refine call_meetsIn F.slot_list_ne t1 F.entry_list_ne (F.args_list_ne_2 _ _) (list_neIn hs) ⟨e1, e2, he, ?_⟩
  exact ⟨nofun, hq⟩
/-- x != y, equal lists whose items are equal in turn, dicts among them -/
def rNeV (K : PySem.W.Frag) : R2 := fun x y H Q => ∃ n a b xs ys, n ≤ 60 ∧ x = .ref a ∧ y = .ref b ∧ SqL K H a xs ∧ SqL K H b ys ∧ Paired (EqV K H n) xs ys ∧ Q (.bl false) H
theorem op_neV {X : Cx} (hu : X.A.units + 64 < cLine) : OpR X (compareOp .NotEq) (rNeV X.K) := by
  intro pins s σ H x y v u Q I rx ry h
  obtain ⟨n, a, b, xs, ys, hn, rfl, rfl, ha, hb, hp, q⟩ := h
  cases (show v = Value.ref a from rx)
  cases (show u = Value.ref b from ry)
  obtain ⟨us, r1, p1, l1⟩ := I.list ha
  obtain ⟨ws, r2, p2, l2⟩ := I.list hb
  have el : xs.length = ys.length := hp.length
  have e1 := r1.length
  have e2 := r2.length
  refine rc_ne_lists p1.isList p2.isList (by rw [List.size_toArray, List.size_toArray]; omega) (by omega) (fun j h1 h2 => ?_) ⟨.bl false, H, I, rfl, q⟩
  have := items_run (P := X.prog) (w := X.w) (A := X.A.in1) (s := s) (F := EqV X.K H n) (fun x y v u e rx ry => eqV_run I n X.A.in1 (by show X.A.units + 1 + n < cLine; omega) x y v u e rx ry) hp r1 r2 j (by simpa using h1) (by simpa using h2)
  simpa using this
end Nv

namespace Nv
open PySem PySem.Spec PyProof.Rows L2

/-! xs[::-1], a list -/
def tBack (K : PySem.W.Frag) (te ts : TE) : TE := fun σ H Q => te σ H fun x H1 => ts σ H1 fun y H2 => y = .int (-1) ∧ ∃ a xs, x = .ref a ∧ SqL K H2 a xs ∧ ∀ q, H2 q = none → Q (.ref q) (upd H2 q (.lst xs.reverse))
theorem e_back {K : PySem.W.Frag} {te ts : TE} {σ : L2.St} {H : Hp} {Q : VK} : tBack K te ts σ H Q = te σ H (fun x H1 => ts σ H1 fun y H2 => y = .int (-1) ∧ ∃ a xs, x = .ref a ∧ SqL K H2 a xs ∧ ∀ q, H2 q = none → Q (.ref q) (upd H2 q (.lst xs.reverse))) := rfl
theorem pe_back {X : Cx} {e st : Expr} {te ts : TE} {pos p2 : Pos} (he : PE X e te) (hs : PE X st ts) (hp : evalPart (some st) X.env = eval st X.env := by rfl) : PE X (.Subscript e (.Slice none none (some st) p2) pos) (tBack X.K te ts) := by
  refine ⟨fun pins s σ H Q I h => ?_⟩
  refine Subscript_ (thn (he.run pins s σ H _ I h) ?_)
  rintro v s1 ⟨x, H1, I1, r1, q1⟩
  refine wpAny_Slice ?_
  rw [evalPart_none]
  refine wpAny_pure ?_
  rw [hp]
  refine wpAny_pure (thn (hs.run pins s1 σ H1 _ I1 q1) ?_)
  rintro u s2 ⟨y, H2, I2, r2, rfl, a, xs, rfl, ha, k⟩
  cases (show v = Value.ref a from r1)
  obtain ⟨t, rfl⟩ : ∃ t, u = Value.int (-1) t := r2
  obtain ⟨us, ru, pl, hl⟩ := I2.list ha
  obtain ⟨hp2, g, d, tk, os⟩ := s2
  have kk : ∀ b o, hp2.get? b = some o → (hp2.push { cls := Value.type "slice", data := Data.fields #[Value.none, Value.none, Value.int (-1) t] }).get? b = some o := fun b o e => Heap.get?_push_of_some _ e
  have I4 := I2.kept (t' := tk) kk
  obtain ⟨us4, ru4, pl4, hl4⟩ := I4.list ha
  have sz : us4.toArray.size ≤ sizeLine := by
    rw [List.size_toArray, ← ru4.length]
    exact hl4
  refine tail_any (Heap.IsList.typeIs pl4.isList) (Slot.lookup slot_list_getitem) ?_ rfl
  refine wpAny_getItem_list_slice pl4.isList (Heap.IsSliceOf.new hp2 _ _ _) .none .none (.int (-1) t) (by decide) ?_ sz
  rw [PySem.W.krv_pick]
  have hn : H2 (hp2.push { cls := Value.type "slice", data := Data.fields #[Value.none, Value.none, Value.int (-1) t] }).objs.size = none := I4.hok.fresh (Nat.le_refl _)
  have rr : Vals xs.reverse us4.reverse := vals_rev ru4
  refine ⟨.ref _, _, I4.laid (t' := tk) (fun b u e => Heap.get?_push_of_some _ e) (Nat.le_refl _) (o := .lst xs.reverse) ?_, rfl, k _ hn⟩
  refine ⟨by rw [List.length_reverse]; exact hl4, us4.reverse, 0, rr, Heap.get?_push_size _ rfl⟩
end Nv

namespace Nv
open PySem PySem.Spec PyProof.Rows L2

/-! many own error classes, each with one or two things that it keeps -/
theorem pe_imp {X : Cx} {e : Expr} {t t' : TE} (h : PE X e t) (i : ∀ σ H Q, t' σ H Q → t σ H Q) : PE X e t' := ⟨fun pins s σ H Q I q => h.run pins s σ H Q I (i _ _ _ q)⟩
theorem pa_imp {X : Cx} {es : List Expr} {t t' : TA} (h : PA X es t) (i : ∀ σ H Q, t' σ H Q → t σ H Q) : PA X es t' := ⟨fun pos pins s σ H Q I q => h.run pos pins s σ H Q I (i _ _ _ q)⟩
theorem pa_anyA {X : Cx} {es : List Expr} {t : TA} (h : PA X es t) : PA X es (fun σ H Q => ∃ R : List V → Hp → Prop, t σ H R ∧ ∀ vs H1, R vs H1 → Q vs H1) :=
  ⟨fun pos pins s σ H Q I ⟨R, q, k⟩ => thn (h.run pos pins s σ H R I q) fun us s1 ⟨vs, H1, I1, r, z⟩ => ⟨vs, H1, I1, r, k vs H1 z⟩⟩
theorem pk_anyA {X : Cx} {es : List Keyword} {t : TA} (h : PK X es t) : PK X es (fun σ H Q => ∃ R : List V → Hp → Prop, t σ H R ∧ ∀ vs H1, R vs H1 → Q vs H1) :=
  ⟨fun pos pins s σ H Q I ⟨R, q, k⟩ => thn (h.run pos pins s σ H R I q) fun us s1 ⟨vs, H1, I1, r, z⟩ => ⟨vs, H1, I1, r, k vs H1 z⟩⟩
/-- an own error class x at C, right below U, whose __init__ keeps f -/
structure E1 (K : PySem.W.Frag) (mg : Str → Option Value) (U : Addr) (x f : Str) (C : Addr) : Prop where
  c : ∃ fI fd, ErrC K mg x C fI ∧ (∀ (P : Program) (w : World) (base : Heap), FnOk P w K mg base CX0 1 fI fd ["self", f] (spXI K f)) ∧ Binds K fd ["self", f] [] ∧ KwP fd ["self", f] [f] 1 (fun ws => ws)
  nf : PySem.W.findIn K (.ref C) f = some none
  n : ErrN K U C x
/-- .. keeps f1 and f2 -/
structure E2 (K : PySem.W.Frag) (mg : Str → Option Value) (U : Addr) (x f1 f2 : Str) (C : Addr) : Prop where
  c : ∃ fI fd, ErrC K mg x C fI ∧ (∀ (P : Program) (w : World) (base : Heap), FnOk P w K mg base CX0 1 fI fd ["self", f1, f2] (spXI2 K f1 f2)) ∧ Binds K fd ["self", f1, f2] [] ∧
    KwP fd ["self", f1, f2] [f1, f2] 1 (fun ws => ws) ∧ KwP fd ["self", f1, f2] [f2, f1] 1 List.reverse ∧ KwP fd ["self", f1, f2] [f2] 2 (fun ws => ws)
  nf1 : PySem.W.findIn K (.ref C) f1 = some none
  nf2 : PySem.W.findIn K (.ref C) f2 = some none
  n : ErrN K U C x
section
variable {K : PySem.W.Frag} {mg : Str → Option Value} {U C : Addr} {x f f1 f2 : Str}
theorem E1.nv (E : E1 K mg U x f C) : PySem.W.NvCls K C := by
  obtain ⟨_, _, c, _⟩ := E.c
  exact c.nv
theorem E1.gC (E : E1 K mg U x f C) : mg x = some (.ref C) := by
  obtain ⟨_, _, c, _⟩ := E.c
  exact c.gC
theorem E2.nv (E : E2 K mg U x f1 f2 C) : PySem.W.NvCls K C := by
  obtain ⟨_, _, c, _⟩ := E.c
  exact c.nv
theorem E2.gC (E : E2 K mg U x f1 f2 C) : mg x = some (.ref C) := by
  obtain ⟨_, _, c, _⟩ := E.c
  exact c.gC
end
/-- C(e) -/
def tE1 (C : Addr) (f : Str) (te : TE) : TE := fun σ H Q => te σ H fun v H1 => ∀ a H2, Same H1 H2 → H1 a = none → ExF [] H2 a C [(f, v)] → Q (.ref a) H2
def tE2 (C : Addr) (f1 f2 : Str) (π : List V → List V) (t : TA) : TE := fun σ H Q => t σ H fun vs H1 => ∃ v1 v2, π vs = [v1, v2] ∧ ∀ a H2, Same H1 H2 → H1 a = none → ExF [] H2 a C [(f2, v2), (f1, v1)] → Q (.ref a) H2
theorem e_E1 {C : Addr} {f : Str} {te : TE} {σ : L2.St} {H : Hp} {Q : VK} : tE1 C f te σ H Q = te σ H (fun v H1 => ∀ a H2, Same H1 H2 → H1 a = none → ExF [] H2 a C [(f, v)] → Q (.ref a) H2) := rfl
theorem e_E2 {C : Addr} {f1 f2 : Str} {π : List V → List V} {t : TA} {σ : L2.St} {H : Hp} {Q : VK} : tE2 C f1 f2 π t σ H Q = t σ H (fun vs H1 => ∃ v1 v2, π vs = [v1, v2] ∧ ∀ a H2, Same H1 H2 → H1 a = none → ExF [] H2 a C [(f2, v2), (f1, v1)] → Q (.ref a) H2) := rfl
theorem made1 {H1 : Hp} {a dx C : Addr} {f : Str} {v : V} (na : H1 a = none) (h1 : upd H1 a (exo a C none) dx = none) (h2 : dx ≠ a) :
    Same H1 (upd (upd (upd H1 a (exo a C none)) dx (exd dx [(f, v)])) a (exo a C (some dx))) ∧ ExF [] (upd (upd (upd H1 a (exo a C none)) dx (exd dx [(f, v)])) a (exo a C (some dx))) a C [(f, v)] := by
  rw [upd_ne h2] at h1
  refine ⟨fun b o hb => ?_, .inl ⟨dx, upd_same, ?_⟩⟩
  · have nb := ne_of_none hb na
    have nd := ne_of_none hb h1
    rw [upd_ne nb, upd_ne nd, upd_ne nb]
    exact hb
  · rw [upd_ne h2, upd_same]
theorem made2 {H1 : Hp} {a dx C : Addr} {fs : List (Str × V)} (na : H1 a = none) (h1 : upd H1 a (exo a C none) dx = none) (h2 : dx ≠ a) :
    Same H1 (upd (upd (upd H1 a (exo a C none)) a (exo a C (some dx))) dx (exd dx fs)) ∧ ExF [] (upd (upd (upd H1 a (exo a C none)) a (exo a C (some dx))) dx (exd dx fs)) a C fs := by
  rw [upd_ne h2] at h1
  refine ⟨fun b o hb => ?_, .inl ⟨dx, ?_, upd_same⟩⟩
  · have nb := ne_of_none hb na
    have nd := ne_of_none hb h1
    rw [upd_ne nd, upd_ne nb, upd_ne nb]
    exact hb
  · rw [upd_ne (Ne.symm h2), upd_same]
section
variable {X : Cx} {x f f1 f2 : Str} {C U : Addr} {e e2 : Expr} {es : List Expr} {te : TE} {t t2 : TA} {p pos kpos kpos2 : Pos} {i : Nat} {L : List (Str × Addr)}
theorem pe_E1p (E : E1 X.K X.mg U x f C) (hr : Room 2 X.A) (he : PE X e te) (hg : Gl X x := by rfl)
    (hdb : (x == ("__debug__" : Str)) = false := by decide) (hs : starEach (e :: []) X.env = (false, eval e X.env) :: starEach [] X.env := by rfl) (hpl : (backTo pos (starEach [] X.env)).any (·.1) = false := by rfl) :
    PE X (.Call (.Name x p) [e] [] pos) (tE1 C f te) := by
  obtain ⟨fI, fd, T, F1, b, _⟩ := E.c
  refine pe_imp (pe_errP T (F1 X.prog X.w X.base) b hr (by show 2 ≤ 100; decide) (pa_any he hs) hg hdb hs hpl) ?_
  intro σ H Q h
  refine ⟨_, h, fun v H1 k a na => ⟨a, C, v, rfl, T.T, E.nf, upd_same, fun dx h1 h2 => ⟨rfl, ?_⟩⟩⟩
  obtain ⟨s, m⟩ := made1 (C := C) (f := f) (v := v) na h1 h2
  exact k a _ s na m
theorem pk_any1 {nm : Option Str} (he : PE X e te) : PK X [⟨nm, e, kpos⟩] (fun σ H Q => ∃ R : V → Hp → Prop, te σ H R ∧ ∀ v H1, R v H1 → Q [v] H1) := by
  constructor
  intro pos pins s σ H Q I ⟨R, h, k⟩
  have he2 : PE X e (fun σ' H' Q' => te σ' H' R ∧ ∀ v H1, R v H1 → Q' v H1) := by
    constructor
    intro pins s σ H Q I ⟨h1, h2⟩
    exact thn (he.run pins s σ H R I h1) fun u s1 ⟨v, H1, I1, r, q⟩ => ⟨v, H1, I1, r, h2 v H1 q⟩
  exact (pk_cons he2 pk_nil).run pos pins s σ H Q I ⟨h, fun v H1 q => k v H1 q⟩
theorem pe_E1k (E : E1 X.K X.mg U x f C) (hr : Room 2 X.A) (he : PE X e te) (hg : Gl X x := by rfl)
    (hall : (backToKw pos (keywordEach [⟨some f, e, kpos⟩] X.env)).all (·.1.isSome) = true := by rfl) (hks : (backToKw pos (keywordEach [⟨some f, e, kpos⟩] X.env)).filterMap (·.1) = [f] := by rfl)
    (hdb : (x == ("__debug__" : Str)) = false := by decide)
    (hpl : ((backTo pos (starEach [] X.env)).any (·.1) || (backToKw pos (keywordEach [⟨some f, e, kpos⟩] X.env)).any (·.1.isNone)) = false := by rfl) :
    PE X (.Call (.Name x p) [] [⟨some f, e, kpos⟩] pos) (tE1 C f te) := by
  obtain ⟨fI, fd, T, F1, b, kb⟩ := E.c
  refine pe_imp (pe_errK (π := fun vs => vs) (ρ := fun vs => vs) T (F1 X.prog X.w X.base) kb rfl (fun _ _ r => r) (fun _ => rfl) hr (pk_any1 he) hg hall hks hdb hpl) ?_
  intro σ H Q h
  refine ⟨_, h, fun v H1 k a na => ⟨a, C, v, rfl, T.T, E.nf, upd_same, fun dx h1 h2 => ⟨rfl, ?_⟩⟩⟩
  obtain ⟨s, m⟩ := made1 (C := C) (f := f) (v := v) na h1 h2
  exact k a _ s na m
theorem pe_E2p (E : E2 X.K X.mg U x f1 f2 C) (hr : Room 2 X.A) (ha : PA X (e :: es) t) (hg : Gl X x := by rfl)
    (hdb : (x == ("__debug__" : Str)) = false := by decide) (he : starEach (e :: es) X.env = (false, eval e X.env) :: starEach es X.env := by rfl) (hpl : (backTo pos (starEach es X.env)).any (·.1) = false := by rfl) :
    PE X (.Call (.Name x p) (e :: es) [] pos) (tE2 C f1 f2 (fun vs => vs) t) := by
  obtain ⟨fI, fd, T, F1, b, _⟩ := E.c
  refine pe_imp (pe_errP T (F1 X.prog X.w X.base) b hr (by show 3 ≤ 100; decide) (pa_anyA ha) hg hdb he hpl) ?_
  intro σ H Q h
  refine ⟨_, h, fun vs H1 ⟨v1, v2, ev, k⟩ a na => ⟨a, C, v1, v2, by rw [ev], T.T, E.nf1, E.nf2, upd_same, fun dx h1 h2 => ⟨rfl, ?_⟩⟩⟩
  obtain ⟨s, m⟩ := made2 (C := C) (fs := [(f2, v2), (f1, v1)]) na h1 h2
  exact k a _ s na m
theorem pe_E2k {kws : List Keyword} (E : E2 X.K X.mg U x f1 f2 C) (hr : Room 2 X.A) (hk : PK X kws t) (hg : Gl X x := by rfl)
    (hall : (backToKw pos (keywordEach kws X.env)).all (·.1.isSome) = true := by rfl) (hks : (backToKw pos (keywordEach kws X.env)).filterMap (·.1) = [f1, f2] := by rfl)
    (hdb : (x == ("__debug__" : Str)) = false := by decide)
    (hpl : ((backTo pos (starEach [] X.env)).any (·.1) || (backToKw pos (keywordEach kws X.env)).any (·.1.isNone)) = false := by rfl) :
    PE X (.Call (.Name x p) [] kws pos) (tE2 C f1 f2 (fun vs => vs) t) := by
  obtain ⟨fI, fd, T, F1, b, kb, _⟩ := E.c
  refine pe_imp (pe_errK (π := fun vs => vs) (ρ := fun vs => vs) T (F1 X.prog X.w X.base) kb rfl (fun _ _ r => r) (fun _ => rfl) hr (pk_anyA hk) hg hall hks hdb hpl) ?_
  intro σ H Q h
  refine ⟨_, h, fun vs H1 ⟨v1, v2, ev, k⟩ a na => ⟨a, C, v1, v2, by rw [ev], T.T, E.nf1, E.nf2, upd_same, fun dx h1 h2 => ⟨rfl, ?_⟩⟩⟩
  obtain ⟨s, m⟩ := made2 (C := C) (fs := [(f2, v2), (f1, v1)]) na h1 h2
  exact k a _ s na m
theorem pe_E2r {kws : List Keyword} (E : E2 X.K X.mg U x f1 f2 C) (hr : Room 2 X.A) (hk : PK X kws t) (hg : Gl X x := by rfl)
    (hall : (backToKw pos (keywordEach kws X.env)).all (·.1.isSome) = true := by rfl) (hks : (backToKw pos (keywordEach kws X.env)).filterMap (·.1) = [f2, f1] := by rfl)
    (hdb : (x == ("__debug__" : Str)) = false := by decide)
    (hpl : ((backTo pos (starEach [] X.env)).any (·.1) || (backToKw pos (keywordEach kws X.env)).any (·.1.isNone)) = false := by rfl) :
    PE X (.Call (.Name x p) [] kws pos) (tE2 C f1 f2 List.reverse t) := by
  obtain ⟨fI, fd, T, F1, b, _, kb, _⟩ := E.c
  refine pe_imp (pe_errK (π := List.reverse) (ρ := List.reverse) T (F1 X.prog X.w X.base) kb rfl (fun _ _ r => vals_rev r) (fun _ => by simp) hr (pk_anyA hk) hg hall hks hdb hpl) ?_
  intro σ H Q h
  refine ⟨_, h, fun vs H1 ⟨v1, v2, ev, k⟩ a na => ⟨a, C, v1, v2, by rw [ev], T.T, E.nf1, E.nf2, upd_same, fun dx h1 h2 => ⟨rfl, ?_⟩⟩⟩
  obtain ⟨s, m⟩ := made2 (C := C) (fs := [(f2, v2), (f1, v1)]) na h1 h2
  exact k a _ s na m
theorem pe_E2m (E : E2 X.K X.mg U x f1 f2 C) (hr : Room 2 X.A) (ha : PE X e (tVar i)) {j : Nat} (hk : PE X e2 (tVar j)) (hg : Gl X x := by rfl)
    (hall : (backToKw pos (keywordEach [⟨some f2, e2, kpos⟩] X.env)).all (·.1.isSome) = true := by rfl) (hks : (backToKw pos (keywordEach [⟨some f2, e2, kpos⟩] X.env)).filterMap (·.1) = [f2] := by rfl)
    (hdb : (x == ("__debug__" : Str)) = false := by decide)
    (he : starEach (e :: []) X.env = (false, eval e X.env) :: starEach [] X.env := by rfl)
    (hpl : ((backTo pos (starEach (e :: []) X.env)).any (·.1) || (backToKw pos (keywordEach [⟨some f2, e2, kpos⟩] X.env)).any (·.1.isNone)) = false := by rfl) :
    PE X (.Call (.Name x p) [e] [⟨some f2, e2, kpos⟩] pos) (tE2 C f1 f2 (fun vs => vs) (tCons (tVar i) (tCons (tVar j) tNil))) := by
  obtain ⟨fI, fd, T, F1, b, _, _, kb⟩ := E.c
  refine pe_imp (pe_errM (n := 1) T (F1 X.prog X.w X.base) kb rfl rfl (by decide) hr (pa_cons ha pa_nil he) (pk_cons hk pk_nil) hg hall hks hdb he hpl) ?_
  rintro σ H Q ⟨v1, g1, v2, g2, w1, w2, ev, k⟩
  cases ev
  refine ⟨v1, g1, rfl, v2, g2, fun a na => ⟨a, C, v1, v2, rfl, T.T, E.nf1, E.nf2, upd_same, fun dx h1 h2 => ⟨rfl, ?_⟩⟩⟩
  obtain ⟨s, m⟩ := made2 (C := C) (fs := [(f2, v2), (f1, v1)]) na h1 h2
  exact k a _ s na m
end
/-! displays of errors that keep one thing -/
def EsIn (H : Hp) (v : V) (L : List (Str × Addr)) (es : List V) : Prop := Paired (fun e (fc : Str × Addr) => ∃ a, e = V.ref a ∧ ExF [] H a fc.2 [(fc.1, v)]) es L
theorem paired_same {α β : Type} {R S : α → β → Prop} (h : ∀ a b, R a b → S a b) : ∀ {xs : List α} {ys : List β}, Paired R xs ys → Paired S xs ys
  | _, _, .nil => .nil
  | _, _, .cons a r => .cons (h _ _ a) (paired_same h r)
theorem paired_app {α β : Type} {R : α → β → Prop} : ∀ {xs : List α} {ys : List β} {xs2 : List α} {ys2 : List β}, Paired R xs ys → Paired R xs2 ys2 → Paired R (xs ++ xs2) (ys ++ ys2)
  | _, _, _, _, .nil, h => h
  | _, _, _, _, .cons a r, h => .cons a (paired_app r h)
theorem paired_at {α β : Type} {R : α → β → Prop} : ∀ {xs : List α} {ys : List β}, Paired R xs ys → ∀ (i : Nat) (y : β), ys[i]? = some y → ∃ x, xs[i]? = some x ∧ R x y
  | _, _, .nil, _, _, h => by simp at h
  | _, _, .cons a r, 0, y, h => by
    simp at h
    subst h
    exact ⟨_, rfl, a⟩
  | _, _, .cons a r, i + 1, y, h => by
    obtain ⟨x, hx, hr⟩ := paired_at r i y (by simpa using h)
    exact ⟨x, by simpa using hx, hr⟩
theorem EsIn.same {H H' : Hp} {v : V} {L : List (Str × Addr)} {es : List V} (h : EsIn H v L es) (s : Same H H') : EsIn H' v L es := paired_same (fun _ _ ⟨a, e, x⟩ => ⟨a, e, x.same s⟩) h
theorem EsIn.app {H : Hp} {v : V} {L L2 : List (Str × Addr)} {es es2 : List V} (h : EsIn H v L es) (g : EsIn H v L2 es2) : EsIn H v (L ++ L2) (es ++ es2) := paired_app h g
theorem EsIn.len {H : Hp} {v : V} {L : List (Str × Addr)} {es : List V} (h : EsIn H v L es) : es.length = L.length := Paired.length h
def tErrs (i : Nat) (L : List (Str × Addr)) : TA := fun σ H Q => ∃ v, σ[i]? = some (some v) ∧ ∀ es H2, Same H H2 → EsIn H2 v L es → Q es H2
theorem e_errs {i : Nat} {L : List (Str × Addr)} {σ : L2.St} {H : Hp} {Q : List V → Hp → Prop} : tErrs i L σ H Q = ∃ v, σ[i]? = some (some v) ∧ ∀ es H2, Same H H2 → EsIn H2 v L es → Q es H2 := rfl
section
variable {X : Cx} {x f m : Str} {C D U : Addr} {e : Expr} {es : List Expr} {t : TA} {p pos kpos : Pos} {i : Nat} {L : List (Str × Addr)}
theorem pa_E0 : PA X [] (tErrs i []) := pa_imp pa_nil fun σ H Q ⟨v, _, k⟩ => k [] H (Same.refl H) .nil
theorem pa_E1 (h : PE X e (tE1 C f (tVar i))) (r : PA X es (tErrs i L)) (hs : starEach (e :: es) X.env = (false, eval e X.env) :: starEach es X.env := by rfl) : PA X (e :: es) (tErrs i ((f, C) :: L)) :=
  pa_imp (pa_cons h r hs) fun σ H Q ⟨v, g, k⟩ => ⟨v, g, fun a H2 S na x => ⟨v, g, fun es H3 S3 z => k (.ref a :: es) H3 (S.trans S3) (.cons ⟨a, rfl, x.same S3⟩ z)⟩⟩

/-! of which classes? -/
/-- the classes, by name: their names are theirs alone -/
def tSorts (K : PySem.W.Frag) (pn : List (Addr × Obj)) (U : Addr) (i : Nat) (L : List (Str × Addr)) : TA := fun σ H Q => ∃ a C n fs, σ[i]? = some (some (.ref a)) ∧ ExF pn H a C fs ∧ PySem.W.NvCls K C ∧ ErrN K U C n ∧
  (∀ x ∈ L, n = x.1 → C = x.2) ∧ Q (L.map fun x => .bl (decide (n = x.1))) H
theorem e_sorts {K : PySem.W.Frag} {pn : List (Addr × Obj)} {U : Addr} {i : Nat} {L : List (Str × Addr)} {σ : L2.St} {H : Hp} {Q : List V → Hp → Prop} : tSorts K pn U i L σ H Q = ∃ a C n fs, σ[i]? = some (some (.ref a)) ∧ ExF pn H a C fs ∧ PySem.W.NvCls K C ∧ ErrN K U C n ∧
  (∀ x ∈ L, n = x.1 → C = x.2) ∧ Q (L.map fun x => .bl (decide (n = x.1))) H := rfl
theorem pa_s0 : PA X [] (tSorts X.K X.pn U i []) := pa_imp pa_nil fun σ H Q ⟨_, _, _, _, _, _, _, _, _, k⟩ => k
theorem pa_s1 (E : ErrN X.K U D m) (nu : D ≠ U) (h : PE X e (tCB (rIsiX X.K X.pn) (tCons (tVar i) (tCons (tC (.ref D)) tNil)))) (r : PA X es (tSorts X.K X.pn U i L)) (hs : starEach (e :: es) X.env = (false, eval e X.env) :: starEach es X.env := by rfl) :
    PA X (e :: es) (tSorts X.K X.pn U i ((m, D) :: L)) := by
  refine pa_imp (pa_cons h r hs) ?_
  rintro σ H Q ⟨a, C, n, fs, g, ex, nv, en, ne, k⟩
  exact ⟨.ref a, g, a, C, fs, .ref D, .ref D, decide (n = m), rfl, ex, nv, .own D, en.one E nu (ne (m, D) (by simp)), a, C, n, fs, g, ex, nv, en, fun x hx => ne x (by simp [hx]), k⟩
end
/-- one of some classes? -/
theorem kit_some {K : PySem.W.Frag} {U C : Addr} {n : Str} (en : ErrN K U C n) : ∀ {L : List (Str × Addr)}, (∀ x ∈ L, ErrN K U x.2 x.1 ∧ x.2 ≠ U ∧ (n = x.1 → C = x.2)) → PySem.W.kitAny K (.ref C) (L.map fun (x : Str × Addr) => Value.ref x.2) = some (decide (n ∈ L.map (fun (x : Str × Addr) => x.1)))
  | [], _ => by simp [PySem.W.kitAny]
  | x :: L, h => by
    obtain ⟨E, nu, ne⟩ := h x (by simp)
    have ih := kit_some en (L := L) fun y hy => h y (by simp [hy])
    show (match PySem.W.kitOne K (.ref C) (.ref x.2) with | some true => some true | some false => PySem.W.kitAny K (.ref C) (L.map fun (x : Str × Addr) => Value.ref x.2) | none => none) = _
    rw [en.one E nu ne]
    by_cases q : n = x.1
    · simp [q]
    · rw [decide_eq_false q]
      simp only [ih, List.map_cons, List.mem_cons, q, false_or]
theorem own_pairs : ∀ (L : List Addr), Paired ClsV (L.map V.ref) (L.map Value.ref)
  | [] => .nil
  | a :: L => .cons (.own a) (own_pairs L)
theorem r_isXT {K : PySem.W.Frag} {pn : List (Addr × Obj)} {H : Hp} {Q : VK} {a tp U C : Addr} {fs : List (Str × V)} {n : Str} (L : List (Str × Addr)) (ex : ExF pn H a C fs) (nv : PySem.W.NvCls K C) (en : ErrN K U C n) (ht : H tp = some (.tup ((L.map (·.2)).map V.ref)))
    (h : ∀ x ∈ L, ErrN K U x.2 x.1 ∧ x.2 ≠ U ∧ (n = x.1 → C = x.2)) (q : Q (.bl (decide (n ∈ L.map (·.1)))) H) : rIsiXT K pn [.ref a, .ref tp] H Q :=
  ⟨a, C, tp, fs, _, _, _, rfl, ex, nv, ht, own_pairs _, by rw [List.map_map]; exact kit_some en h, q⟩
theorem ExF.in {pn : List (Addr × Obj)} {H : Hp} {a C : Addr} {fs : List (Str × V)} (h : ExF [] H a C fs) : ExF pn H a C fs := by
  rcases h with h | h | ⟨oe, d, vs, h1, _⟩ | ⟨oe, vs, _, h1, _⟩
  · exact .inl h
  · exact .inr (.inl h)
  · simp at h1
  · simp at h1
end Nv

namespace Nv
open PySem PySem.Spec PyProof.Rows L2

/-! raise C(..), of the many own classes -/
theorem pmkN_imp {X : Cx} {e : Expr} {t t' : L2.St → Hp → XK → Prop} (h : L2N.PMk X e t) (i : ∀ σ H Q, t' σ H Q → t σ H Q) : L2N.PMk X e t' := fun pins s σ H Q I q => h pins s σ H Q I (i _ _ _ q)
theorem takes0N {X : Cx} : L2N.Takes X (fun _ _ _ _ => False) := fun u s' ⟨_, _, _, _, _, _, _, _, _, _, _, _, _, _, _, _, w⟩ => w.elim
def tMk1 (C : Addr) (f : Str) (te : TE) : L2.St → Hp → XK → Prop := fun σ H Q => te σ H fun v H1 => ∀ d H2, Same H1 H2 → H1 d = none → H2 d = some (.xd [(f, v)]) → Q (.ref C) (some d) H2
def tMk2 (C : Addr) (f1 f2 : Str) (π : List V → List V) (t : TA) : L2.St → Hp → XK → Prop := fun σ H Q => t σ H fun vs H1 => ∃ v1 v2, π vs = [v1, v2] ∧ ∀ d H2, Same H1 H2 → H1 d = none → H2 d = some (.xd [(f2, v2), (f1, v1)]) → Q (.ref C) (some d) H2
theorem e_mk1 {C : Addr} {f : Str} {te : TE} {σ : L2.St} {H : Hp} {Q : XK} : tMk1 C f te σ H Q = te σ H (fun v H1 => ∀ d H2, Same H1 H2 → H1 d = none → H2 d = some (.xd [(f, v)]) → Q (.ref C) (some d) H2) := rfl
theorem e_mk2 {C : Addr} {f1 f2 : Str} {π : List V → List V} {t : TA} {σ : L2.St} {H : Hp} {Q : XK} : tMk2 C f1 f2 π t σ H Q = t σ H (fun vs H1 => ∃ v1 v2, π vs = [v1, v2] ∧ ∀ d H2, Same H1 H2 → H1 d = none → H2 d = some (.xd [(f2, v2), (f1, v1)]) → Q (.ref C) (some d) H2) := rfl
theorem thrown {H1 H2 : Hp} {a dx : Addr} {fs : List (Str × V)} (s : Same H1 H2) (na : H1 a = none) (nd : H1 dx = none) : Same H1 (upd (del H2 a) dx (.xd fs)) := fun b o hb => by
  rw [upd_ne (ne_of_none hb nd), del_ne (ne_of_none hb na)]
  exact s _ _ hb
section
variable {X : Cx} {x f f1 f2 : Str} {C U : Addr} {e e2 : Expr} {es : List Expr} {te : TE} {t t2 : TA} {p pos kpos kpos2 : Pos} {i : Nat}
theorem pmk_E1p (E : E1 X.K X.mg U x f C) (hr : Room 2 X.A) (he : PE X e te) (hg : Gl X x := by rfl)
    (hdb : (x == ("__debug__" : Str)) = false := by decide) (hs : starEach (e :: []) X.env = (false, eval e X.env) :: starEach [] X.env := by rfl) (hpl : (backTo pos (starEach [] X.env)).any (·.1) = false := by rfl) :
    L2N.PMk X (.Call (.Name x p) [e] [] pos) (tMk1 C f te) := by
  obtain ⟨fI, fd, T, F1, b, _⟩ := E.c
  refine pmkN_imp (pmk_errP T (F1 X.prog X.w X.base) b hr (by show 2 ≤ 100; decide) (pa_any he hs) hg hdb hs hpl) ?_
  intro σ H Q h
  refine ⟨_, h, fun v H1 k a na => ⟨a, C, v, rfl, T.T, E.nf, upd_same, fun dx h1 h2 => ⟨rfl, dx, [(f, v)], upd_same, ?_, ?_, ?_⟩⟩⟩
  · rw [upd_ne h2, upd_same]
  · rw [upd_ne h2] at h1
    exact h1
  · have m := (made1 (C := C) (f := f) (v := v) na h1 h2).1
    rw [upd_ne h2] at h1
    exact k dx _ (thrown m na h1) h1 upd_same
theorem pmk_E1k (E : E1 X.K X.mg U x f C) (hr : Room 2 X.A) (he : PE X e te) (hg : Gl X x := by rfl)
    (hall : (backToKw pos (keywordEach [⟨some f, e, kpos⟩] X.env)).all (·.1.isSome) = true := by rfl) (hks : (backToKw pos (keywordEach [⟨some f, e, kpos⟩] X.env)).filterMap (·.1) = [f] := by rfl)
    (hdb : (x == ("__debug__" : Str)) = false := by decide)
    (hpl : ((backTo pos (starEach [] X.env)).any (·.1) || (backToKw pos (keywordEach [⟨some f, e, kpos⟩] X.env)).any (·.1.isNone)) = false := by rfl) :
    L2N.PMk X (.Call (.Name x p) [] [⟨some f, e, kpos⟩] pos) (tMk1 C f te) := by
  obtain ⟨fI, fd, T, F1, b, kb⟩ := E.c
  refine pmkN_imp (pmk_errK (π := fun vs => vs) (ρ := fun vs => vs) T (F1 X.prog X.w X.base) kb rfl (fun _ _ r => r) (fun _ => rfl) hr (pk_any1 he) hg hall hks hdb hpl) ?_
  intro σ H Q h
  refine ⟨_, h, fun v H1 k a na => ⟨a, C, v, rfl, T.T, E.nf, upd_same, fun dx h1 h2 => ⟨rfl, dx, [(f, v)], upd_same, ?_, ?_, ?_⟩⟩⟩
  · rw [upd_ne h2, upd_same]
  · rw [upd_ne h2] at h1
    exact h1
  · have m := (made1 (C := C) (f := f) (v := v) na h1 h2).1
    rw [upd_ne h2] at h1
    exact k dx _ (thrown m na h1) h1 upd_same
theorem pmk_E2p (E : E2 X.K X.mg U x f1 f2 C) (hr : Room 2 X.A) (ha : PA X (e :: es) t) (hg : Gl X x := by rfl)
    (hdb : (x == ("__debug__" : Str)) = false := by decide) (he : starEach (e :: es) X.env = (false, eval e X.env) :: starEach es X.env := by rfl) (hpl : (backTo pos (starEach es X.env)).any (·.1) = false := by rfl) :
    L2N.PMk X (.Call (.Name x p) (e :: es) [] pos) (tMk2 C f1 f2 (fun vs => vs) t) := by
  obtain ⟨fI, fd, T, F1, b, _⟩ := E.c
  refine pmkN_imp (pmk_errP T (F1 X.prog X.w X.base) b hr (by show 3 ≤ 100; decide) (pa_anyA ha) hg hdb he hpl) ?_
  intro σ H Q h
  refine ⟨_, h, fun vs H1 ⟨v1, v2, ev, k⟩ a na => ⟨a, C, v1, v2, by rw [ev], T.T, E.nf1, E.nf2, upd_same, fun dx h1 h2 => ⟨rfl, dx, [(f2, v2), (f1, v1)], ?_, upd_same, ?_, ?_⟩⟩⟩
  · rw [upd_ne (Ne.symm h2), upd_same]
  · rw [upd_ne h2] at h1
    exact h1
  · have m := (made2 (C := C) (fs := [(f2, v2), (f1, v1)]) na h1 h2).1
    rw [upd_ne h2] at h1
    exact k dx _ (thrown m na h1) h1 upd_same
theorem pmk_E2r {kws : List Keyword} (E : E2 X.K X.mg U x f1 f2 C) (hr : Room 2 X.A) (hk : PK X kws t) (hg : Gl X x := by rfl)
    (hall : (backToKw pos (keywordEach kws X.env)).all (·.1.isSome) = true := by rfl) (hks : (backToKw pos (keywordEach kws X.env)).filterMap (·.1) = [f2, f1] := by rfl)
    (hdb : (x == ("__debug__" : Str)) = false := by decide)
    (hpl : ((backTo pos (starEach [] X.env)).any (·.1) || (backToKw pos (keywordEach kws X.env)).any (·.1.isNone)) = false := by rfl) :
    L2N.PMk X (.Call (.Name x p) [] kws pos) (tMk2 C f1 f2 List.reverse t) := by
  obtain ⟨fI, fd, T, F1, b, _, kb, _⟩ := E.c
  refine pmkN_imp (pmk_errK (π := List.reverse) (ρ := List.reverse) T (F1 X.prog X.w X.base) kb rfl (fun _ _ r => vals_rev r) (fun _ => by simp) hr (pk_anyA hk) hg hall hks hdb hpl) ?_
  intro σ H Q h
  refine ⟨_, h, fun vs H1 ⟨v1, v2, ev, k⟩ a na => ⟨a, C, v1, v2, by rw [ev], T.T, E.nf1, E.nf2, upd_same, fun dx h1 h2 => ⟨rfl, dx, [(f2, v2), (f1, v1)], ?_, upd_same, ?_, ?_⟩⟩⟩
  · rw [upd_ne (Ne.symm h2), upd_same]
  · rw [upd_ne h2] at h1
    exact h1
  · have m := (made2 (C := C) (fs := [(f2, v2), (f1, v1)]) na h1 h2).1
    rw [upd_ne h2] at h1
    exact k dx _ (thrown m na h1) h1 upd_same
end
/-- what stands of the class above -/
structure UsE (K : PySem.W.Frag) (U : Addr) : Prop where
  cl : ∃ cd, PySem.W.clsIn K U = some cd ∧ cd.mro.length = 5
  ty : PySem.W.typeIn K (.ref U) = some (.type "type")
  eb : PySem.W.subIn K (.ref U) (.type "BaseException") = some true
  hd : PySem.W.hasDictIn K U = true
theorem ErrN.nu {K : PySem.W.Frag} {U C : Addr} {n : Str} (h : ErrN K U C n) (u : UsE K U) : C ≠ U := fun e => by
  subst e
  obtain ⟨c1, e1, l1⟩ := u.cl
  obtain ⟨c2, e2, _, m2⟩ := h.cls
  rw [e1] at e2
  cases e2
  rw [m2] at l1
  cases l1
theorem ErrN.exm {K : PySem.W.Frag} {U C : Addr} {n : Str} (h : ErrN K U C n) (u : UsE K U) : PySem.W.exmOne K (.ref C) (.ref U) = some true :=
  PySem.W.exm_ref u.eb u.hd u.ty (by rw [h.mro]; simp)
theorem ErrN.up {K : PySem.W.Frag} {U C : Addr} {n : Str} (h : ErrN K U C n) (u : UsE K U) : PySem.W.kitOne K (.ref C) (.ref U) = some true := by
  obtain ⟨c1, e1, _⟩ := u.cl
  exact h.below (by rw [e1]; rfl) u.ty
/-! a caught exception, handed on -/
/-- what is known of a caught exception -/
def ExC (H : Hp) (cls : Value) (d : Option Addr) (C : Addr) (fs : List (Str × V)) : Prop := cls = .ref C ∧ ((∃ dd, d = some dd ∧ H dd = some (.xd fs)) ∨ (d = none ∧ fs = []))
theorem ExC.ex {H : Hp} {cls : Value} {d : Option Addr} {C a : Addr} {oe : Obj} {fs : List (Str × V)} (h : ExC H cls d C fs) (z : Zc cls d oe) (f : ∃ vs, oe.data = .fields vs) : ExF [(a, oe)] H a C fs := by
  obtain ⟨rfl, h⟩ := h
  obtain ⟨vs, f⟩ := f
  rcases h with ⟨dd, rfl, h⟩ | ⟨rfl, rfl⟩
  · exact .inr (.inr (.inl ⟨oe, dd, vs, by simp, z, f, h⟩))
  · exact .inr (.inr (.inr ⟨oe, vs, rfl, by simp, z, f⟩))
theorem ExC.same {H H' : Hp} {cls : Value} {d : Option Addr} {C : Addr} {fs : List (Str × V)} (h : ExC H cls d C fs) (s : Same H H') : ExC H' cls d C fs := by
  obtain ⟨e, ⟨dd, e2, h⟩ | h⟩ := h
  · exact ⟨e, .inl ⟨dd, e2, s _ _ h⟩⟩
  · exact ⟨e, .inr h⟩
open L2H in
theorem pe_cGX {X : Cx} {W : WX} {k : Nat} {f : Addr} {fd : FuncData} {ps : List Str} {sp : Addr × Obj → Sp} {sp' : Sp} {x : Str} {q pos : Pos} {e : Expr} {es : List Expr} {t : TA} {p : Addr × Obj}
    (F : FnGP X.prog X.w X.K X.mg X.base k f fd ps sp) (hc : ∀ vs H Q E, sp' vs H Q E → sp p vs H Q E) (b : Pos1 fd ps) (hG : X.A.guards = some []) (hot : Hot1 X.A p) (hr : RoomH k X.A) (hp : p ∈ X.pn)
    (hm : X.mg x = some (.ref f)) (hk : PySem.W.keepIn X.K (.ref f) = true) (ha : PA X (e :: es) t) (hg : Gl X x := by rfl)
    (hdb : (x == ("__debug__" : Str)) = false := by decide) (he : starEach (e :: es) X.env = (false, eval e X.env) :: starEach es X.env := by rfl)
    (hpl : (backTo pos (starEach es X.env)).any (·.1) = false := by rfl) : PE X (.Call (.Name x q) (e :: es) [] pos) (tCG sp' W t) := by
  refine pe_imp (pe_cGP (W := W) F b hG hot hr hp hm hk (pa_anyA ha) hg hdb he hpl) ?_
  intro σ H Q h
  exact ⟨_, h, fun vs H1 r => hc _ _ _ _ r⟩
/-! x != y of equal lists, or of equal dicts of flat values -/
def rNeU (K : PySem.W.Frag) : R2 := fun x y H Q => rNeV K x y H Q ∨ rNeDA x y H Q
theorem op_neU {X : Cx} (hu : X.A.units + 64 < cLine) : OpR X (compareOp .NotEq) (rNeU X.K) := by
  intro pins s σ H x y v u Q I rx ry h
  rcases h with h | h
  · exact op_neV hu pins s σ H x y v u Q I rx ry h
  · exact op_ne_dictA (by omega) pins s σ H x y v u Q I rx ry h
theorem op_neUK {X : Cx} {K : PySem.W.Frag} (h : X.K = K) (hu : X.A.units + 64 < cLine) : OpR X (compareOp .NotEq) (rNeU K) := by
  subst h
  exact op_neU hu
end Nv

namespace Nv
open PySem PySem.Spec PyProof.Rows L2 L2H

/-! a comprehension while an exception is handled -/
/-- the block's context, which keeps what is pinned around it -/
abbrev hblk (X : Cx) (s : Shared) (H : Hp) (scope : Scope) (ce : Env) (fp : List Addr) : Cx := Cx.tr (X.blk s H scope ce fp) X.pn (fun _ _ => False)
theorem hblk_of {X : Cx} {s s' : Shared} {H H' : Hp} {scope : Scope} {ce : Env} {fp : List Addr} {σ : L2.St} (J : Inv (X.blk s H scope ce fp) [] σ H' s')
    (pin : ∀ q ∈ X.pn, s'.heap.get? q.1 = some q.2 ∧ H' q.1 = none ∧ q.1 ≠ ce.locals ∧ q.1 ∉ frs X.stack ∧ ∀ v, q.2.data ≠ .cell v) : Inv (hblk X s H scope ce fp) [] σ H' s' := Inv.toTry (Inv.pins_of J pin) _
section
variable {X : Cx} {elt tg iter : Expr} {ifs : List Expr} {scope : Scope} {own : List (Str × Nat)} {pos : Pos} {wi : TI} {g : TG} {tt : TT} {te : TE}
theorem pe_lcH (hot : HotC X) (nd : X.N.Nodup) (hi : PIH X tg iter wi) (ok : BlkOk X.N X.env.scope scope own)
    (hg : ∀ (s : Shared) (H : Hp) (C : Addr) (cl : List (Str × Addr)) (fp : List Addr), PG (hblk X s H scope (compEnvC scope cl C X.env) fp) tg g)
    (ht : ∀ (s : Shared) (H : Hp) (C : Addr) (cl : List (Str × Addr)) (fp : List Addr), PTs (hblk X s H scope (compEnvC scope cl C X.env) fp) ifs tt)
    (he : ∀ (s : Shared) (H : Hp) (C : Addr) (cl : List (Str × Addr)) (fp : List Addr), PE (hblk X s H scope (compEnvC scope cl C X.env) fp) elt te)
    (hs : ∀ x, foldedSetIterable iter X.env x = pure x := by intro _; rfl) :
    PE X (.ListComp elt [⟨tg, iter, ifs, 0⟩] scope pos) (tLc wi g tt te (own.map (·.2))) := by
  constructor
  intro pins s σ H Q I h
  rw [eval_ListComp]
  have cells : ∀ y ∈ scope.names, y.2 = .free → ∃ c, X.env.cells.lookup y.1 = some c := by
    intro y m e
    exact (ok.free y m e).elim (fun k => I.ok.has _ (.inl k)) (fun k => I.ok.has _ (.inr k))
  refine wpAny_comprehension_free (use := none) rfl hs (closure_ok cells) ok.kind (fun y m e => by rw [ok.uniq y m, e]) ?_
  refine thn (hi.run pins s σ H _ I h) fun xv sa ha => thn ha fun itv sb hb => ?_
  obtain ⟨it, fp, tn, J, Hb, rfl, Ib, T, stb, fb, turns⟩ := hb
  refine wpAny_newObj_type (newEnv_comp ?_) (by show 0 ≤ sizeLine; decide)
  have dn : Hb sb.heap.objs.size = none := Ib.hok.fresh (Nat.le_refl _)
  obtain ⟨W, ⟨mz, wz⟩, turn⟩ := turns _ dn
  generalize eD : sb.heap.objs.size = D at dn turn wz ⊢
  -- the list that grows
  have kp : ∀ b o, sb.heap.get? b = some o → (sb.heap.push { cls := .type "list", data := .seq ([] : List Value).toArray }).get? b = some o := fun b o e => Heap.get?_push_of_some _ e
  have Ic : Inv X pins σ (upd Hb D (.lst [])) { sb with heap := sb.heap.push { cls := .type "list", data := .seq ([] : List Value).toArray } } :=
    Ib.laid (t' := sb.toks) kp (Nat.le_of_eq eD) ⟨Nat.zero_le _, [], 0, .nil, by rw [← eD]; exact Heap.get?_push_size _ rfl⟩
  have small : ∀ b ∈ fp, b < sb.heap.objs.size := by
    intro b m
    obtain ⟨o, e, _⟩ := T.obj _ _ stb b m
    exact Heap.lt_size e
  have fc : ∀ b ∈ fp, FpOk X pins (upd Hb D (.lst [])) b ∧ b < (sb.heap.push { cls := .type "list", data := .seq ([] : List Value).toArray }).objs.size := by
    intro b m
    have lt := small b m
    refine ⟨⟨?_, (fb b m).2⟩, ?_⟩
    · rw [upd_ne (by rw [← eD]; exact Nat.ne_of_lt lt)]
      exact (fb b m).1
    · rw [Heap.size_push]
      exact Nat.lt_succ_of_lt lt
  have stc : tn 0 (sb.heap.push { cls := .type "list", data := .seq ([] : List Value).toArray }) := T.keep _ _ _ stb fun b _ o e => kp b o e
  generalize es3 : ({ sb with heap := sb.heap.push { cls := .type "list", data := .seq ([] : List Value).toArray } } : Shared) = sc at Ic ⊢
  have h3 : sc.heap = sb.heap.push { cls := .type "list", data := .seq ([] : List Value).toArray } := by rw [← es3]
  rw [← h3] at fc stc
  generalize eH : upd Hb D (.lst []) = Hc at Ic fc wz
  have Id := block_start Ic ok nd fc
  show codeAny _ _ (.compStart (.ListComp elt [⟨tg, iter, ifs, 0⟩] scope pos) 0 (.ref it) (.ref D) (compEnvC scope (cellsFrom (sc.heap.objs.size + 1) scope.names (cloFrom X.env.cells scope.names [])) sc.heap.objs.size X.env)) (compPost (model X.prog X.w) X.A X.xe none (EP X pins σ Q) (.ref D) sc.heap.objs.size) { sc with heap := pushCells (sc.heap.push { cls := .type "dict", data := .dict #[] }) scope.names }
  have eg := hg sc Hc sc.heap.objs.size (cellsFrom (sc.heap.objs.size + 1) scope.names (cloFrom X.env.cells scope.names [])) fp
  have et := ht sc Hc sc.heap.objs.size (cellsFrom (sc.heap.objs.size + 1) scope.names (cloFrom X.env.cells scope.names [])) fp
  have ee := he sc Hc sc.heap.objs.size (cellsFrom (sc.heap.objs.size + 1) scope.names (cloFrom X.env.cells scope.names [])) fp
  generalize ece : compEnvC scope (cellsFrom (sc.heap.objs.size + 1) scope.names (cloFrom X.env.cells scope.names [])) sc.heap.objs.size X.env = ce at Id eg et ee ⊢
  have loc : ce.locals = sc.heap.objs.size := by
    rw [← ece]
    rfl
  have kq : ∀ b o, sc.heap.get? b = some o → (pushCells (sc.heap.push { cls := .type "dict", data := .dict #[] }) scope.names).get? b = some o := fun b o e => pushCells_keeps _ _ _ _ (Heap.get?_push_of_some _ e)
  have std : tn 0 (pushCells (sc.heap.push { cls := .type "dict", data := .dict #[] }) scope.names) := T.keep _ _ _ stc fun b _ o e => kq b o e
  have P0 : ∀ q ∈ X.pn, sc.heap.get? q.1 = some q.2 ∧ Hc q.1 = none ∧ q.1 ≠ ce.locals ∧ q.1 ∉ frs X.stack ∧ ∀ v, q.2.data ≠ .cell v := by
    intro q m
    have P1 := Ic.pin q (List.mem_append_left _ m)
    refine ⟨P1.1, P1.2.1, ?_, fun hm => (List.mem_cons.mp (Ic.stkSub q.1 hm)).elim P1.2.2.1 P1.2.2.2.1, P1.2.2.2.2⟩
    rw [loc]
    exact Nat.ne_of_lt (Heap.lt_size P1.1)
  have Y0 : Inv (hblk X sc Hc scope ce fp) [] (wipe σ (own.map (·.2))) Hc { sc with heap := pushCells (sc.heap.push { cls := .type "dict", data := .dict #[] }) scope.names } :=
    hblk_of Id fun q m => ⟨kq _ _ (P0 q m).1, (P0 q m).2⟩
  have hotY : HotC (hblk X sc Hc scope ce fp) := by
    obtain ⟨q, h1, h2⟩ := hot
    exact ⟨q, h1, h2⟩
  have away : ∀ {σ' : L2.St} {H' : Hp} {s' : Shared}, Inv (hblk X sc Hc scope ce fp) [] σ' H' s' → (∀ b ∈ fp, H' b = none) → tn 0 sc.heap → ∀ b ∈ fp, FpOk (hblk X sc Hc scope ce fp) [] H' b := by
    intro σ' H' s' J' no _ b m
    refine ⟨no b m, (J'.ok.exf b m).1, J'.ok.exfs b m, .inl m, fun x c e => (J'.ok.exf b m).2 x c e, fun q hq => ?_⟩
    have hq' : q ∈ X.pn := by
      rcases List.mem_append.mp hq with z | z
      · exact z
      · exact absurd z (by simp)
    exact (fc b m).1.2.2.2.2.2 q (List.mem_append_left _ hq')
  generalize esd : ({ sc with heap := pushCells (sc.heap.push { cls := .type "dict", data := .dict #[] }) scope.names } : Shared) = sd at Y0 ⊢
  have std' : tn 0 sd.heap := by
    rw [← esd]
    exact std
  have fin : codeAny (model X.prog X.w) X.A (.compLoop (.ListComp elt [⟨tg, iter, ifs, 0⟩] scope pos) 0 (.ref it) (.ref D) ce) (compPost (model X.prog X.w) X.A X.xe none (EP X pins σ Q) (.ref D) sc.heap.objs.size) sd := by
    refine compLoop_any (fun m s' => ∃ i H', Inv (hblk X sc Hc scope ce fp) [] (wipe σ (own.map (·.2))) H' s' ∧ tn i s'.heap ∧ (∀ b ∈ fp, H' b = none) ∧ W i m H') ?_ mz ⟨0, Hc, Y0, std', fun b m => (fc b m).1.1, wz⟩
    rintro m se ⟨i, He, Ie, ste, noe, we⟩
    rcases turn i m He we with ⟨stop, last⟩ | ⟨go, Nx, less, step⟩
    · refine thnF (T.done (hblk X sc Hc scope ce fp) rfl rfl rfl hotY i [] se _ He (fun _ _ => False) Ie (away Ie noe stc) ste stop) ?_
      rintro r sf ⟨rfl, If⟩
      have Ig : Inv X pins σ He sf := Ic.call' (ch := fp) If.os If.base If.hok If.bare fun b m => ⟨(fc b m).1.2.2.2.1, (fc b m).1.2.1, (fc b m).1.2.2.2.2.1, (fc b m).1.2.2.2.2.2⟩
      have nC : He sc.heap.objs.size = none := by
        have z : He ce.locals = none := If.free
        rwa [loc] at z
      obtain ⟨mp, ns, _⟩ := If.loc
      have ns : sf.heap.Ns ce.locals mp := ns
      rw [loc] at ns
      refine ⟨mp, ns, fun hz same => ?_⟩
      obtain ⟨f0, f1, f2, f3, f4, f5⟩ := Ic.fpOk (Nat.le_refl _) nC
      exact ⟨.ref D, He, Ig.turned (t' := sf.toks) (fun b o nb e => (same.2 b nb).trans e) f0 f1 f3 f4 f5, rfl, last⟩
    · refine thnF (T.item (hblk X sc Hc scope ce fp) rfl rfl rfl hotY i [] se _ He (fun _ _ => False) Ie (away Ie noe stc) ste go) ?_
      rintro r sf ⟨u, rfl, hf⟩
      refine thnF hf ?_
      rintro _ sg ⟨x, Hg, Ig, rg, yg, stg, nog⟩
      have Ip := Ig.pinned (away Ig nog stc) (T.obj _ _ stg)
      refine thnF (eg.run _ sg _ Hg x u _ Ip rg (step x Hg yg)) ?_
      rintro _ sh ⟨σh, Hh, Ih, eh, qh⟩
      refine thnF (et.run _ sh σh Hh _ Ih qh) ?_
      rintro b sk ⟨Hk, Ik, qk⟩
      have next : ∀ {s' : Shared} {H' : Hp}, Inv (hblk X sc Hc scope ce fp) ([] ++ pinsAt fp sg.heap) σh H' s' → Nx H' → ∃ m', m' < m ∧ ∃ i H', Inv (hblk X sc Hc scope ce fp) [] (wipe σ (own.map (·.2))) H' s' ∧ tn i s'.heap ∧ (∀ b ∈ fp, H' b = none) ∧ W i m' H' := by
        intro s' H' I' nx
        obtain ⟨m', lt, w'⟩ := less H' nx
        have still : ∀ b ∈ fp, ∀ o, sg.heap.get? b = some o → s'.heap.get? b = some o ∧ H' b = none := by
          intro b mb o e
          have z := I'.pin (b, o) (List.mem_append_right _ (List.mem_append_right _ (mem_pinsAt mb e)))
          exact ⟨z.1, z.2.1⟩
        have ln : (wipe σ (own.map (·.2))).length = σh.length := by rw [← eh, wipe_length]
        refine ⟨m', lt, i + 1, H', Inv.weak (Inv.unpinned (pins := []) I') ln ?_, T.keep _ _ _ stg (fun b mb o e => (still b mb o e).1), ?_, w'⟩
        · intro j v e
          rw [← eh] at e
          exact (wipe_some e).1
        · intro b mb
          obtain ⟨o, e, _⟩ := T.obj _ _ stg b mb
          exact (still b mb o e).2
      cases b with
      | true =>
        rw [if_pos rfl] at qk ⊢
        refine thnF (ee.run _ sk σh Hk _ Ik qk) ?_
        rintro z sl ⟨yv, Hl, Il, rl, acc, dl, zl, nx⟩
        exact app_ok (X := hblk X sc Hc scope ce fp) Il dl zl rl fun sm Im => next Im nx
      | false =>
        rw [if_neg (by decide)] at qk ⊢
        exact next Ik qk
  exact codeAny_compStart_list fin (T.self X.A 0 _ _ _ std' fin)
end
theorem hotS {A : Around} {a : Addr} {oe : Obj} {cls : Value} {d : Option Addr} (h : A.handled = some (.ref a)) (hz : L2N.Zn cls d oe) (hf : ∃ vs, oe.data = .fields vs) : Hot1 A (a, oe) := by
  obtain ⟨vs, e⟩ := hf
  exact ⟨h, vs, e, hz.2.2 vs e⟩
/-! a comprehension over range(n) that takes the numbers that pass a test -/
def passI (f : Nat → Bool) (n : Nat) : List V := ((List.range n).filter f).map fun (i : Nat) => V.int (0 + (i : Int))
theorem passI_succ {f : Nat → Bool} {n : Nat} : passI f (n + 1) = if f n = true then passI f n ++ [V.int (0 + (n : Int))] else passI f n := by
  unfold passI
  rw [List.range_succ, List.filter_append, List.map_append]
  cases h : f n <;> simp [h]
theorem passI_len (f : Nat → Bool) (n : Nat) : (passI f n).length ≤ n := by
  unfold passI
  rw [List.length_map]
  exact Nat.le_trans (List.length_filter_le _ _) (by rw [List.length_range]; exact Nat.le_refl _)
theorem lc_pass {g : TG} {tt : TT} {te : TE} {vs : List Nat} {σ : L2.St} {H : Hp} {D : Addr} {Qd : Hp → Prop} {n : Nat} (f : Nat → Bool) (hD : H D = none) (hz : n ≤ sizeLine)
    (hs : ∀ (i : Nat) (Ha : Hp) (R : VK) (Rn : Hp → Prop), i < n → Same H Ha → (f i = true → ∀ H4, Same Ha H4 → R (.int (0 + (i : Int))) H4) → (f i = false → ∀ H4, Same Ha H4 → Rn H4) →
      g (.int (0 + (i : Int))) (wipe σ vs) Ha fun σ2 H2 => wipe σ2 vs = wipe σ vs ∧ tt σ2 H2 fun b H3 => if b = true then te σ2 H3 R else Rn H3)
    (hd : ∀ H', Same H H' → H' D = some (.lst (passI f n)) → Qd H') :
    ∃ W : Nat → Nat → Hp → Prop, (∃ m, W 0 m (upd H D (.lst []))) ∧ ∀ i m H, W i m H →
      ((Itr 0 n).stop i H ∧ Qd H) ∨ ((Itr 0 n).go i H ∧ ∃ Nx : Hp → Prop, (∀ H', Nx H' → ∃ m', m' < m ∧ W (i + 1) m' H') ∧ ∀ x H', (Itr 0 n).yld i H x H' → g x (wipe σ vs) H' fun σ2 H2 => wipe σ2 vs = wipe σ vs ∧ tt σ2 H2 fun b H3 =>
        if b = true then te σ2 H3 fun y H4 => ∃ acc, H4 D = some (.lst acc) ∧ acc.length < sizeLine ∧ Nx (upd H4 D (.lst (acc ++ [y]))) else Nx H3) := by
  refine ⟨fun i m Ha => i + m = n ∧ Ha D = some (.lst (passI f i)) ∧ Same H Ha, ⟨n, by omega, by rw [upd_same]; rfl, Same.new hD⟩, ?_⟩
  rintro i m Ha ⟨im, fD, S⟩
  by_cases hi : i < n
  · refine .inr ⟨hi, fun H' => H' D = some (.lst (passI f (i + 1))) ∧ Same H H', fun H' ⟨a, b⟩ => ⟨m - 1, by omega, by omega, a, b⟩, ?_⟩
    rintro x Hb ⟨rfl, rfl⟩
    refine hs i Hb _ _ hi S (fun hf H4 S4 => ?_) (fun hf H4 S4 => ⟨?_, S.trans S4⟩)
    · refine ⟨passI f i, S4 _ _ fD, Nat.lt_of_le_of_lt (passI_len f i) (by omega), ?_, fun b o hb => ?_⟩
      · rw [upd_same, passI_succ, if_pos hf]
      · rw [upd_ne (ne_of_none hb hD)]
        exact S4 _ _ (S _ _ hb)
    · rw [passI_succ, if_neg (by rw [hf]; decide)]
      exact S4 _ _ fD
  · have e : i = n := by omega
    subst e
    exact .inl ⟨Nat.le_refl _, hd Ha S fD⟩
end Nv

namespace Nv
open PySem PySem.Spec PyProof.Rows L2

/-! displays of data: what they make stands apart from all that stood -/
def NewD (H H2 : Hp) (v : V) (d : PyData) : Prop := ∃ Hs : Hp, (∀ a o, H a = some o → Hs a = none) ∧ (∀ a o, Hs a = some o → H2 a = some o) ∧ DV Hs v d
def NewDs (H H2 : Hp) (vs : List V) (ds : List PyData) : Prop := ∃ Hs : Hp, (∀ a o, H a = some o → Hs a = none) ∧ (∀ a o, Hs a = some o → H2 a = some o) ∧ DVs Hs vs ds
def tDat (d : PyData) : TE := fun _ H Q => ∀ v H2, Same H H2 → NewD H H2 v d → Q v H2
def tDats (ds : List PyData) : TA := fun _ H Q => ∀ vs H2, Same H H2 → NewDs H H2 vs ds → Q vs H2
theorem e_dat {d : PyData} {σ : L2.St} {H : Hp} {Q : VK} : tDat d σ H Q = ∀ v H2, Same H H2 → NewD H H2 v d → Q v H2 := rfl
theorem e_dats {ds : List PyData} {σ : L2.St} {H : Hp} {Q : List V → Hp → Prop} : tDats ds σ H Q = ∀ vs H2, Same H H2 → NewDs H H2 vs ds → Q vs H2 := rfl
def noHp : Hp := fun _ => none
theorem newD_flat {H : Hp} {v : V} {d : PyData} (h : DV noHp v d) : NewD H H v d := ⟨noHp, fun _ _ _ => rfl, (fun a o e => nomatch (show none = some o from e)), h⟩
section
variable {X : Cx} {e : Expr} {es : List Expr} {t : TE} {d : PyData} {ds : List PyData} {pos : Pos}
theorem pd_flat (v : V) (he : PE X e t) (h : DV noHp v d) (i : ∀ σ H (Q : VK), Q v H → t σ H Q) : PE X e (tDat d) := pe_imp he fun σ H Q k => i σ H Q (k v H (Same.refl H) (newD_flat h))
theorem pd_non {j p} : PE X (.Constant .none j p) (tDat .none) := pd_flat .non pe_non .non fun _ _ _ q => q
theorem pd_bl {b j p} : PE X (.Constant (.bool b) j p) (tDat (.bool b)) := pd_flat (.bl b) pe_bl (.bl b) fun _ _ _ q => q
theorem pd_int {i j p} : PE X (.Constant (.int i) j p) (tDat (.int i)) := pd_flat (.int i) pe_int (.int i) fun _ _ _ q => q
theorem pd_str {z j p} : PE X (.Constant (.str z) j p) (tDat (.str z)) := pd_flat (.str z) pe_str (.str z) fun _ _ _ q => q
theorem pds_nil : PA X [] (tDats []) := pa_imp pa_nil fun σ H Q k => k [] H (Same.refl H) ⟨noHp, fun _ _ _ => rfl, (fun a o e => nomatch (show none = some o from e)), .nil⟩
theorem pds_cons (he : PE X e (tDat d)) (hr : PA X es (tDats ds)) (hs : starEach (e :: es) X.env = (false, eval e X.env) :: starEach es X.env := by rfl) : PA X (e :: es) (tDats (d :: ds)) := by
  refine pa_imp (pa_cons he hr hs) ?_
  intro σ H Q k v H1 S1 ⟨A, a1, a2, a3⟩ vs H2 S2 ⟨B, b1, b2, b3⟩
  refine k (v :: vs) H2 (S1.trans S2) ⟨fun a => match A a with | some o => some o | none => B a, fun a o h => ?_, fun a o h => ?_, .cons (a3.mono fun a o h => by simp [h]) (b3.mono fun a o h => ?_)⟩
  · simp only [a1 a o h]
    exact b1 a o (S1 _ _ h)
  · cases e1 : A a with
    | none =>
      simp only [e1] at h
      exact b2 _ _ h
    | some u =>
      simp only [e1] at h
      cases h
      exact S2 _ _ (a2 _ _ e1)
  · cases e1 : A a with
    | none => exact h
    | some u =>
      have z := S2 _ _ (a2 _ _ e1)
      rw [b2 _ _ h] at z
      exact z.symm
theorem fresh_of {H H1 : Hp} {a : Addr} (S : Same H H1) (h : H1 a = none) : H a = none := by
  cases e : H a with
  | none => rfl
  | some o =>
    rw [S _ _ e] at h
    cases h
theorem newD_add {H H1 : Hp} {A : Hp} {p : Addr} {o : HO} (S : Same H H1) (a1 : ∀ a o, H a = some o → A a = none) (a2 : ∀ a o, A a = some o → H1 a = some o) (hp : H1 p = none) :
    (∀ a u, H a = some u → upd A p o a = none) ∧ (∀ a u, upd A p o a = some u → upd H1 p o a = some u) ∧ (∀ a u, A a = some u → upd A p o a = some u) := by
  have np : A p = none := by
    cases e : A p with
    | none => rfl
    | some u =>
      rw [a2 _ _ e] at hp
      cases hp
  refine ⟨fun a u h => ?_, fun a u h => ?_, fun a u h => ?_⟩
  · rw [upd_ne (ne_of_none h (fresh_of S hp))]
    exact a1 a u h
  · by_cases q : a = p
    · subst q
      rw [upd_same] at h ⊢
      exact h
    · rw [upd_ne q] at h ⊢
      exact a2 _ _ h
  · rw [upd_ne (ne_of_none h np)]
    exact h
theorem pd_lst (h : PA X es (tDats ds)) (hz : ds.length ≤ 1000 := by decide) : PE X (.List es pos) (tDat (.list ds)) := by
  refine pe_imp (pe_lst1 h) ?_
  intro σ H Q k vs H1 S ⟨A, a1, a2, a3⟩
  have sz : sizeLine = 16777216 := sizeLine_eq
  have := a3.len
  refine ⟨by omega, fun p hp np => ?_⟩
  obtain ⟨z1, z2, z3⟩ := newD_add (o := .lst vs) S a1 a2 hp
  exact k (.ref p) _ (S.trans (Same.new hp)) ⟨_, z1, z2, .lst upd_same np (a3.mono z3)⟩
theorem pd_tup {j : Nat} (h : PA X es (tDats ds)) (hz : ds.length ≤ 1000 := by decide) : PE X (.Tuple es j pos) (tDat (.tuple ds)) := by
  refine pe_imp (pe_tup h) ?_
  intro σ H Q k vs H1 S ⟨A, a1, a2, a3⟩
  have sz : sizeLine = 16777216 := sizeLine_eq
  have := a3.len
  refine ⟨by omega, fun p hp => ?_⟩
  obtain ⟨z1, z2, z3⟩ := newD_add (o := .tup vs) S a1 a2 hp
  exact k (.ref p) _ (S.trans (Same.new hp)) ⟨_, z1, z2, .tup upd_same (a3.mono z3)⟩
theorem pd_dct0 : PE X (.Dict [] [] pos) (tDat (.dict [])) := by
  refine pe_imp pe_dnewK ?_
  intro σ H Q k p hp
  obtain ⟨z1, z2, z3⟩ := newD_add (o := .dK []) (Same.refl H) (A := noHp) (fun _ _ _ => rfl) ((fun a o e => nomatch (show none = some o from e))) hp
  exact k (.ref p) _ (Same.new hp) ⟨_, z1, z2, .dct upd_same .nil⟩
def rDictP (K : PySem.W.Frag) : List V → Hp → VK → Prop := fun xs H Q => ∃ (a : Addr) (ps : List Addr) (kvs : List (Key × V)), xs = [.ref a] ∧ SqL K H a (ps.map V.ref) ∧ Paired (fun p kv => SqT K H p [kV kv.1, kv.2]) ps kvs ∧ ∀ p, H p = none → Q (.ref p) (upd H p (.dK (mergeK [] kvs)))
/-- dict([(k, e)]) -/
theorem pd_dict1 {z : Str} (h : PE X e (tCB (rDictP X.K) (tCons (tLst1 (tCons (tTup (tCons (tC (.str z)) (tCons (tDat d) tNil))) tNil)) tNil))) : PE X e (tDat (.dict [(.str z, d)])) := by
  refine pe_imp h ?_
  intro σ H Q k v H1 S ⟨A, a1, a2, a3⟩
  have sz : sizeLine = 16777216 := sizeLine_eq
  refine ⟨by rw [sz]; exact Nat.le_of_ble_eq_true rfl, fun p hp => ⟨by rw [sz]; exact Nat.le_of_ble_eq_true rfl, fun q hq nq => ?_⟩⟩
  have hp2 : upd (upd H1 p (.tup [.str z, v])) q (.lst [.ref p]) p = some (.tup [.str z, v]) := by
    have : p ≠ q := fun e => by
      rw [← e, upd_same] at hq
      cases hq
    rw [upd_ne this, upd_same]
  refine ⟨q, [p], [(.inr z, v)], rfl, .of upd_same, .cons (.of hp2) .nil, fun r hr => ?_⟩
  have S2 : Same H1 (upd (upd H1 p (.tup [.str z, v])) q (.lst [.ref p])) := (Same.new hp).trans (Same.new hq)
  obtain ⟨z1, z2, z3⟩ := newD_add (o := .dK [(.inr z, v)]) (S.trans S2) a1 (fun a o h => S2 _ _ (a2 _ _ h)) hr
  exact k (.ref r) _ (S.trans (S2.trans (Same.new hr))) ⟨_, z1, z2, .dct upd_same (.cons (a3.mono z3) .nil)⟩
end
theorem for_rngC {k : Int} {g : TG} {tb : TS} {D : Ends} {σ : L2.St} {H : Hp} (h0 : -2 ^ 62 ≤ k) (h1 : k < 2 ^ 62) (Pv : Nat → L2.St → Hp → Prop) (a : Pv 0 σ H)
    (b : ∀ (i : Nat) (σ : L2.St) (H : Hp), i < k.toNat → Pv i σ H → g (V.int (0 + (i : Int))) σ H fun σ2 H2 => tb { nx := Pv (i + 1), rt := D.rt, bk := D.nx, ct := Pv (i + 1) } σ2 H2)
    (c : ∀ (σ : L2.St) (H : Hp), Pv k.toNat σ H → D.nx σ H) : tFor (iRng1 (tCons (tC (V.int k)) tNil)) g tb D σ H :=
  ⟨k, rfl, h0, h1, for_range Pv a b c⟩
theorem pe_backK {X : Cx} {K : PySem.W.Frag} {e st : Expr} {te ts : TE} {pos p2 : Pos} (h : X.K = K) (he : PE X e te) (hs : PE X st ts) (hp : evalPart (some st) X.env = eval st X.env := by rfl) : PE X (.Subscript e (.Slice none none (some st) p2) pos) (tBack K te ts) := by
  subst h
  exact pe_back he hs hp
theorem UsE.of {K : PySem.W.Frag} {U N : Addr} {nm q : Str} {bs : List Value} {sn : List Str} {sub : List Value} {ab : Bool} {col : Option Bool} {dd : Option Addr} {k0 k1 k2 k3 k5 : Option Value}
    (l : K.lookup U = some (excClassObj nm q U N bs [.type "ValueError", .type "Exception", .type "BaseException", .type "object"] true sn sub ab col dd k0 k1 k2 k3 k5 "ValueError.__new__")) (ty : PySem.W.typeIn K (.ref U) = some (.type "type")) (eb : PySem.W.subIn K (.ref U) (.type "BaseException") = some true) (hd : PySem.W.hasDictIn K U = true) : UsE K U := by
  refine ⟨?_, ty, eb, hd⟩
  unfold PySem.W.clsIn
  rw [l]
  exact ⟨_, rfl, rfl⟩
theorem refs_U (U : Addr) : PySem.HandSPX.refsVE [.ref U, .type "ValueError", .type "Exception", .type "BaseException", .type "object"] = true := rfl
theorem ErrN.eb {K : PySem.W.Frag} {U C : Addr} {n : Str} (h : ErrN K U C n) : PySem.W.subIn K (.ref C) (.type "BaseException") = some true := by
  rw [h.mro]
  simp
theorem ErrN.mo {K : PySem.W.Frag} {U C : Addr} {n : Str} (h : ErrN K U C n) : PySem.W.mroIn K C (.type "object") = some true := by
  have := h.mro (.type "object")
  rw [show ([.ref C, .ref U, .type "ValueError", .type "Exception", .type "BaseException", .type "object"] : List Value).contains (.type "object") = true by simp] at this
  exact this
end Nv

namespace K00
open PySem L2 Nv
def top (i : Nat) : Stmt := PySem.Challenge.pw_neverunsaid_k00_errors.main.body.getD i (.Pass ⟨0, 0, 0, 0⟩)
abbrev s_l_cell : Stmt := top 42
abbrev s_l_box : Stmt := top 43
abbrev s_l_take : Stmt := top 44
abbrev s_l_by_place : Stmt := top 45
abbrev s_l_by_name : Stmt := top 46
abbrev s_l_pairs : Stmt := top 47
abbrev s_l_sorts : Stmt := top 48
abbrev s_l_is : Stmt := top 49
abbrev s_l_kept : Stmt := top 50
abbrev s_l_two_kept : Stmt := top 51
abbrev s_l_thing : Stmt := top 52
abbrev s_l_caught : Stmt := top 53
abbrev s_l_ones_right : Stmt := top 54
abbrev s_l_twos_right : Stmt := top 55
abbrev s_l_grown_right : Stmt := top 56
abbrev s_law : Stmt := top 57
abbrev s_InvalidLine_init : Stmt := inClass (top 2) 0
theorem sc_InvalidLine_init : FnScope ["self", "given"] ["self", "given"] (defScope s_InvalidLine_init) := ⟨rfl, rfl, rfl, by decide +kernel, rfl, by decide +kernel, by decide +kernel⟩
abbrev s_InvalidText_init : Stmt := inClass (top 3) 0
theorem sc_InvalidText_init : FnScope ["self", "given"] ["self", "given"] (defScope s_InvalidText_init) := ⟨rfl, rfl, rfl, by decide +kernel, rfl, by decide +kernel, by decide +kernel⟩
abbrev s_InvalidCell_init : Stmt := inClass (top 4) 0
theorem sc_InvalidCell_init : FnScope ["self", "given"] ["self", "given"] (defScope s_InvalidCell_init) := ⟨rfl, rfl, rfl, by decide +kernel, rfl, by decide +kernel, by decide +kernel⟩
abbrev s_InvalidHouses_init : Stmt := inClass (top 5) 0
theorem sc_InvalidHouses_init : FnScope ["self", "given"] ["self", "given"] (defScope s_InvalidHouses_init) := ⟨rfl, rfl, rfl, by decide +kernel, rfl, by decide +kernel, by decide +kernel⟩
abbrev s_InvalidRoads_init : Stmt := inClass (top 6) 0
theorem sc_InvalidRoads_init : FnScope ["self", "given"] ["self", "given"] (defScope s_InvalidRoads_init) := ⟨rfl, rfl, rfl, by decide +kernel, rfl, by decide +kernel, by decide +kernel⟩
abbrev s_InvalidHouse_init : Stmt := inClass (top 7) 0
theorem sc_InvalidHouse_init : FnScope ["self", "given"] ["self", "given"] (defScope s_InvalidHouse_init) := ⟨rfl, rfl, rfl, by decide +kernel, rfl, by decide +kernel, by decide +kernel⟩
abbrev s_InvalidSigns_init : Stmt := inClass (top 8) 0
theorem sc_InvalidSigns_init : FnScope ["self", "given"] ["self", "given"] (defScope s_InvalidSigns_init) := ⟨rfl, rfl, rfl, by decide +kernel, rfl, by decide +kernel, by decide +kernel⟩
abbrev s_InvalidCount_init : Stmt := inClass (top 9) 0
theorem sc_InvalidCount_init : FnScope ["self", "given"] ["self", "given"] (defScope s_InvalidCount_init) := ⟨rfl, rfl, rfl, by decide +kernel, rfl, by decide +kernel, by decide +kernel⟩
abbrev s_InvalidLines_init : Stmt := inClass (top 10) 0
theorem sc_InvalidLines_init : FnScope ["self", "given"] ["self", "given"] (defScope s_InvalidLines_init) := ⟨rfl, rfl, rfl, by decide +kernel, rfl, by decide +kernel, by decide +kernel⟩
abbrev s_InvalidScript_init : Stmt := inClass (top 11) 0
theorem sc_InvalidScript_init : FnScope ["self", "given"] ["self", "given"] (defScope s_InvalidScript_init) := ⟨rfl, rfl, rfl, by decide +kernel, rfl, by decide +kernel, by decide +kernel⟩
abbrev s_InvalidRows_init : Stmt := inClass (top 12) 0
theorem sc_InvalidRows_init : FnScope ["self", "given"] ["self", "given"] (defScope s_InvalidRows_init) := ⟨rfl, rfl, rfl, by decide +kernel, rfl, by decide +kernel, by decide +kernel⟩
abbrev s_InvalidLater_init : Stmt := inClass (top 13) 0
theorem sc_InvalidLater_init : FnScope ["self", "given"] ["self", "given"] (defScope s_InvalidLater_init) := ⟨rfl, rfl, rfl, by decide +kernel, rfl, by decide +kernel, by decide +kernel⟩
abbrev s_InvalidKey_init : Stmt := inClass (top 14) 0
theorem sc_InvalidKey_init : FnScope ["self", "given"] ["self", "given"] (defScope s_InvalidKey_init) := ⟨rfl, rfl, rfl, by decide +kernel, rfl, by decide +kernel, by decide +kernel⟩
abbrev s_InvalidLife_init : Stmt := inClass (top 15) 0
theorem sc_InvalidLife_init : FnScope ["self", "given"] ["self", "given"] (defScope s_InvalidLife_init) := ⟨rfl, rfl, rfl, by decide +kernel, rfl, by decide +kernel, by decide +kernel⟩
abbrev s_InvalidLetter_init : Stmt := inClass (top 16) 0
theorem sc_InvalidLetter_init : FnScope ["self", "given"] ["self", "given"] (defScope s_InvalidLetter_init) := ⟨rfl, rfl, rfl, by decide +kernel, rfl, by decide +kernel, by decide +kernel⟩
abbrev s_InvalidActs_init : Stmt := inClass (top 17) 0
theorem sc_InvalidActs_init : FnScope ["self", "given"] ["self", "given"] (defScope s_InvalidActs_init) := ⟨rfl, rfl, rfl, by decide +kernel, rfl, by decide +kernel, by decide +kernel⟩
abbrev s_InvalidAct_init : Stmt := inClass (top 18) 0
theorem sc_InvalidAct_init : FnScope ["self", "given"] ["self", "given"] (defScope s_InvalidAct_init) := ⟨rfl, rfl, rfl, by decide +kernel, rfl, by decide +kernel, by decide +kernel⟩
abbrev s_InvalidKinds_init : Stmt := inClass (top 19) 0
theorem sc_InvalidKinds_init : FnScope ["self", "given"] ["self", "given"] (defScope s_InvalidKinds_init) := ⟨rfl, rfl, rfl, by decide +kernel, rfl, by decide +kernel, by decide +kernel⟩
abbrev s_InvalidIndex_init : Stmt := inClass (top 20) 0
theorem sc_InvalidIndex_init : FnScope ["self", "given"] ["self", "given"] (defScope s_InvalidIndex_init) := ⟨rfl, rfl, rfl, by decide +kernel, rfl, by decide +kernel, by decide +kernel⟩
abbrev s_NotJoined_init : Stmt := inClass (top 21) 0
theorem sc_NotJoined_init : FnScope ["self", "house"] ["self", "house"] (defScope s_NotJoined_init) := ⟨rfl, rfl, rfl, by decide +kernel, rfl, by decide +kernel, by decide +kernel⟩
abbrev s_Stopped_init : Stmt := inClass (top 24) 0
theorem sc_Stopped_init : FnScope ["self", "at"] ["self", "at"] (defScope s_Stopped_init) := ⟨rfl, rfl, rfl, by decide +kernel, rfl, by decide +kernel, by decide +kernel⟩
abbrev s_Faulty_init : Stmt := inClass (top 25) 0
theorem sc_Faulty_init : FnScope ["self", "fault"] ["self", "fault"] (defScope s_Faulty_init) := ⟨rfl, rfl, rfl, by decide +kernel, rfl, by decide +kernel, by decide +kernel⟩
abbrev s_DoNotFit_init : Stmt := inClass (top 26) 0
theorem sc_DoNotFit_init : FnScope ["self", "picture"] ["self", "picture"] (defScope s_DoNotFit_init) := ⟨rfl, rfl, rfl, by decide +kernel, rfl, by decide +kernel, by decide +kernel⟩
abbrev s_SameKey_init : Stmt := inClass (top 29) 0
theorem sc_SameKey_init : FnScope ["self", "key"] ["self", "key"] (defScope s_SameKey_init) := ⟨rfl, rfl, rfl, by decide +kernel, rfl, by decide +kernel, by decide +kernel⟩
abbrev s_NotHeld_init : Stmt := inClass (top 30) 0
theorem sc_NotHeld_init : FnScope ["self", "key"] ["self", "key"] (defScope s_NotHeld_init) := ⟨rfl, rfl, rfl, by decide +kernel, rfl, by decide +kernel, by decide +kernel⟩
abbrev s_Held_init : Stmt := inClass (top 31) 0
theorem sc_Held_init : FnScope ["self", "key"] ["self", "key"] (defScope s_Held_init) := ⟨rfl, rfl, rfl, by decide +kernel, rfl, by decide +kernel, by decide +kernel⟩
abbrev s_TooMany_init : Stmt := inClass (top 32) 0
theorem sc_TooMany_init : FnScope ["self", "count"] ["self", "count"] (defScope s_TooMany_init) := ⟨rfl, rfl, rfl, by decide +kernel, rfl, by decide +kernel, by decide +kernel⟩
abbrev s_NotStanding_init : Stmt := inClass (top 34) 0
theorem sc_NotStanding_init : FnScope ["self", "now"] ["self", "now"] (defScope s_NotStanding_init) := ⟨rfl, rfl, rfl, by decide +kernel, rfl, by decide +kernel, by decide +kernel⟩
abbrev s_Down_init : Stmt := inClass (top 35) 0
theorem sc_Down_init : FnScope ["self", "house"] ["self", "house"] (defScope s_Down_init) := ⟨rfl, rfl, rfl, by decide +kernel, rfl, by decide +kernel, by decide +kernel⟩
abbrev s_Up_init : Stmt := inClass (top 36) 0
theorem sc_Up_init : FnScope ["self", "house"] ["self", "house"] (defScope s_Up_init) := ⟨rfl, rfl, rfl, by decide +kernel, rfl, by decide +kernel, by decide +kernel⟩
abbrev s_NoLetter_init : Stmt := inClass (top 37) 0
theorem sc_NoLetter_init : FnScope ["self", "k"] ["self", "k"] (defScope s_NoLetter_init) := ⟨rfl, rfl, rfl, by decide +kernel, rfl, by decide +kernel, by decide +kernel⟩
abbrev s_Refused_init : Stmt := inClass (top 38) 0
theorem sc_Refused_init : FnScope ["self", "at"] ["self", "at"] (defScope s_Refused_init) := ⟨rfl, rfl, rfl, by decide +kernel, rfl, by decide +kernel, by decide +kernel⟩
abbrev s_NotWhole_init : Stmt := inClass (top 39) 0
theorem sc_NotWhole_init : FnScope ["self", "house"] ["self", "house"] (defScope s_NotWhole_init) := ⟨rfl, rfl, rfl, by decide +kernel, rfl, by decide +kernel, by decide +kernel⟩
abbrev s_Turned_init : Stmt := inClass (top 40) 0
theorem sc_Turned_init : FnScope ["self", "at"] ["self", "at"] (defScope s_Turned_init) := ⟨rfl, rfl, rfl, by decide +kernel, rfl, by decide +kernel, by decide +kernel⟩
abbrev s_NotARoad_init : Stmt := inClass (top 22) 0
theorem sc_NotARoad_init : FnScope ["self", "u", "v"] ["self", "u", "v"] (defScope s_NotARoad_init) := ⟨rfl, rfl, rfl, by decide +kernel, rfl, by decide +kernel, by decide +kernel⟩
abbrev s_NothingUnderWay_init : Stmt := inClass (top 23) 0
theorem sc_NothingUnderWay_init : FnScope ["self", "u", "v"] ["self", "u", "v"] (defScope s_NothingUnderWay_init) := ⟨rfl, rfl, rfl, by decide +kernel, rfl, by decide +kernel, by decide +kernel⟩
abbrev s_NotAhead_init : Stmt := inClass (top 27) 0
theorem sc_NotAhead_init : FnScope ["self", "x", "z"] ["self", "x", "z"] (defScope s_NotAhead_init) := ⟨rfl, rfl, rfl, by decide +kernel, rfl, by decide +kernel, by decide +kernel⟩
abbrev s_SurelyAhead_init : Stmt := inClass (top 28) 0
theorem sc_SurelyAhead_init : FnScope ["self", "x", "z"] ["self", "x", "z"] (defScope s_SurelyAhead_init) := ⟨rfl, rfl, rfl, by decide +kernel, rfl, by decide +kernel, by decide +kernel⟩
theorem sc_l_cell : FnScope ["_law_script", "_law_k"] ["_law_script", "_law_k"] (defScope s_l_cell) := ⟨rfl, rfl, rfl, by decide +kernel, rfl, by decide +kernel, by decide +kernel⟩
theorem sc_l_box : FnScope ["_law_great"] ["_law_great"] (defScope s_l_box) := ⟨rfl, rfl, rfl, by decide +kernel, rfl, by decide +kernel, by decide +kernel⟩
theorem sc_l_take : FnScope ["_law_box_here", "_law_many", "_law_digit", "_law_mixed"] ["_law_box_here", "_law_many"] (defScope s_l_take) := ⟨rfl, rfl, rfl, by decide +kernel, rfl, by decide +kernel, by decide +kernel⟩
theorem sc_l_by_place : FnScope ["_law_thing_here", "_law_found"] ["_law_thing_here"] (defScope s_l_by_place) := ⟨rfl, rfl, rfl, by decide +kernel, rfl, by decide +kernel, by decide +kernel⟩
theorem sc_l_by_name : FnScope ["_law_thing_here", "_law_found"] ["_law_thing_here"] (defScope s_l_by_name) := ⟨rfl, rfl, rfl, by decide +kernel, rfl, by decide +kernel, by decide +kernel⟩
theorem sc_l_pairs : FnScope ["_law_one", "_law_other", "_law_way", "_law_found"] ["_law_one", "_law_other", "_law_way"] (defScope s_l_pairs) := ⟨rfl, rfl, rfl, by decide +kernel, rfl, by decide +kernel, by decide +kernel⟩
theorem sc_l_sorts : FnScope ["_law_e", "_law_found"] ["_law_e"] (defScope s_l_sorts) := ⟨rfl, rfl, rfl, by decide +kernel, rfl, by decide +kernel, by decide +kernel⟩
theorem sc_l_is : FnScope ["_law_e", "_law_spot", "_law_sorts_here", "_law_k"] ["_law_e", "_law_spot"] (defScope s_l_is) := ⟨rfl, rfl, rfl, by decide +kernel, rfl, by decide +kernel, by decide +kernel⟩
theorem sc_l_kept : FnScope ["_law_e"] ["_law_e"] (defScope s_l_kept) := ⟨rfl, rfl, rfl, by decide +kernel, rfl, by decide +kernel, by decide +kernel⟩
theorem sc_l_two_kept : FnScope ["_law_e"] ["_law_e"] (defScope s_l_two_kept) := ⟨rfl, rfl, rfl, by decide +kernel, rfl, by decide +kernel, by decide +kernel⟩
theorem sc_l_thing : FnScope ["_law_box_here", "_law_menu"] ["_law_box_here"] (defScope s_l_thing) := ⟨rfl, rfl, rfl, by decide +kernel, rfl, by decide +kernel, by decide +kernel⟩
theorem sc_l_caught : FnScope ["_law_box_here", "_law_thing_here", "_law_more", "_law_way", "_law_e", "_law_told"] ["_law_box_here", "_law_thing_here", "_law_more"] (defScope s_l_caught) := ⟨rfl, rfl, rfl, by decide +kernel, rfl, by decide +kernel, by decide +kernel⟩
theorem sc_l_ones_right : FnScope ["_law_first", "_law_last", "_law_lists", "_law_spot", "_law_turn", "_law_e"] ["_law_first", "_law_last"] (defScope s_l_ones_right) := ⟨rfl, rfl, rfl, by decide +kernel, rfl, by decide +kernel, by decide +kernel⟩
theorem sc_l_twos_right : FnScope ["_law_first", "_law_last", "_law_lists", "_law_spot", "_law_turn", "_law_e", "_law_due"] ["_law_first", "_law_last"] (defScope s_l_twos_right) := ⟨rfl, rfl, rfl, by decide +kernel, rfl, by decide +kernel, by decide +kernel⟩
theorem sc_l_grown_right : FnScope ["_law_box_here", "_law_first", "_law_grown", "_law_table", "_law_kept_here", "_law_pairs_here", "_law_due", "_law_k"] ["_law_box_here"] (defScope s_l_grown_right) := ⟨rfl, rfl, rfl, by decide +kernel, rfl, by decide +kernel, by decide +kernel⟩
theorem sc_law : FnScope ["_law_script", "_law_k", "_law_box_here", "_law_first", "_law_last"] ["_law_script"] (defScope s_law) := ⟨rfl, rfl, rfl, by decide +kernel, rfl, by decide +kernel, by decide +kernel⟩
/-- a def of the module -/
structure Tx (K : PySem.W.Frag) (mg : Str → Option Value) : Type where
  C_UnsaidError : Addr
  C_InvalidLine : Addr
  E_InvalidLine : E1 K mg C_UnsaidError "InvalidLine" "given" C_InvalidLine
  C_InvalidText : Addr
  E_InvalidText : E1 K mg C_UnsaidError "InvalidText" "given" C_InvalidText
  C_InvalidCell : Addr
  E_InvalidCell : E1 K mg C_UnsaidError "InvalidCell" "given" C_InvalidCell
  C_InvalidHouses : Addr
  E_InvalidHouses : E1 K mg C_UnsaidError "InvalidHouses" "given" C_InvalidHouses
  C_InvalidRoads : Addr
  E_InvalidRoads : E1 K mg C_UnsaidError "InvalidRoads" "given" C_InvalidRoads
  C_InvalidHouse : Addr
  E_InvalidHouse : E1 K mg C_UnsaidError "InvalidHouse" "given" C_InvalidHouse
  C_InvalidSigns : Addr
  E_InvalidSigns : E1 K mg C_UnsaidError "InvalidSigns" "given" C_InvalidSigns
  C_InvalidCount : Addr
  E_InvalidCount : E1 K mg C_UnsaidError "InvalidCount" "given" C_InvalidCount
  C_InvalidLines : Addr
  E_InvalidLines : E1 K mg C_UnsaidError "InvalidLines" "given" C_InvalidLines
  C_InvalidScript : Addr
  E_InvalidScript : E1 K mg C_UnsaidError "InvalidScript" "given" C_InvalidScript
  C_InvalidRows : Addr
  E_InvalidRows : E1 K mg C_UnsaidError "InvalidRows" "given" C_InvalidRows
  C_InvalidLater : Addr
  E_InvalidLater : E1 K mg C_UnsaidError "InvalidLater" "given" C_InvalidLater
  C_InvalidKey : Addr
  E_InvalidKey : E1 K mg C_UnsaidError "InvalidKey" "given" C_InvalidKey
  C_InvalidLife : Addr
  E_InvalidLife : E1 K mg C_UnsaidError "InvalidLife" "given" C_InvalidLife
  C_InvalidLetter : Addr
  E_InvalidLetter : E1 K mg C_UnsaidError "InvalidLetter" "given" C_InvalidLetter
  C_InvalidActs : Addr
  E_InvalidActs : E1 K mg C_UnsaidError "InvalidActs" "given" C_InvalidActs
  C_InvalidAct : Addr
  E_InvalidAct : E1 K mg C_UnsaidError "InvalidAct" "given" C_InvalidAct
  C_InvalidKinds : Addr
  E_InvalidKinds : E1 K mg C_UnsaidError "InvalidKinds" "given" C_InvalidKinds
  C_InvalidIndex : Addr
  E_InvalidIndex : E1 K mg C_UnsaidError "InvalidIndex" "given" C_InvalidIndex
  C_NotJoined : Addr
  E_NotJoined : E1 K mg C_UnsaidError "NotJoined" "house" C_NotJoined
  C_Stopped : Addr
  E_Stopped : E1 K mg C_UnsaidError "Stopped" "at" C_Stopped
  C_Faulty : Addr
  E_Faulty : E1 K mg C_UnsaidError "Faulty" "fault" C_Faulty
  C_DoNotFit : Addr
  E_DoNotFit : E1 K mg C_UnsaidError "DoNotFit" "picture" C_DoNotFit
  C_SameKey : Addr
  E_SameKey : E1 K mg C_UnsaidError "SameKey" "key" C_SameKey
  C_NotHeld : Addr
  E_NotHeld : E1 K mg C_UnsaidError "NotHeld" "key" C_NotHeld
  C_Held : Addr
  E_Held : E1 K mg C_UnsaidError "Held" "key" C_Held
  C_TooMany : Addr
  E_TooMany : E1 K mg C_UnsaidError "TooMany" "count" C_TooMany
  C_NotStanding : Addr
  E_NotStanding : E1 K mg C_UnsaidError "NotStanding" "now" C_NotStanding
  C_Down : Addr
  E_Down : E1 K mg C_UnsaidError "Down" "house" C_Down
  C_Up : Addr
  E_Up : E1 K mg C_UnsaidError "Up" "house" C_Up
  C_NoLetter : Addr
  E_NoLetter : E1 K mg C_UnsaidError "NoLetter" "k" C_NoLetter
  C_Refused : Addr
  E_Refused : E1 K mg C_UnsaidError "Refused" "at" C_Refused
  C_NotWhole : Addr
  E_NotWhole : E1 K mg C_UnsaidError "NotWhole" "house" C_NotWhole
  C_Turned : Addr
  E_Turned : E1 K mg C_UnsaidError "Turned" "at" C_Turned
  C_NotARoad : Addr
  E_NotARoad : E2 K mg C_UnsaidError "NotARoad" "u" "v" C_NotARoad
  C_NothingUnderWay : Addr
  E_NothingUnderWay : E2 K mg C_UnsaidError "NothingUnderWay" "u" "v" C_NothingUnderWay
  C_NotAhead : Addr
  E_NotAhead : E2 K mg C_UnsaidError "NotAhead" "x" "z" C_NotAhead
  C_SurelyAhead : Addr
  E_SurelyAhead : E2 K mg C_UnsaidError "SurelyAhead" "x" "z" C_SurelyAhead
  C_NoStanding : Addr
  m_NoStanding : mg "NoStanding" = some (.ref C_NoStanding)
  q_NoStanding : PySem.W.excIn K C_NoStanding [.type "ValueError", .type "Exception", .type "BaseException", .type "object"] "ValueError.__new__" = true
  kc_NoStanding : PySem.W.keepIn K (.ref C_NoStanding) = true
  rb_NoStanding : PySem.W.subIn K (.ref C_NoStanding) (.type "BaseException") = some true
  rt_NoStanding : PySem.W.typeIn K (.ref C_NoStanding) = some (.type "type")
  n_NoStanding : ErrN K C_UnsaidError C_NoStanding "NoStanding"
  nv_NoStanding : PySem.W.NvCls K C_NoStanding
  m_UnsaidError : mg "UnsaidError" = some (.ref C_UnsaidError)
  u_UnsaidError : UsE K C_UnsaidError
  n_ValueError : mg "ValueError" = none
  n_abs : mg "abs" = none
  n_dict : mg "dict" = none
  n_int : mg "int" = none
  n_isinstance : mg "isinstance" = none
  n_len : mg "len" = none
  n_max : mg "max" = none
  n_min : mg "min" = none
  n_range : mg "range" = none
  n_repr : mg "repr" = none
  n_sum : mg "sum" = none
  d_l_cell : DefT K mg "_law_cell" s_l_cell ["_law_script", "_law_k"]
  d_l_box : DefT K mg "_law_box" s_l_box ["_law_great"]
  d_l_take : DefT K mg "_law_take" s_l_take ["_law_box_here", "_law_many"]
  d_l_by_place : DefT K mg "_law_by_place" s_l_by_place ["_law_thing_here"]
  d_l_by_name : DefT K mg "_law_by_name" s_l_by_name ["_law_thing_here"]
  d_l_pairs : DefT K mg "_law_pairs" s_l_pairs ["_law_one", "_law_other", "_law_way"]
  d_l_sorts : DefT K mg "_law_sorts" s_l_sorts ["_law_e"]
  d_l_is : DefT K mg "_law_is" s_l_is ["_law_e", "_law_spot"]
  d_l_kept : DefT K mg "_law_kept" s_l_kept ["_law_e"]
  d_l_two_kept : DefT K mg "_law_two_kept" s_l_two_kept ["_law_e"]
  d_l_thing : DefT K mg "_law_thing" s_l_thing ["_law_box_here"]
  d_l_caught : DefT K mg "_law_caught" s_l_caught ["_law_box_here", "_law_thing_here", "_law_more"]
  d_l_ones_right : DefT K mg "_law_ones_right" s_l_ones_right ["_law_first", "_law_last"]
  d_l_twos_right : DefT K mg "_law_twos_right" s_l_twos_right ["_law_first", "_law_last"]
  d_l_grown_right : DefT K mg "_law_grown_right" s_l_grown_right ["_law_box_here"]
  d_law : DefT K mg "law" s_law ["_law_script"]
end K00

local macro_rules | `(tactic| walk_at "rd") => `(tactic| try simp only [Nv.e_f4, Nv.e_errv, Nv.e_js0, Nv.e_js1, Nv.e_fmt, Nv.e_lrg, Nv.e_rg1, Nv.e_seq, Nv.e_next, Nv.e_asg, Nv.e_gname, Nv.e_gtup, Nv.e_gcons, Nv.e_gnil, Nv.e_gsub, Nv.e_ret, Nv.e_retN, Nv.e_if, Nv.e_drop, Nv.e_par, Nv.e_par3, Nv.e_rP2, Nv.e_rP3, Nv.e_tyes, Nv.e_disp, Nv.e_xf, L2.tPairs, L2.upd_upd, L2.upd_same, Nv.e_wipe0, Nv.e_wipe1, Nv.e_sfld, Nv.e_var, Nv.e_c, Nv.e_op, Nv.e_un, Nv.e_ri, Nv.e_ri0, Nv.e_ru, Nv.e_eq, Nv.e_ne, Nv.e_test, Nv.e_B, Nv.e_and, Nv.e_or, Nv.e_not, Nv.e_andV, Nv.e_orV, Nv.e_notV, Nv.e_ifE, Nv.e_cb, Nv.e_nil, Nv.e_cons, Nv.e_tup, Nv.e_lst1, Nv.e_fld, Nv.e_slice, Nv.e_nopart, Nv.e_part, Nv.e_bm0, Nv.e_bm, Nv.e_m1, Nv.e_cg, Nv.e_mg, Nv.e_make, Nv.e_prop, Nv.e_raise1, Nv.e_chain, Nv.e_mulS, Nv.e_slS, Nv.e_cxK, Nv.start_def, List.getElem?_cons_zero, List.getElem?_cons_succ, List.set_cons_zero, List.set_cons_succ, List.map_cons, List.map_nil, List.cons_append, List.nil_append, List.append_nil, List.length_cons, List.length_nil, List.replicate, Option.some.injEq, exists_eq_left', exists_eq_left, L2.V.bl.injEq, L2.V.int.injEq, L2.V.str.injEq, L2.V.ref.injEq, List.cons.injEq, and_true, true_and, exists_and_left, exists_and_right, ↓reduceIte, Bool.false_eq_true, Bool.true_eq_false, decide_eq_true_eq, Bool.not_eq_true', Bool.not_true, Bool.not_false, forall_eq'])

namespace K00
open PySem L2 Nv

section
variable {P : Program} {w : World} {K : PySem.W.Frag} {mg : Str → Option Value} {base : Heap}
theorem ok_l_cell (T : Tx K mg) : FnG P w K mg base 1 T.d_l_cell.f T.d_l_cell.fd ["_law_script", "_law_k"] (nvCell K) := by
  refine okG0 T.d_l_cell.F sc_l_cell (fun vs H Q E h => ?_) (fun cdv A outer s H vs Q E hg hr h => ?_)
  · obtain ⟨a, ns, k, rfl, _⟩ := h
    rfl
  obtain ⟨a, ns, k, rfl, hS, h0, h1, q⟩ := h
  refine ⟨_, (pss_one (ps_ret (pe_ifExp (pt_cmpR op_lt (pv 1) (pe_callB call_len_seq (by rfl) T.n_len (by decide +kernel) (pa_cons (pv 0) pa_nil)) (nomark _)) (pe_ix ix_list (pv 0) (pv 1) (fun _ _ => rfl)) (pe_op op_add (pe_op op_mul pe_int (pv 1)) (pe_op op_modN (pe_callB (cr_sum rfl) (by rfl) T.n_sum (by decide +kernel) (pa_cons (pe_slice sl_list (pv 0) po_none (po_some pe_int)) pa_nil)) pe_int))))), ?_⟩
  walk_at "rd"
  refine ⟨_, .inl hS, ?_⟩
  walk_at "rd"
  by_cases hk : k < ((ns.map V.int).length : Int)
  · rw [if_pos hk]
    obtain ⟨j, rfl⟩ : ∃ j : Nat, k = (j : Int) := ⟨k.toNat, by omega⟩
    have hj : j < ns.length := by
      rw [List.length_map] at hk
      omega
    refine r_ixL hS (atI_nat (j := j) (v := V.int ns[j]) (by simp [hj])) ?_
    exact q _ H (Same.refl H)
  · rw [if_neg hk]
    refine ⟨.inl (by decide), a, _, rfl, hS, fun p hp => ?_⟩
    walk_at "rd"
    have hc : cutV (ns.map V.int) none (some 1) = ((ns.drop (HT.sIx (ns.map V.int).length 0 none)).take (HT.sIx (ns.map V.int).length (ns.map V.int).length (some 1) - HT.sIx (ns.map V.int).length 0 none)).map V.int := by
      unfold cutV
      rw [List.map_take, List.map_drop]
    refine ⟨p, _, rfl, .inl (.inl (by rw [hc] at *; exact upd_same)), ?_⟩
    walk_at "rd"
    refine ⟨by decide, ?_⟩
    exact q _ _ (Same.new hp)
theorem ok_l_box (T : Tx K mg) : FnG P w K mg base 1 T.d_l_box.f T.d_l_box.fd ["_law_great"] nvBox := by
  refine okG0 T.d_l_box.F sc_l_box (fun vs H Q E h => ?_) (fun cdv A outer s H vs Q E hg hr h => ?_)
  · obtain ⟨g, rfl, _⟩ := h
    rfl
  obtain ⟨g, rfl, q⟩ := h
  refine ⟨_, (pss_one (ps_ret (pe_lst1 (pa_cons (pe_callB call_abs (by rfl) T.n_abs (by decide +kernel) (pa_cons (pv 0) pa_nil)) (pa_cons (pe_cmpR op_ge (pe_callB call_abs (by rfl) T.n_abs (by decide +kernel) (pa_cons (pv 0) pa_nil)) (pe_op op_pow pe_int pe_int) (nomark _)) (pa_cons (pe_op op_modN (pe_callTy call_intI (by rfl) T.n_int (by decide +kernel) (pa_cons (pe_callB call_abs (by rfl) T.n_abs (by decide +kernel) (pa_cons (pv 0) pa_nil)) pa_nil)) pe_int) (pa_cons pe_int pa_nil))))))), ?_⟩
  walk_at "rd"
  refine ⟨by unfold CPow; decide, by decide, by decide, fun p hp _ => ?_⟩
  have f := fmod_in (if g < 0 then -g else g) (m := 2147483629) (by decide)
  exact q p _ hp (Same.new hp) ⟨_, _, _, _, upd_same, f.1, by omega, by decide, by decide⟩
local macro_rules | `(tactic| walk_at "mix") => `(tactic| (
  refine r_ixL (SqL.of (by assumption)) (at3 rfl) ?_
  walk_at "rd"
  refine r_setL (by assumption) (setIx (j := 3) (by show 3 < 4; decide)) ?_
  walk_at "rd"
  refine r_ixL (SqL.of upd_same) (at2 rfl) ?_
  walk_at "rd"
  refine r_ixL (SqL.of upd_same) (at3 rfl) ?_
  walk_at "rd"
  refine ⟨cmul_l (by decide) (by decide), cpow_of (by decide) (by decide) (by omega) (by omega), by decide, cmul_r (by decide) (by decide), ?_⟩
  refine r_ixL (SqL.of upd_same) (at3 rfl) ?_
  walk_at "rd"
  refine ⟨cmul_l (by decide) (by decide), cpow_of (by decide) (by decide) ?_ ?_, by decide, ⟨by decide, by decide⟩, by omega, ?_⟩))
theorem ok_l_take (T : Tx K mg) : FnG P w K mg base 1 T.d_l_take.f T.d_l_take.fd ["_law_box_here", "_law_many"] nvTake := by
  refine okG0 T.d_l_take.F sc_l_take (fun vs H Q E h => ?_) (fun cdv A outer s H vs Q E hg hr h => ?_)
  · obtain ⟨p, m, N, rfl, _⟩ := h
    rfl
  obtain ⟨p, m, N, rfl, ⟨n, b, mm, c, hp, h1, h2, h3, h4⟩, hN, hm0, hm1, q⟩ := h
  refine ⟨_, (pss_cons (ps_if (PW.pt (pw_and (pt_val (pe_ix ix_list (pv 0) pe_int (fun _ _ => rfl))) (pw_and1 (pt_cmpR op_gt (pe_ix ix_list (pv 0) pe_int (fun _ _ => rfl)) pe_int (nomark _)))))
      (pss_cons (ps_set (i := 2) sc_l_take.nd rfl (Or.inl rfl) (pe_op op_modN (pe_callTy call_intI (by rfl) T.n_int (by decide +kernel) (pa_cons (pe_ix ix_list (pv 0) pe_int (fun _ _ => rfl)) pa_nil)) (pv 1)))
      (pss_cons (ps_asg (pe_op op_fdivN (pe_ix ix_list (pv 0) pe_int (fun _ _ => rfl)) (pv 1)) (pg_sub (pv 0) pe_int set_list))
      (pss_one (ps_ret (pv 2)))))
      pss_nil)
    (pss_cons (ps_asg (pe_op op_add (pe_ix ix_list (pv 0) pe_int (fun _ _ => rfl)) pe_int) (pg_sub (pv 0) pe_int set_list))
    (pss_cons (ps_set (i := 3) sc_l_take.nd rfl (Or.inl rfl) (pe_op op_modN (pe_callTy call_intI (by rfl) T.n_int (by decide +kernel) (pa_cons (pe_op op_pow (pe_op op_add (pe_op op_add (pe_ix ix_list (pv 0) pe_int (fun _ _ => rfl)) (pe_op op_mul pe_int (pe_ix ix_list (pv 0) pe_int (fun _ _ => rfl)))) pe_int) pe_int) pa_nil)) pe_int))
    (pss_one (ps_ret (pe_op op_modN (pe_op op_fdivN (pe_op op_modN (pe_callTy call_intI (by rfl) T.n_int (by decide +kernel) (pa_cons (pe_op op_pow (pe_op op_add (pe_op op_mul (pv 3) pe_int) (pe_op op_mul pe_int (pe_ix ix_list (pv 0) pe_int (fun _ _ => rfl)))) pe_int) pa_nil)) pe_int) pe_int) (pv 1))))))), ?_⟩
  walk_at "rd"
  refine r_ixL (SqL.of hp) (at1 rfl) ?_
  walk_at "rd"
  have f1 : ∀ a : Int, 0 ≤ a.fmod 2147483647 ∧ a.fmod 2147483647 < 2147483647 := fun a => fmod_in a (by decide)
  have fin : ∀ x : Int, Q (.int (x.fmod m)) (upd H p (.lst [.int n, .bl b, .int mm, .int (c + 1)])) := fun x =>
    q _ _ (fmod_in x hm0).1 (fmod_in x hm0).2 ⟨_, _, _, _, upd_same, h1, h2, by omega, by omega⟩ Ext1.upd
  by_cases hb : b = true
  · rw [if_pos hb]
    refine r_ixL (SqL.of hp) (at0 rfl) ?_
    walk_at "rd"
    by_cases hn : 0 < n
    · rw [if_pos hn]
      refine r_ixL (SqL.of hp) (at0 rfl) ?_
      walk_at "rd"
      refine ⟨by omega, ?_⟩
      refine r_ixL (SqL.of hp) (at0 rfl) ?_
      walk_at "rd"
      refine ⟨⟨by omega, by omega⟩, ?_⟩
      refine r_setL hp (setIx (j := 0) (by show 0 < 4; decide)) ?_
      exact q _ _ (fmod_in n hm0).1 (fmod_in n hm0).2 ⟨_, _, _, _, upd_same, h1, h2, h3, by omega⟩ Ext1.upd
    · rw [if_neg hn]
      walk_at "mix"
      · have := f1 ((mm + 15485863 * (c + 1) + 179424673) ^ (5 : Int).toNat)
        omega
      · have := f1 ((mm + 15485863 * (c + 1) + 179424673) ^ (5 : Int).toNat)
        omega
      · exact fin _
  · rw [if_neg hb]
    walk_at "mix"
    · have := f1 ((mm + 15485863 * (c + 1) + 179424673) ^ (5 : Int).toNat)
      omega
    · have := f1 ((mm + 15485863 * (c + 1) + 179424673) ^ (5 : Int).toNat)
      omega
    · exact fin _
end
end K00


local macro_rules | `(tactic| walk_at "rx") => `(tactic| try simp only [Nv.e_errs, Nv.e_E1, Nv.e_E2, Nv.e_sorts, Nv.e_fldE, Nv.e_back, Nv.e_mk1, Nv.e_mk2, Nv.e_f4, Nv.e_errv, Nv.e_js0, Nv.e_js1, Nv.e_fmt, Nv.e_lrg, Nv.e_rg1, Nv.e_seq, Nv.e_next, Nv.e_asg, Nv.e_gname, Nv.e_gtup, Nv.e_gcons, Nv.e_gnil, Nv.e_gsub, Nv.e_ret, Nv.e_retN, Nv.e_if, Nv.e_drop, Nv.e_par, Nv.e_par3, Nv.e_rP2, Nv.e_rP3, Nv.e_tyes, Nv.e_disp, Nv.e_xf, L2.tPairs, L2.upd_upd, L2.upd_same, Nv.e_wipe0, Nv.e_wipe1, Nv.e_sfld, Nv.e_var, Nv.e_c, Nv.e_op, Nv.e_un, Nv.e_ri, Nv.e_ri0, Nv.e_ru, Nv.e_eq, Nv.e_ne, Nv.e_test, Nv.e_B, Nv.e_and, Nv.e_or, Nv.e_not, Nv.e_andV, Nv.e_orV, Nv.e_notV, Nv.e_ifE, Nv.e_cb, Nv.e_nil, Nv.e_cons, Nv.e_tup, Nv.e_lst1, Nv.e_fld, Nv.e_slice, Nv.e_nopart, Nv.e_part, Nv.e_bm0, Nv.e_bm, Nv.e_m1, Nv.e_cg, Nv.e_mg, Nv.e_make, Nv.e_prop, Nv.e_raise1, Nv.e_chain, Nv.e_mulS, Nv.e_slS, Nv.e_cxK, Nv.start_def, List.getElem?_cons_zero, List.getElem?_cons_succ, List.set_cons_zero, List.set_cons_succ, List.map_cons, List.map_nil, List.cons_append, List.nil_append, List.append_nil, List.length_cons, List.length_nil, List.replicate, Option.some.injEq, exists_eq_left', exists_eq_left, L2.V.bl.injEq, L2.V.int.injEq, L2.V.str.injEq, L2.V.ref.injEq, List.cons.injEq, and_true, true_and, exists_and_left, exists_and_right, ↓reduceIte, Bool.false_eq_true, Bool.true_eq_false, decide_eq_true_eq, Bool.not_eq_true', Bool.not_true, Bool.not_false, forall_eq'])

namespace K00
open PySem L2 Nv

section
variable {K : PySem.W.Frag} {mg : Str → Option Value}
/-- the classes, by the law's own numbers -/
def ones (T : Tx K mg) : List (Str × Addr) := [(Str.ofString "InvalidLine", T.C_InvalidLine), (Str.ofString "InvalidText", T.C_InvalidText), (Str.ofString "InvalidCell", T.C_InvalidCell), (Str.ofString "InvalidHouses", T.C_InvalidHouses), (Str.ofString "InvalidRoads", T.C_InvalidRoads), (Str.ofString "InvalidHouse", T.C_InvalidHouse), (Str.ofString "InvalidSigns", T.C_InvalidSigns), (Str.ofString "InvalidCount", T.C_InvalidCount), (Str.ofString "InvalidLines", T.C_InvalidLines), (Str.ofString "InvalidScript", T.C_InvalidScript), (Str.ofString "InvalidRows", T.C_InvalidRows), (Str.ofString "InvalidLater", T.C_InvalidLater), (Str.ofString "InvalidKey", T.C_InvalidKey), (Str.ofString "InvalidLife", T.C_InvalidLife), (Str.ofString "InvalidLetter", T.C_InvalidLetter), (Str.ofString "InvalidActs", T.C_InvalidActs), (Str.ofString "InvalidAct", T.C_InvalidAct), (Str.ofString "InvalidKinds", T.C_InvalidKinds), (Str.ofString "InvalidIndex", T.C_InvalidIndex), (Str.ofString "NotJoined", T.C_NotJoined), (Str.ofString "Stopped", T.C_Stopped), (Str.ofString "Faulty", T.C_Faulty), (Str.ofString "DoNotFit", T.C_DoNotFit), (Str.ofString "SameKey", T.C_SameKey), (Str.ofString "NotHeld", T.C_NotHeld), (Str.ofString "Held", T.C_Held), (Str.ofString "TooMany", T.C_TooMany), (Str.ofString "NotStanding", T.C_NotStanding), (Str.ofString "Down", T.C_Down), (Str.ofString "Up", T.C_Up), (Str.ofString "NoLetter", T.C_NoLetter), (Str.ofString "Refused", T.C_Refused), (Str.ofString "NotWhole", T.C_NotWhole), (Str.ofString "Turned", T.C_Turned)]
def twos (T : Tx K mg) : List (Str × Addr) := [(Str.ofString "NotARoad", T.C_NotARoad), (Str.ofString "NothingUnderWay", T.C_NothingUnderWay), (Str.ofString "NotAhead", T.C_NotAhead), (Str.ofString "SurelyAhead", T.C_SurelyAhead)]
def cat (T : Tx K mg) : List (Str × Addr) := ones T ++ twos T ++ [(Str.ofString "NoStanding", T.C_NoStanding)]
def flds : List Str := [Str.ofString "given", Str.ofString "given", Str.ofString "given", Str.ofString "given", Str.ofString "given", Str.ofString "given", Str.ofString "given", Str.ofString "given", Str.ofString "given", Str.ofString "given", Str.ofString "given", Str.ofString "given", Str.ofString "given", Str.ofString "given", Str.ofString "given", Str.ofString "given", Str.ofString "given", Str.ofString "given", Str.ofString "given", Str.ofString "house", Str.ofString "at", Str.ofString "fault", Str.ofString "picture", Str.ofString "key", Str.ofString "key", Str.ofString "key", Str.ofString "count", Str.ofString "now", Str.ofString "house", Str.ofString "house", Str.ofString "k", Str.ofString "at", Str.ofString "house", Str.ofString "at"]
def pfl : List (Str × Str) := [(Str.ofString "u", Str.ofString "v"), (Str.ofString "u", Str.ofString "v"), (Str.ofString "x", Str.ofString "z"), (Str.ofString "x", Str.ofString "z")]
def nms : List Str := [Str.ofString "InvalidLine", Str.ofString "InvalidText", Str.ofString "InvalidCell", Str.ofString "InvalidHouses", Str.ofString "InvalidRoads", Str.ofString "InvalidHouse", Str.ofString "InvalidSigns", Str.ofString "InvalidCount", Str.ofString "InvalidLines", Str.ofString "InvalidScript", Str.ofString "InvalidRows", Str.ofString "InvalidLater", Str.ofString "InvalidKey", Str.ofString "InvalidLife", Str.ofString "InvalidLetter", Str.ofString "InvalidActs", Str.ofString "InvalidAct", Str.ofString "InvalidKinds", Str.ofString "InvalidIndex", Str.ofString "NotJoined", Str.ofString "Stopped", Str.ofString "Faulty", Str.ofString "DoNotFit", Str.ofString "SameKey", Str.ofString "NotHeld", Str.ofString "Held", Str.ofString "TooMany", Str.ofString "NotStanding", Str.ofString "Down", Str.ofString "Up", Str.ofString "NoLetter", Str.ofString "Refused", Str.ofString "NotWhole", Str.ofString "Turned", Str.ofString "NotARoad", Str.ofString "NothingUnderWay", Str.ofString "NotAhead", Str.ofString "SurelyAhead", Str.ofString "NoStanding"]
theorem cat_nms (T : Tx K mg) : (cat T).map (·.1) = nms := rfl
theorem nms_nodup : nms.Nodup := by decide +kernel
theorem ones_ok (T : Tx K mg) : Paired (fun x f => E1 K mg T.C_UnsaidError x.1 f x.2) (ones T) flds := (.cons T.E_InvalidLine (.cons T.E_InvalidText (.cons T.E_InvalidCell (.cons T.E_InvalidHouses (.cons T.E_InvalidRoads (.cons T.E_InvalidHouse (.cons T.E_InvalidSigns (.cons T.E_InvalidCount (.cons T.E_InvalidLines (.cons T.E_InvalidScript (.cons T.E_InvalidRows (.cons T.E_InvalidLater (.cons T.E_InvalidKey (.cons T.E_InvalidLife (.cons T.E_InvalidLetter (.cons T.E_InvalidActs (.cons T.E_InvalidAct (.cons T.E_InvalidKinds (.cons T.E_InvalidIndex (.cons T.E_NotJoined (.cons T.E_Stopped (.cons T.E_Faulty (.cons T.E_DoNotFit (.cons T.E_SameKey (.cons T.E_NotHeld (.cons T.E_Held (.cons T.E_TooMany (.cons T.E_NotStanding (.cons T.E_Down (.cons T.E_Up (.cons T.E_NoLetter (.cons T.E_Refused (.cons T.E_NotWhole (.cons T.E_Turned .nil))))))))))))))))))))))))))))))))))
theorem twos_ok (T : Tx K mg) : Paired (fun x f => E2 K mg T.C_UnsaidError x.1 f.1 f.2 x.2) (twos T) pfl := (.cons T.E_NotARoad (.cons T.E_NothingUnderWay (.cons T.E_NotAhead (.cons T.E_SurelyAhead .nil))))
theorem all_ok (T : Tx K mg) : Paired (fun x (_ : Unit) => ErrN K T.C_UnsaidError x.2 x.1 ∧ PySem.W.NvCls K x.2) (cat T) (List.replicate 39 ()) := (.cons ⟨T.E_InvalidLine.n, T.E_InvalidLine.nv⟩ (.cons ⟨T.E_InvalidText.n, T.E_InvalidText.nv⟩ (.cons ⟨T.E_InvalidCell.n, T.E_InvalidCell.nv⟩ (.cons ⟨T.E_InvalidHouses.n, T.E_InvalidHouses.nv⟩ (.cons ⟨T.E_InvalidRoads.n, T.E_InvalidRoads.nv⟩ (.cons ⟨T.E_InvalidHouse.n, T.E_InvalidHouse.nv⟩ (.cons ⟨T.E_InvalidSigns.n, T.E_InvalidSigns.nv⟩ (.cons ⟨T.E_InvalidCount.n, T.E_InvalidCount.nv⟩ (.cons ⟨T.E_InvalidLines.n, T.E_InvalidLines.nv⟩ (.cons ⟨T.E_InvalidScript.n, T.E_InvalidScript.nv⟩ (.cons ⟨T.E_InvalidRows.n, T.E_InvalidRows.nv⟩ (.cons ⟨T.E_InvalidLater.n, T.E_InvalidLater.nv⟩ (.cons ⟨T.E_InvalidKey.n, T.E_InvalidKey.nv⟩ (.cons ⟨T.E_InvalidLife.n, T.E_InvalidLife.nv⟩ (.cons ⟨T.E_InvalidLetter.n, T.E_InvalidLetter.nv⟩ (.cons ⟨T.E_InvalidActs.n, T.E_InvalidActs.nv⟩ (.cons ⟨T.E_InvalidAct.n, T.E_InvalidAct.nv⟩ (.cons ⟨T.E_InvalidKinds.n, T.E_InvalidKinds.nv⟩ (.cons ⟨T.E_InvalidIndex.n, T.E_InvalidIndex.nv⟩ (.cons ⟨T.E_NotJoined.n, T.E_NotJoined.nv⟩ (.cons ⟨T.E_Stopped.n, T.E_Stopped.nv⟩ (.cons ⟨T.E_Faulty.n, T.E_Faulty.nv⟩ (.cons ⟨T.E_DoNotFit.n, T.E_DoNotFit.nv⟩ (.cons ⟨T.E_SameKey.n, T.E_SameKey.nv⟩ (.cons ⟨T.E_NotHeld.n, T.E_NotHeld.nv⟩ (.cons ⟨T.E_Held.n, T.E_Held.nv⟩ (.cons ⟨T.E_TooMany.n, T.E_TooMany.nv⟩ (.cons ⟨T.E_NotStanding.n, T.E_NotStanding.nv⟩ (.cons ⟨T.E_Down.n, T.E_Down.nv⟩ (.cons ⟨T.E_Up.n, T.E_Up.nv⟩ (.cons ⟨T.E_NoLetter.n, T.E_NoLetter.nv⟩ (.cons ⟨T.E_Refused.n, T.E_Refused.nv⟩ (.cons ⟨T.E_NotWhole.n, T.E_NotWhole.nv⟩ (.cons ⟨T.E_Turned.n, T.E_Turned.nv⟩ (.cons ⟨T.E_NotARoad.n, T.E_NotARoad.nv⟩ (.cons ⟨T.E_NothingUnderWay.n, T.E_NothingUnderWay.nv⟩ (.cons ⟨T.E_NotAhead.n, T.E_NotAhead.nv⟩ (.cons ⟨T.E_SurelyAhead.n, T.E_SurelyAhead.nv⟩ (.cons ⟨T.n_NoStanding, T.nv_NoStanding⟩ .nil)))))))))))))))))))))))))))))))))))))))
theorem paired_mem {α β : Type} {R : α → β → Prop} : ∀ {xs : List α} {ys : List β}, Paired R xs ys → ∀ x ∈ xs, ∃ y ∈ ys, R x y
  | _, _, .nil, _, h => by simp at h
  | _, _, .cons a r, x, h => by
    rcases List.mem_cons.mp h with rfl | h
    · exact ⟨_, by simp, a⟩
    · obtain ⟨y, hy, z⟩ := paired_mem r x h
      exact ⟨y, by simp [hy], z⟩
theorem cat_ok (T : Tx K mg) : ∀ x ∈ cat T, ErrN K T.C_UnsaidError x.2 x.1 ∧ PySem.W.NvCls K x.2 := fun x h => by
  obtain ⟨_, _, z⟩ := paired_mem (all_ok T) x h
  exact z
theorem nodup_fst {α β : Type} : ∀ {l : List (α × β)}, (l.map (·.1)).Nodup → ∀ x ∈ l, ∀ y ∈ l, x.1 = y.1 → x = y
  | [], _, x, h, _, _, _ => by simp at h
  | a :: l, n, x, hx, y, hy, e => by
    rw [List.map_cons, List.nodup_cons] at n
    rcases List.mem_cons.mp hx with ex | hx <;> rcases List.mem_cons.mp hy with ey | hy
    · rw [ex, ey]
    · exact absurd (List.mem_map.mpr ⟨y, hy, by rw [← e, ex]⟩) n.1
    · exact absurd (List.mem_map.mpr ⟨x, hx, by rw [e, ey]⟩) n.1
    · exact nodup_fst n.2 x hx y hy e
theorem cat_ne (T : Tx K mg) : ∀ x ∈ cat T, ∀ y ∈ cat T, x.1 = y.1 → x.2 = y.2 := fun x hx y hy e => by
  rw [nodup_fst (l := cat T) (by rw [cat_nms]; exact nms_nodup) x hx y hy e]
/-- what is kept, by the class -/
def onesF (T : Tx K mg) : List (Str × Addr) := List.zipWith (fun f x => (f, x.2)) flds (ones T)
def spOnes (T : Tx K mg) : Sp := fun vs H Q _ => ∃ v, vs = [v] ∧ ∀ l es H', Same H H' → H' l = some (.lst es) → EsIn H' v (onesF T) es → Q (.ref l) H'
end
theorem first {v : V} {L : List (Str × Addr)} {H : Hp} {R : VK} (hl : L.length ≤ 1000) (k : ∀ es l' H', Same H H' → H' l' = some (.lst es) → EsIn H' v L es → R (.ref l') H') :
    ∀ (es : List V) (H2 : Hp), Same H H2 → EsIn H2 v L es → es.length ≤ sizeLine ∧ ∀ p : Addr, H2 p = none → p ≠ sysModules → R (.ref p) (upd H2 p (.lst es)) := fun es H2 S e => by
  have sz : sizeLine = 16777216 := sizeLine_eq
  have := e.len
  refine ⟨by omega, fun p hp _ => k es p _ (S.trans (Same.new hp)) upd_same (e.same (Same.new hp))⟩
theorem more {v : V} {L0 L : List (Str × Addr)} {es0 : List V} {l0 : Addr} {H1 : Hp} {R : VK} (h0 : H1 l0 = some (.lst es0)) (e0 : EsIn H1 v L0 es0) (hl : L0.length + L.length ≤ 1000)
    (k : ∀ es l' H', Same H1 H' → H' l' = some (.lst (es0 ++ es)) → EsIn H' v (L0 ++ L) (es0 ++ es) → R (.ref l') H') :
    ∀ (es : List V) (H2 : Hp), Same H1 H2 → EsIn H2 v L es → es.length ≤ sizeLine ∧ ∀ p : Addr, H2 p = none → p ≠ sysModules → rCat (.ref l0) (.ref p) (upd H2 p (.lst es)) R := fun es H2 S e => by
  have sz : sizeLine = 16777216 := sizeLine_eq
  have l1 := e.len
  have l2 := e0.len
  refine ⟨by omega, fun p hp _ => ⟨l0, p, es0, es, rfl, rfl, Same.new hp _ _ (S _ _ h0), upd_same, by omega, fun q hq => ?_⟩⟩
  have S2 : Same H1 (upd (upd H2 p (.lst es)) q (.lst (es0 ++ es))) := (S.trans (Same.new hp)).trans (Same.new hq)
  exact k es q _ S2 upd_same ((e0.same S2).app (e.same ((Same.new hp).trans (Same.new hq))))
section
variable {P : Program} {w : World} {K : PySem.W.Frag} {mg : Str → Option Value} {base : Heap}
theorem ok_l_by_place (T : Tx K mg) : FnG P w K mg base 3 T.d_l_by_place.f T.d_l_by_place.fd ["_law_thing_here"] (spOnes T) := by
  refine okG0 T.d_l_by_place.F sc_l_by_place (fun vs H Q E h => ?_) (fun cdv A outer s H vs Q E hg hr h => ?_)
  · obtain ⟨v, rfl, _⟩ := h
    rfl
  obtain ⟨v, rfl, k⟩ := h
  refine ⟨_, (pss_cons (ps_set (i := 1) sc_l_by_place.nd rfl (Or.inl rfl) (pe_lst1 (pa_E1 (pe_E1p T.E_InvalidLine (hr.mono (by decide)) (pv 0)) (pa_E1 (pe_E1p T.E_InvalidText (hr.mono (by decide)) (pv 0)) (pa_E1 (pe_E1p T.E_InvalidCell (hr.mono (by decide)) (pv 0)) (pa_E1 (pe_E1p T.E_InvalidHouses (hr.mono (by decide)) (pv 0)) (pa_E1 (pe_E1p T.E_InvalidRoads (hr.mono (by decide)) (pv 0)) pa_E0)))))))
    (pss_cons (ps_set (i := 1) sc_l_by_place.nd rfl (Or.inl rfl) (pe_op op_cat (pv 1) (pe_lst1 (pa_E1 (pe_E1p T.E_InvalidHouse (hr.mono (by decide)) (pv 0)) (pa_E1 (pe_E1p T.E_InvalidSigns (hr.mono (by decide)) (pv 0)) (pa_E1 (pe_E1p T.E_InvalidCount (hr.mono (by decide)) (pv 0)) (pa_E1 (pe_E1p T.E_InvalidLines (hr.mono (by decide)) (pv 0)) pa_E0)))))))
    (pss_cons (ps_set (i := 1) sc_l_by_place.nd rfl (Or.inl rfl) (pe_op op_cat (pv 1) (pe_lst1 (pa_E1 (pe_E1p T.E_InvalidScript (hr.mono (by decide)) (pv 0)) (pa_E1 (pe_E1p T.E_InvalidRows (hr.mono (by decide)) (pv 0)) (pa_E1 (pe_E1p T.E_InvalidLater (hr.mono (by decide)) (pv 0)) (pa_E1 (pe_E1p T.E_InvalidKey (hr.mono (by decide)) (pv 0)) pa_E0)))))))
    (pss_cons (ps_set (i := 1) sc_l_by_place.nd rfl (Or.inl rfl) (pe_op op_cat (pv 1) (pe_lst1 (pa_E1 (pe_E1p T.E_InvalidLife (hr.mono (by decide)) (pv 0)) (pa_E1 (pe_E1p T.E_InvalidLetter (hr.mono (by decide)) (pv 0)) (pa_E1 (pe_E1p T.E_InvalidActs (hr.mono (by decide)) (pv 0)) (pa_E1 (pe_E1p T.E_InvalidAct (hr.mono (by decide)) (pv 0)) pa_E0)))))))
    (pss_cons (ps_set (i := 1) sc_l_by_place.nd rfl (Or.inl rfl) (pe_op op_cat (pv 1) (pe_lst1 (pa_E1 (pe_E1p T.E_InvalidKinds (hr.mono (by decide)) (pv 0)) (pa_E1 (pe_E1p T.E_InvalidIndex (hr.mono (by decide)) (pv 0)) pa_E0)))))
    (pss_cons (ps_set (i := 1) sc_l_by_place.nd rfl (Or.inl rfl) (pe_op op_cat (pv 1) (pe_lst1 (pa_E1 (pe_E1p T.E_NotJoined (hr.mono (by decide)) (pv 0)) (pa_E1 (pe_E1p T.E_Stopped (hr.mono (by decide)) (pv 0)) (pa_E1 (pe_E1p T.E_Faulty (hr.mono (by decide)) (pv 0)) (pa_E1 (pe_E1p T.E_DoNotFit (hr.mono (by decide)) (pv 0)) (pa_E1 (pe_E1p T.E_SameKey (hr.mono (by decide)) (pv 0)) pa_E0))))))))
    (pss_cons (ps_set (i := 1) sc_l_by_place.nd rfl (Or.inl rfl) (pe_op op_cat (pv 1) (pe_lst1 (pa_E1 (pe_E1p T.E_NotHeld (hr.mono (by decide)) (pv 0)) (pa_E1 (pe_E1p T.E_Held (hr.mono (by decide)) (pv 0)) (pa_E1 (pe_E1p T.E_TooMany (hr.mono (by decide)) (pv 0)) (pa_E1 (pe_E1p T.E_NotStanding (hr.mono (by decide)) (pv 0)) (pa_E1 (pe_E1p T.E_Down (hr.mono (by decide)) (pv 0)) (pa_E1 (pe_E1p T.E_Up (hr.mono (by decide)) (pv 0)) pa_E0)))))))))
    (pss_one (ps_ret (pe_op op_cat (pv 1) (pe_lst1 (pa_E1 (pe_E1p T.E_NoLetter (hr.mono (by decide)) (pv 0)) (pa_E1 (pe_E1p T.E_Refused (hr.mono (by decide)) (pv 0)) (pa_E1 (pe_E1p T.E_NotWhole (hr.mono (by decide)) (pv 0)) (pa_E1 (pe_E1p T.E_Turned (hr.mono (by decide)) (pv 0)) pa_E0))))))))))))))), ?_⟩
  walk_at "rx"
  intro es1 G1 T1 x1
  refine ⟨by rw [x1.len, sizeLine_eq]; exact Nat.le_of_ble_eq_true rfl, fun l1 hl1 _ => ?_⟩
  obtain ⟨H1, eh1, U1, h1⟩ := gen_new (.lst es1) hl1
  rw [eh1]
  have S1 := T1.trans U1
  have e1 := x1.same U1
  refine more h1 e1 (Nat.le_of_ble_eq_true rfl) fun es2 l2 H2 S2 h2 e2 => ?_
  refine more h2 e2 (Nat.le_of_ble_eq_true rfl) fun es3 l3 H3 S3 h3 e3 => ?_
  refine more h3 e3 (Nat.le_of_ble_eq_true rfl) fun es4 l4 H4 S4 h4 e4 => ?_
  refine more h4 e4 (Nat.le_of_ble_eq_true rfl) fun es5 l5 H5 S5 h5 e5 => ?_
  refine more h5 e5 (Nat.le_of_ble_eq_true rfl) fun es6 l6 H6 S6 h6 e6 => ?_
  refine more h6 e6 (Nat.le_of_ble_eq_true rfl) fun es7 l7 H7 S7 h7 e7 => ?_
  refine more h7 e7 (Nat.le_of_ble_eq_true rfl) fun es8 l8 H8 S8 h8 e8 => ?_
  exact k _ _ _ (Same.trans (Same.trans (Same.trans (Same.trans (Same.trans (Same.trans (Same.trans S1 S2) S3) S4) S5) S6) S7) S8) h8 e8
theorem ok_l_by_name (T : Tx K mg) : FnG P w K mg base 3 T.d_l_by_name.f T.d_l_by_name.fd ["_law_thing_here"] (spOnes T) := by
  refine okG0 T.d_l_by_name.F sc_l_by_name (fun vs H Q E h => ?_) (fun cdv A outer s H vs Q E hg hr h => ?_)
  · obtain ⟨v, rfl, _⟩ := h
    rfl
  obtain ⟨v, rfl, k⟩ := h
  refine ⟨_, (pss_cons (ps_set (i := 1) sc_l_by_name.nd rfl (Or.inl rfl) (pe_lst1 (pa_E1 (pe_E1k T.E_InvalidLine (hr.mono (by decide)) (pv 0)) (pa_E1 (pe_E1k T.E_InvalidText (hr.mono (by decide)) (pv 0)) (pa_E1 (pe_E1k T.E_InvalidCell (hr.mono (by decide)) (pv 0)) pa_E0)))))
    (pss_cons (ps_set (i := 1) sc_l_by_name.nd rfl (Or.inl rfl) (pe_op op_cat (pv 1) (pe_lst1 (pa_E1 (pe_E1k T.E_InvalidHouses (hr.mono (by decide)) (pv 0)) (pa_E1 (pe_E1k T.E_InvalidRoads (hr.mono (by decide)) (pv 0)) (pa_E1 (pe_E1k T.E_InvalidHouse (hr.mono (by decide)) (pv 0)) pa_E0))))))
    (pss_cons (ps_set (i := 1) sc_l_by_name.nd rfl (Or.inl rfl) (pe_op op_cat (pv 1) (pe_lst1 (pa_E1 (pe_E1k T.E_InvalidSigns (hr.mono (by decide)) (pv 0)) (pa_E1 (pe_E1k T.E_InvalidCount (hr.mono (by decide)) (pv 0)) (pa_E1 (pe_E1k T.E_InvalidLines (hr.mono (by decide)) (pv 0)) pa_E0))))))
    (pss_cons (ps_set (i := 1) sc_l_by_name.nd rfl (Or.inl rfl) (pe_op op_cat (pv 1) (pe_lst1 (pa_E1 (pe_E1k T.E_InvalidScript (hr.mono (by decide)) (pv 0)) (pa_E1 (pe_E1k T.E_InvalidRows (hr.mono (by decide)) (pv 0)) (pa_E1 (pe_E1k T.E_InvalidLater (hr.mono (by decide)) (pv 0)) pa_E0))))))
    (pss_cons (ps_set (i := 1) sc_l_by_name.nd rfl (Or.inl rfl) (pe_op op_cat (pv 1) (pe_lst1 (pa_E1 (pe_E1k T.E_InvalidKey (hr.mono (by decide)) (pv 0)) (pa_E1 (pe_E1k T.E_InvalidLife (hr.mono (by decide)) (pv 0)) (pa_E1 (pe_E1k T.E_InvalidLetter (hr.mono (by decide)) (pv 0)) pa_E0))))))
    (pss_cons (ps_set (i := 1) sc_l_by_name.nd rfl (Or.inl rfl) (pe_op op_cat (pv 1) (pe_lst1 (pa_E1 (pe_E1k T.E_InvalidActs (hr.mono (by decide)) (pv 0)) (pa_E1 (pe_E1k T.E_InvalidAct (hr.mono (by decide)) (pv 0)) (pa_E1 (pe_E1k T.E_InvalidKinds (hr.mono (by decide)) (pv 0)) pa_E0))))))
    (pss_cons (ps_set (i := 1) sc_l_by_name.nd rfl (Or.inl rfl) (pe_op op_cat (pv 1) (pe_lst1 (pa_E1 (pe_E1k T.E_InvalidIndex (hr.mono (by decide)) (pv 0)) (pa_E1 (pe_E1k T.E_NotJoined (hr.mono (by decide)) (pv 0)) (pa_E1 (pe_E1k T.E_Stopped (hr.mono (by decide)) (pv 0)) pa_E0))))))
    (pss_cons (ps_set (i := 1) sc_l_by_name.nd rfl (Or.inl rfl) (pe_op op_cat (pv 1) (pe_lst1 (pa_E1 (pe_E1k T.E_Faulty (hr.mono (by decide)) (pv 0)) (pa_E1 (pe_E1k T.E_DoNotFit (hr.mono (by decide)) (pv 0)) (pa_E1 (pe_E1k T.E_SameKey (hr.mono (by decide)) (pv 0)) (pa_E1 (pe_E1k T.E_NotHeld (hr.mono (by decide)) (pv 0)) pa_E0)))))))
    (pss_cons (ps_set (i := 1) sc_l_by_name.nd rfl (Or.inl rfl) (pe_op op_cat (pv 1) (pe_lst1 (pa_E1 (pe_E1k T.E_Held (hr.mono (by decide)) (pv 0)) (pa_E1 (pe_E1k T.E_TooMany (hr.mono (by decide)) (pv 0)) (pa_E1 (pe_E1k T.E_NotStanding (hr.mono (by decide)) (pv 0)) (pa_E1 (pe_E1k T.E_Down (hr.mono (by decide)) (pv 0)) pa_E0)))))))
    (pss_one (ps_ret (pe_op op_cat (pv 1) (pe_lst1 (pa_E1 (pe_E1k T.E_Up (hr.mono (by decide)) (pv 0)) (pa_E1 (pe_E1k T.E_NoLetter (hr.mono (by decide)) (pv 0)) (pa_E1 (pe_E1k T.E_Refused (hr.mono (by decide)) (pv 0)) (pa_E1 (pe_E1k T.E_NotWhole (hr.mono (by decide)) (pv 0)) (pa_E1 (pe_E1k T.E_Turned (hr.mono (by decide)) (pv 0)) pa_E0)))))))))))))))))), ?_⟩
  walk_at "rx"
  intro es1 G1 T1 x1
  refine ⟨by rw [x1.len, sizeLine_eq]; exact Nat.le_of_ble_eq_true rfl, fun l1 hl1 _ => ?_⟩
  obtain ⟨H1, eh1, U1, h1⟩ := gen_new (.lst es1) hl1
  rw [eh1]
  have S1 := T1.trans U1
  have e1 := x1.same U1
  refine more h1 e1 (Nat.le_of_ble_eq_true rfl) fun es2 l2 H2 S2 h2 e2 => ?_
  refine more h2 e2 (Nat.le_of_ble_eq_true rfl) fun es3 l3 H3 S3 h3 e3 => ?_
  refine more h3 e3 (Nat.le_of_ble_eq_true rfl) fun es4 l4 H4 S4 h4 e4 => ?_
  refine more h4 e4 (Nat.le_of_ble_eq_true rfl) fun es5 l5 H5 S5 h5 e5 => ?_
  refine more h5 e5 (Nat.le_of_ble_eq_true rfl) fun es6 l6 H6 S6 h6 e6 => ?_
  refine more h6 e6 (Nat.le_of_ble_eq_true rfl) fun es7 l7 H7 S7 h7 e7 => ?_
  refine more h7 e7 (Nat.le_of_ble_eq_true rfl) fun es8 l8 H8 S8 h8 e8 => ?_
  refine more h8 e8 (Nat.le_of_ble_eq_true rfl) fun es9 l9 H9 S9 h9 e9 => ?_
  refine more h9 e9 (Nat.le_of_ble_eq_true rfl) fun es10 l10 H10 S10 h10 e10 => ?_
  exact k _ _ _ (Same.trans (Same.trans (Same.trans (Same.trans (Same.trans (Same.trans (Same.trans (Same.trans (Same.trans S1 S2) S3) S4) S5) S6) S7) S8) S9) S10) h10 e10
end
end K00



namespace K00
open PySem L2 Nv

section
variable {K : PySem.W.Frag} {mg : Str → Option Value}
def twosF (T : Tx K mg) : List ((Str × Str) × Addr) := List.zipWith (fun f x => (f, x.2)) pfl (twos T)
def TwIn (H : Hp) (v1 v2 : V) (L : List ((Str × Str) × Addr)) (es : List V) : Prop := Paired (fun e (x : (Str × Str) × Addr) => ∃ a, e = V.ref a ∧ ExF [] H a x.2 [(x.1.2, v2), (x.1.1, v1)]) es L
theorem TwIn.same {H H' : Hp} {v1 v2 : V} {L : List ((Str × Str) × Addr)} {es : List V} (h : TwIn H v1 v2 L es) (s : Same H H') : TwIn H' v1 v2 L es := paired_same (fun _ _ ⟨a, e, x⟩ => ⟨a, e, x.same s⟩) h
def spPairs (T : Tx K mg) : Sp := fun vs H Q _ => ∃ v1 v2, ∃ i : Nat, vs = [v1, v2, .int i] ∧ i < 4 ∧ ∀ l es H', Same H H' → H' l = some (.lst es) → TwIn H' v1 v2 (twosF T) es → Q (.ref l) H'
end
section
variable {P : Program} {w : World} {K : PySem.W.Frag} {mg : Str → Option Value} {base : Heap}
theorem ok_l_pairs (T : Tx K mg) : FnG P w K mg base 3 T.d_l_pairs.f T.d_l_pairs.fd ["_law_one", "_law_other", "_law_way"] (spPairs T) := by
  refine okG0 T.d_l_pairs.F sc_l_pairs (fun vs H Q E h => ?_) (fun cdv A outer s H vs Q E hg hr h => ?_)
  · obtain ⟨v1, v2, i, rfl, _⟩ := h
    rfl
  obtain ⟨v1, v2, i, rfl, hi, k⟩ := h
  have sz : sizeLine = 16777216 := sizeLine_eq
  refine ⟨_, (pss_cons (ps_if (pt_cmpR op_eq (pv 2) pe_int (nomark _))
      (pss_one (ps_ret (pe_lst1 (pa_cons (pe_E2p T.E_NotARoad (hr.mono (by decide)) (pa_cons (pv 0) (pa_cons (pv 1) pa_nil))) (pa_cons (pe_E2p T.E_NothingUnderWay (hr.mono (by decide)) (pa_cons (pv 0) (pa_cons (pv 1) pa_nil))) (pa_cons (pe_E2p T.E_NotAhead (hr.mono (by decide)) (pa_cons (pv 0) (pa_cons (pv 1) pa_nil))) (pa_cons (pe_E2p T.E_SurelyAhead (hr.mono (by decide)) (pa_cons (pv 0) (pa_cons (pv 1) pa_nil))) pa_nil)))))))
      pss_nil)
    (pss_cons (ps_if (pt_cmpR op_eq (pv 2) pe_int (nomark _))
      (pss_cons (ps_set (i := 3) sc_l_pairs.nd rfl (Or.inl rfl) (pe_lst1 (pa_cons (pe_E2k T.E_NotARoad (hr.mono (by decide)) (pk_cons (pv 0) (pk_cons (pv 1) pk_nil))) (pa_cons (pe_E2k T.E_NothingUnderWay (hr.mono (by decide)) (pk_cons (pv 0) (pk_cons (pv 1) pk_nil))) pa_nil))))
      (pss_one (ps_ret (pe_op op_cat (pv 3) (pe_lst1 (pa_cons (pe_E2k T.E_NotAhead (hr.mono (by decide)) (pk_cons (pv 0) (pk_cons (pv 1) pk_nil))) (pa_cons (pe_E2k T.E_SurelyAhead (hr.mono (by decide)) (pk_cons (pv 0) (pk_cons (pv 1) pk_nil))) pa_nil)))))))
      pss_nil)
    (pss_cons (ps_if (pt_cmpR op_eq (pv 2) pe_int (nomark _))
      (pss_cons (ps_set (i := 3) sc_l_pairs.nd rfl (Or.inl rfl) (pe_lst1 (pa_cons (pe_E2r T.E_NotARoad (hr.mono (by decide)) (pk_cons (pv 1) (pk_cons (pv 0) pk_nil))) (pa_cons (pe_E2r T.E_NothingUnderWay (hr.mono (by decide)) (pk_cons (pv 1) (pk_cons (pv 0) pk_nil))) pa_nil))))
      (pss_one (ps_ret (pe_op op_cat (pv 3) (pe_lst1 (pa_cons (pe_E2r T.E_NotAhead (hr.mono (by decide)) (pk_cons (pv 1) (pk_cons (pv 0) pk_nil))) (pa_cons (pe_E2r T.E_SurelyAhead (hr.mono (by decide)) (pk_cons (pv 1) (pk_cons (pv 0) pk_nil))) pa_nil)))))))
      pss_nil)
    (pss_cons (ps_set (i := 3) sc_l_pairs.nd rfl (Or.inl rfl) (pe_lst1 (pa_cons (pe_E2m T.E_NotARoad (hr.mono (by decide)) (pv 0) (pv 1)) (pa_cons (pe_E2m T.E_NothingUnderWay (hr.mono (by decide)) (pv 0) (pv 1)) pa_nil))))
    (pss_one (ps_ret (pe_op op_cat (pv 3) (pe_lst1 (pa_cons (pe_E2m T.E_NotAhead (hr.mono (by decide)) (pv 0) (pv 1)) (pa_cons (pe_E2m T.E_SurelyAhead (hr.mono (by decide)) (pv 0) (pv 1)) pa_nil)))))))))), ?_⟩
  walk_at "rx"
  have c : i = 0 ∨ i = 1 ∨ i = 2 ∨ i = 3 := by omega
  have done4 : ∀ {H1 H2 H3 H4 : Hp} {a b c d : Addr}, Same H1 H2 → Same H2 H3 → Same H3 H4 → Same H H1 → ExF [] H1 a T.C_NotARoad [("v", v2), ("u", v1)] → ExF [] H2 b T.C_NothingUnderWay [("v", v2), ("u", v1)] → ExF [] H3 c T.C_NotAhead [("z", v2), ("x", v1)] → ExF [] H4 d T.C_SurelyAhead [("z", v2), ("x", v1)] →
      ∀ (p : Addr) (H5 : Hp), Same H4 H5 → H5 p = some (.lst [V.ref a, V.ref b, V.ref c, V.ref d]) → Q (.ref p) H5 := fun S12 S23 S34 S1 e1 e2 e3 e4 p H5 S5 hp =>
    k p _ H5 (((S1.trans S12).trans S23).trans (S34.trans S5)) hp (.cons ⟨_, rfl, e1.same ((S12.trans S23).trans (S34.trans S5))⟩ (.cons ⟨_, rfl, e2.same (S23.trans (S34.trans S5))⟩ (.cons ⟨_, rfl, e3.same (S34.trans S5)⟩ (.cons ⟨_, rfl, e4.same S5⟩ .nil))))
  rcases c with rfl | rfl | rfl | rfl
  · refine ⟨by rfl, ?_⟩
    rw [if_pos (by decide)]
    refine ⟨v1, v2, ⟨rfl, rfl⟩, fun a H1 S1 _ e1 => ⟨v1, v2, ⟨rfl, rfl⟩, fun b H2 S2 _ e2 => ⟨v1, v2, ⟨rfl, rfl⟩, fun c H3 S3 _ e3 => ⟨v1, v2, ⟨rfl, rfl⟩, fun d H4 S4 _ e4 => ?_⟩⟩⟩⟩
    exact ⟨by rw [sz]; decide, fun p hp _ => done4 S2 S3 S4 S1 e1 e2 e3 e4 p _ (Same.new hp) upd_same⟩
  all_goals refine ⟨by rfl, ?_⟩
  all_goals rw [if_neg (by decide)]
  all_goals refine ⟨by rfl, ?_⟩
  · rw [if_pos (by decide)]
    refine ⟨v1, v2, ⟨rfl, rfl⟩, fun a H1 S1 _ e1 => ⟨v1, v2, ⟨rfl, rfl⟩, fun b H2 S2 _ e2 => ⟨by rw [sz]; decide, fun q hq _ => ⟨v1, v2, ⟨rfl, rfl⟩, fun c H3 S3 _ e3 => ⟨v1, v2, ⟨rfl, rfl⟩, fun d H4 S4 _ e4 => ?_⟩⟩⟩⟩⟩
    exact ⟨by rw [sz]; decide, fun p hp _ => ⟨q, p, _, _, rfl, rfl, Same.new hp _ _ (S4 _ _ (S3 _ _ upd_same)), upd_same, by rw [sz]; exact Nat.le_of_ble_eq_true rfl, fun r hr => done4 S2 ((Same.new hq).trans S3) S4 S1 e1 e2 e3 e4 r _ ((Same.new hp).trans (Same.new hr)) upd_same⟩⟩
  all_goals rw [if_neg (by decide)]
  all_goals refine ⟨by rfl, ?_⟩
  · rw [if_pos (by decide)]
    refine ⟨v1, v2, rfl, fun a H1 S1 _ e1 => ⟨v1, v2, rfl, fun b H2 S2 _ e2 => ⟨by rw [sz]; decide, fun q hq _ => ⟨v1, v2, rfl, fun c H3 S3 _ e3 => ⟨v1, v2, rfl, fun d H4 S4 _ e4 => ?_⟩⟩⟩⟩⟩
    exact ⟨by rw [sz]; decide, fun p hp _ => ⟨q, p, _, _, rfl, rfl, Same.new hp _ _ (S4 _ _ (S3 _ _ upd_same)), upd_same, by rw [sz]; exact Nat.le_of_ble_eq_true rfl, fun r hr => done4 S2 ((Same.new hq).trans S3) S4 S1 e1 e2 e3 e4 r _ ((Same.new hp).trans (Same.new hr)) upd_same⟩⟩
  · rw [if_neg (by decide)]
    refine ⟨v1, v2, ⟨rfl, rfl⟩, fun a H1 S1 _ e1 => ⟨v1, v2, ⟨rfl, rfl⟩, fun b H2 S2 _ e2 => ⟨by rw [sz]; decide, fun q hq _ => ⟨v1, v2, ⟨rfl, rfl⟩, fun c H3 S3 _ e3 => ⟨v1, v2, ⟨rfl, rfl⟩, fun d H4 S4 _ e4 => ?_⟩⟩⟩⟩⟩
    exact ⟨by rw [sz]; decide, fun p hp _ => ⟨q, p, _, _, rfl, rfl, Same.new hp _ _ (S4 _ _ (S3 _ _ upd_same)), upd_same, by rw [sz]; exact Nat.le_of_ble_eq_true rfl, fun r hr => done4 S2 ((Same.new hq).trans S3) S4 S1 e1 e2 e3 e4 r _ ((Same.new hp).trans (Same.new hr)) upd_same⟩⟩
end
end K00



namespace K00
open PySem L2 L2H Nv

theorem sl {α : Type} {l : List α} {i m : Nat} {x : α} (h : x ∈ (l.drop i).take m) : x ∈ l := List.mem_of_mem_drop (List.mem_of_mem_take h)
theorem new2 {H H1 : Hp} {p q : Addr} {o1 o2 : HO} (S : Same H H1) (hp : H1 p = none) (hq : upd H1 p o1 q = none) : ∃ H2, upd (upd H1 p o1) q o2 = H2 ∧ Same H H2 ∧ H2 q = some o2 :=
  ⟨_, rfl, (S.trans (Same.new hp)).trans (Same.new hq), upd_same⟩
section
variable {K : PySem.W.Frag} {mg : Str → Option Value}
def spSorts (T : Tx K mg) (pn : List (Addr × Obj)) : Sp := fun vs H Q _ => ∃ a C n fs, vs = [.ref a] ∧ ExF pn H a C fs ∧ (n, C) ∈ cat T ∧ ∀ l H', Same H H' → H' l = some (.lst ((cat T).map fun x => .bl (decide (n = x.1)))) → Q (.ref l) H'
end
section
variable {P : Program} {w : World} {K : PySem.W.Frag} {mg : Str → Option Value} {base : Heap}
theorem ok_l_sorts (T : Tx K mg) : FnG P w K mg base 1 T.d_l_sorts.f T.d_l_sorts.fd ["_law_e"] (spSorts T []) := by
  refine okG0 T.d_l_sorts.F sc_l_sorts (fun vs H Q E h => ?_) (fun cdv A outer s H vs Q E hg hr h => ?_)
  · obtain ⟨a, C, n, fs, rfl, _⟩ := h
    rfl
  obtain ⟨a, C, n, fs, rfl, ex, hn, k⟩ := h
  have sz : sizeLine = 16777216 := sizeLine_eq
  obtain ⟨en, nv⟩ := cat_ok T _ hn
  refine ⟨_, (pss_cons (ps_set (i := 1) sc_l_sorts.nd rfl (Or.inl rfl) (pe_lst1 (pa_s1 T.E_InvalidLine.n (T.E_InvalidLine.n.nu T.u_UnsaidError) (pe_callB call_isiX (by rfl) T.n_isinstance (by decide +kernel) (pa_cons (pv 0) (pa_cons (pe_glob (v := .ref T.C_InvalidLine) rfl T.E_InvalidLine.gC rfl) pa_nil))) (pa_s1 T.E_InvalidText.n (T.E_InvalidText.n.nu T.u_UnsaidError) (pe_callB call_isiX (by rfl) T.n_isinstance (by decide +kernel) (pa_cons (pv 0) (pa_cons (pe_glob (v := .ref T.C_InvalidText) rfl T.E_InvalidText.gC rfl) pa_nil))) (pa_s1 T.E_InvalidCell.n (T.E_InvalidCell.n.nu T.u_UnsaidError) (pe_callB call_isiX (by rfl) T.n_isinstance (by decide +kernel) (pa_cons (pv 0) (pa_cons (pe_glob (v := .ref T.C_InvalidCell) rfl T.E_InvalidCell.gC rfl) pa_nil))) pa_s0)))))
    (pss_cons (ps_set (i := 1) sc_l_sorts.nd rfl (Or.inl rfl) (pe_op op_cat (pv 1) (pe_lst1 (pa_s1 T.E_InvalidHouses.n (T.E_InvalidHouses.n.nu T.u_UnsaidError) (pe_callB call_isiX (by rfl) T.n_isinstance (by decide +kernel) (pa_cons (pv 0) (pa_cons (pe_glob (v := .ref T.C_InvalidHouses) rfl T.E_InvalidHouses.gC rfl) pa_nil))) (pa_s1 T.E_InvalidRoads.n (T.E_InvalidRoads.n.nu T.u_UnsaidError) (pe_callB call_isiX (by rfl) T.n_isinstance (by decide +kernel) (pa_cons (pv 0) (pa_cons (pe_glob (v := .ref T.C_InvalidRoads) rfl T.E_InvalidRoads.gC rfl) pa_nil))) (pa_s1 T.E_InvalidHouse.n (T.E_InvalidHouse.n.nu T.u_UnsaidError) (pe_callB call_isiX (by rfl) T.n_isinstance (by decide +kernel) (pa_cons (pv 0) (pa_cons (pe_glob (v := .ref T.C_InvalidHouse) rfl T.E_InvalidHouse.gC rfl) pa_nil))) pa_s0))))))
    (pss_cons (ps_set (i := 1) sc_l_sorts.nd rfl (Or.inl rfl) (pe_op op_cat (pv 1) (pe_lst1 (pa_s1 T.E_InvalidSigns.n (T.E_InvalidSigns.n.nu T.u_UnsaidError) (pe_callB call_isiX (by rfl) T.n_isinstance (by decide +kernel) (pa_cons (pv 0) (pa_cons (pe_glob (v := .ref T.C_InvalidSigns) rfl T.E_InvalidSigns.gC rfl) pa_nil))) (pa_s1 T.E_InvalidCount.n (T.E_InvalidCount.n.nu T.u_UnsaidError) (pe_callB call_isiX (by rfl) T.n_isinstance (by decide +kernel) (pa_cons (pv 0) (pa_cons (pe_glob (v := .ref T.C_InvalidCount) rfl T.E_InvalidCount.gC rfl) pa_nil))) (pa_s1 T.E_InvalidLines.n (T.E_InvalidLines.n.nu T.u_UnsaidError) (pe_callB call_isiX (by rfl) T.n_isinstance (by decide +kernel) (pa_cons (pv 0) (pa_cons (pe_glob (v := .ref T.C_InvalidLines) rfl T.E_InvalidLines.gC rfl) pa_nil))) pa_s0))))))
    (pss_cons (ps_set (i := 1) sc_l_sorts.nd rfl (Or.inl rfl) (pe_op op_cat (pv 1) (pe_lst1 (pa_s1 T.E_InvalidScript.n (T.E_InvalidScript.n.nu T.u_UnsaidError) (pe_callB call_isiX (by rfl) T.n_isinstance (by decide +kernel) (pa_cons (pv 0) (pa_cons (pe_glob (v := .ref T.C_InvalidScript) rfl T.E_InvalidScript.gC rfl) pa_nil))) (pa_s1 T.E_InvalidRows.n (T.E_InvalidRows.n.nu T.u_UnsaidError) (pe_callB call_isiX (by rfl) T.n_isinstance (by decide +kernel) (pa_cons (pv 0) (pa_cons (pe_glob (v := .ref T.C_InvalidRows) rfl T.E_InvalidRows.gC rfl) pa_nil))) (pa_s1 T.E_InvalidLater.n (T.E_InvalidLater.n.nu T.u_UnsaidError) (pe_callB call_isiX (by rfl) T.n_isinstance (by decide +kernel) (pa_cons (pv 0) (pa_cons (pe_glob (v := .ref T.C_InvalidLater) rfl T.E_InvalidLater.gC rfl) pa_nil))) pa_s0))))))
    (pss_cons (ps_set (i := 1) sc_l_sorts.nd rfl (Or.inl rfl) (pe_op op_cat (pv 1) (pe_lst1 (pa_s1 T.E_InvalidKey.n (T.E_InvalidKey.n.nu T.u_UnsaidError) (pe_callB call_isiX (by rfl) T.n_isinstance (by decide +kernel) (pa_cons (pv 0) (pa_cons (pe_glob (v := .ref T.C_InvalidKey) rfl T.E_InvalidKey.gC rfl) pa_nil))) (pa_s1 T.E_InvalidLife.n (T.E_InvalidLife.n.nu T.u_UnsaidError) (pe_callB call_isiX (by rfl) T.n_isinstance (by decide +kernel) (pa_cons (pv 0) (pa_cons (pe_glob (v := .ref T.C_InvalidLife) rfl T.E_InvalidLife.gC rfl) pa_nil))) (pa_s1 T.E_InvalidLetter.n (T.E_InvalidLetter.n.nu T.u_UnsaidError) (pe_callB call_isiX (by rfl) T.n_isinstance (by decide +kernel) (pa_cons (pv 0) (pa_cons (pe_glob (v := .ref T.C_InvalidLetter) rfl T.E_InvalidLetter.gC rfl) pa_nil))) pa_s0))))))
    (pss_cons (ps_set (i := 1) sc_l_sorts.nd rfl (Or.inl rfl) (pe_op op_cat (pv 1) (pe_lst1 (pa_s1 T.E_InvalidActs.n (T.E_InvalidActs.n.nu T.u_UnsaidError) (pe_callB call_isiX (by rfl) T.n_isinstance (by decide +kernel) (pa_cons (pv 0) (pa_cons (pe_glob (v := .ref T.C_InvalidActs) rfl T.E_InvalidActs.gC rfl) pa_nil))) (pa_s1 T.E_InvalidAct.n (T.E_InvalidAct.n.nu T.u_UnsaidError) (pe_callB call_isiX (by rfl) T.n_isinstance (by decide +kernel) (pa_cons (pv 0) (pa_cons (pe_glob (v := .ref T.C_InvalidAct) rfl T.E_InvalidAct.gC rfl) pa_nil))) (pa_s1 T.E_InvalidKinds.n (T.E_InvalidKinds.n.nu T.u_UnsaidError) (pe_callB call_isiX (by rfl) T.n_isinstance (by decide +kernel) (pa_cons (pv 0) (pa_cons (pe_glob (v := .ref T.C_InvalidKinds) rfl T.E_InvalidKinds.gC rfl) pa_nil))) pa_s0))))))
    (pss_cons (ps_set (i := 1) sc_l_sorts.nd rfl (Or.inl rfl) (pe_op op_cat (pv 1) (pe_lst1 (pa_s1 T.E_InvalidIndex.n (T.E_InvalidIndex.n.nu T.u_UnsaidError) (pe_callB call_isiX (by rfl) T.n_isinstance (by decide +kernel) (pa_cons (pv 0) (pa_cons (pe_glob (v := .ref T.C_InvalidIndex) rfl T.E_InvalidIndex.gC rfl) pa_nil))) (pa_s1 T.E_NotJoined.n (T.E_NotJoined.n.nu T.u_UnsaidError) (pe_callB call_isiX (by rfl) T.n_isinstance (by decide +kernel) (pa_cons (pv 0) (pa_cons (pe_glob (v := .ref T.C_NotJoined) rfl T.E_NotJoined.gC rfl) pa_nil))) pa_s0)))))
    (pss_cons (ps_set (i := 1) sc_l_sorts.nd rfl (Or.inl rfl) (pe_op op_cat (pv 1) (pe_lst1 (pa_s1 T.E_Stopped.n (T.E_Stopped.n.nu T.u_UnsaidError) (pe_callB call_isiX (by rfl) T.n_isinstance (by decide +kernel) (pa_cons (pv 0) (pa_cons (pe_glob (v := .ref T.C_Stopped) rfl T.E_Stopped.gC rfl) pa_nil))) (pa_s1 T.E_Faulty.n (T.E_Faulty.n.nu T.u_UnsaidError) (pe_callB call_isiX (by rfl) T.n_isinstance (by decide +kernel) (pa_cons (pv 0) (pa_cons (pe_glob (v := .ref T.C_Faulty) rfl T.E_Faulty.gC rfl) pa_nil))) (pa_s1 T.E_DoNotFit.n (T.E_DoNotFit.n.nu T.u_UnsaidError) (pe_callB call_isiX (by rfl) T.n_isinstance (by decide +kernel) (pa_cons (pv 0) (pa_cons (pe_glob (v := .ref T.C_DoNotFit) rfl T.E_DoNotFit.gC rfl) pa_nil))) (pa_s1 T.E_SameKey.n (T.E_SameKey.n.nu T.u_UnsaidError) (pe_callB call_isiX (by rfl) T.n_isinstance (by decide +kernel) (pa_cons (pv 0) (pa_cons (pe_glob (v := .ref T.C_SameKey) rfl T.E_SameKey.gC rfl) pa_nil))) pa_s0)))))))
    (pss_cons (ps_set (i := 1) sc_l_sorts.nd rfl (Or.inl rfl) (pe_op op_cat (pv 1) (pe_lst1 (pa_s1 T.E_NotHeld.n (T.E_NotHeld.n.nu T.u_UnsaidError) (pe_callB call_isiX (by rfl) T.n_isinstance (by decide +kernel) (pa_cons (pv 0) (pa_cons (pe_glob (v := .ref T.C_NotHeld) rfl T.E_NotHeld.gC rfl) pa_nil))) (pa_s1 T.E_Held.n (T.E_Held.n.nu T.u_UnsaidError) (pe_callB call_isiX (by rfl) T.n_isinstance (by decide +kernel) (pa_cons (pv 0) (pa_cons (pe_glob (v := .ref T.C_Held) rfl T.E_Held.gC rfl) pa_nil))) (pa_s1 T.E_TooMany.n (T.E_TooMany.n.nu T.u_UnsaidError) (pe_callB call_isiX (by rfl) T.n_isinstance (by decide +kernel) (pa_cons (pv 0) (pa_cons (pe_glob (v := .ref T.C_TooMany) rfl T.E_TooMany.gC rfl) pa_nil))) (pa_s1 T.E_NotStanding.n (T.E_NotStanding.n.nu T.u_UnsaidError) (pe_callB call_isiX (by rfl) T.n_isinstance (by decide +kernel) (pa_cons (pv 0) (pa_cons (pe_glob (v := .ref T.C_NotStanding) rfl T.E_NotStanding.gC rfl) pa_nil))) pa_s0)))))))
    (pss_cons (ps_set (i := 1) sc_l_sorts.nd rfl (Or.inl rfl) (pe_op op_cat (pv 1) (pe_lst1 (pa_s1 T.E_Down.n (T.E_Down.n.nu T.u_UnsaidError) (pe_callB call_isiX (by rfl) T.n_isinstance (by decide +kernel) (pa_cons (pv 0) (pa_cons (pe_glob (v := .ref T.C_Down) rfl T.E_Down.gC rfl) pa_nil))) (pa_s1 T.E_Up.n (T.E_Up.n.nu T.u_UnsaidError) (pe_callB call_isiX (by rfl) T.n_isinstance (by decide +kernel) (pa_cons (pv 0) (pa_cons (pe_glob (v := .ref T.C_Up) rfl T.E_Up.gC rfl) pa_nil))) (pa_s1 T.E_NoLetter.n (T.E_NoLetter.n.nu T.u_UnsaidError) (pe_callB call_isiX (by rfl) T.n_isinstance (by decide +kernel) (pa_cons (pv 0) (pa_cons (pe_glob (v := .ref T.C_NoLetter) rfl T.E_NoLetter.gC rfl) pa_nil))) (pa_s1 T.E_Refused.n (T.E_Refused.n.nu T.u_UnsaidError) (pe_callB call_isiX (by rfl) T.n_isinstance (by decide +kernel) (pa_cons (pv 0) (pa_cons (pe_glob (v := .ref T.C_Refused) rfl T.E_Refused.gC rfl) pa_nil))) pa_s0)))))))
    (pss_cons (ps_set (i := 1) sc_l_sorts.nd rfl (Or.inl rfl) (pe_op op_cat (pv 1) (pe_lst1 (pa_s1 T.E_NotWhole.n (T.E_NotWhole.n.nu T.u_UnsaidError) (pe_callB call_isiX (by rfl) T.n_isinstance (by decide +kernel) (pa_cons (pv 0) (pa_cons (pe_glob (v := .ref T.C_NotWhole) rfl T.E_NotWhole.gC rfl) pa_nil))) (pa_s1 T.E_Turned.n (T.E_Turned.n.nu T.u_UnsaidError) (pe_callB call_isiX (by rfl) T.n_isinstance (by decide +kernel) (pa_cons (pv 0) (pa_cons (pe_glob (v := .ref T.C_Turned) rfl T.E_Turned.gC rfl) pa_nil))) pa_s0)))))
    (pss_cons (ps_set (i := 1) sc_l_sorts.nd rfl (Or.inl rfl) (pe_op op_cat (pv 1) (pe_lst1 (pa_s1 T.E_NotARoad.n (T.E_NotARoad.n.nu T.u_UnsaidError) (pe_callB call_isiX (by rfl) T.n_isinstance (by decide +kernel) (pa_cons (pv 0) (pa_cons (pe_glob (v := .ref T.C_NotARoad) rfl T.E_NotARoad.gC rfl) pa_nil))) (pa_s1 T.E_NothingUnderWay.n (T.E_NothingUnderWay.n.nu T.u_UnsaidError) (pe_callB call_isiX (by rfl) T.n_isinstance (by decide +kernel) (pa_cons (pv 0) (pa_cons (pe_glob (v := .ref T.C_NothingUnderWay) rfl T.E_NothingUnderWay.gC rfl) pa_nil))) (pa_s1 T.E_NotAhead.n (T.E_NotAhead.n.nu T.u_UnsaidError) (pe_callB call_isiX (by rfl) T.n_isinstance (by decide +kernel) (pa_cons (pv 0) (pa_cons (pe_glob (v := .ref T.C_NotAhead) rfl T.E_NotAhead.gC rfl) pa_nil))) pa_s0))))))
    (pss_one (ps_ret (pe_op op_cat (pv 1) (pe_lst1 (pa_s1 T.E_SurelyAhead.n (T.E_SurelyAhead.n.nu T.u_UnsaidError) (pe_callB call_isiX (by rfl) T.n_isinstance (by decide +kernel) (pa_cons (pv 0) (pa_cons (pe_glob (v := .ref T.C_SurelyAhead) rfl T.E_SurelyAhead.gC rfl) pa_nil))) (pa_s1 T.n_NoStanding (T.n_NoStanding.nu T.u_UnsaidError) (pe_callB call_isiX (by rfl) T.n_isinstance (by decide +kernel) (pa_cons (pv 0) (pa_cons (pe_glob (v := .ref T.C_NoStanding) rfl T.m_NoStanding rfl) pa_nil))) pa_s0)))))))))))))))))), ?_⟩
  walk_at "rx"
  refine ⟨C, ⟨fs, ex⟩, nv, n, en, fun x hx e => cat_ne T (n, C) hn x (sl (i := 0) (m := 3) hx) e, by rw [sz]; decide, fun l0 hl0 _ => ?_⟩
  obtain ⟨H0, eh, S0, h0⟩ := gen_new (.lst _) hl0
  rw [eh]
  clear eh
  refine ⟨C, ⟨fs, ex.same S0⟩, nv, n, en, fun x hx e => cat_ne T (n, C) hn x (sl (i := 3) (m := 3) hx) e, by rw [sz]; decide, fun p hp _ => ⟨l0, p, _, _, rfl, rfl, Same.new hp _ _ h0, upd_same, by rw [sz]; exact Nat.le_of_ble_eq_true rfl, fun l1 hl => ?_⟩⟩
  obtain ⟨H1, eh, S1, h1⟩ := new2 S0 hp hl
  rw [eh]
  clear eh
  refine ⟨C, ⟨fs, ex.same S1⟩, nv, n, en, fun x hx e => cat_ne T (n, C) hn x (sl (i := 6) (m := 3) hx) e, by rw [sz]; decide, fun p hp _ => ⟨l1, p, _, _, rfl, rfl, Same.new hp _ _ h1, upd_same, by rw [sz]; exact Nat.le_of_ble_eq_true rfl, fun l2 hl => ?_⟩⟩
  obtain ⟨H2, eh, S2, h2⟩ := new2 S1 hp hl
  rw [eh]
  clear eh
  refine ⟨C, ⟨fs, ex.same S2⟩, nv, n, en, fun x hx e => cat_ne T (n, C) hn x (sl (i := 9) (m := 3) hx) e, by rw [sz]; decide, fun p hp _ => ⟨l2, p, _, _, rfl, rfl, Same.new hp _ _ h2, upd_same, by rw [sz]; exact Nat.le_of_ble_eq_true rfl, fun l3 hl => ?_⟩⟩
  obtain ⟨H3, eh, S3, h3⟩ := new2 S2 hp hl
  rw [eh]
  clear eh
  refine ⟨C, ⟨fs, ex.same S3⟩, nv, n, en, fun x hx e => cat_ne T (n, C) hn x (sl (i := 12) (m := 3) hx) e, by rw [sz]; decide, fun p hp _ => ⟨l3, p, _, _, rfl, rfl, Same.new hp _ _ h3, upd_same, by rw [sz]; exact Nat.le_of_ble_eq_true rfl, fun l4 hl => ?_⟩⟩
  obtain ⟨H4, eh, S4, h4⟩ := new2 S3 hp hl
  rw [eh]
  clear eh
  refine ⟨C, ⟨fs, ex.same S4⟩, nv, n, en, fun x hx e => cat_ne T (n, C) hn x (sl (i := 15) (m := 3) hx) e, by rw [sz]; decide, fun p hp _ => ⟨l4, p, _, _, rfl, rfl, Same.new hp _ _ h4, upd_same, by rw [sz]; exact Nat.le_of_ble_eq_true rfl, fun l5 hl => ?_⟩⟩
  obtain ⟨H5, eh, S5, h5⟩ := new2 S4 hp hl
  rw [eh]
  clear eh
  refine ⟨C, ⟨fs, ex.same S5⟩, nv, n, en, fun x hx e => cat_ne T (n, C) hn x (sl (i := 18) (m := 2) hx) e, by rw [sz]; decide, fun p hp _ => ⟨l5, p, _, _, rfl, rfl, Same.new hp _ _ h5, upd_same, by rw [sz]; exact Nat.le_of_ble_eq_true rfl, fun l6 hl => ?_⟩⟩
  obtain ⟨H6, eh, S6, h6⟩ := new2 S5 hp hl
  rw [eh]
  clear eh
  refine ⟨C, ⟨fs, ex.same S6⟩, nv, n, en, fun x hx e => cat_ne T (n, C) hn x (sl (i := 20) (m := 4) hx) e, by rw [sz]; decide, fun p hp _ => ⟨l6, p, _, _, rfl, rfl, Same.new hp _ _ h6, upd_same, by rw [sz]; exact Nat.le_of_ble_eq_true rfl, fun l7 hl => ?_⟩⟩
  obtain ⟨H7, eh, S7, h7⟩ := new2 S6 hp hl
  rw [eh]
  clear eh
  refine ⟨C, ⟨fs, ex.same S7⟩, nv, n, en, fun x hx e => cat_ne T (n, C) hn x (sl (i := 24) (m := 4) hx) e, by rw [sz]; decide, fun p hp _ => ⟨l7, p, _, _, rfl, rfl, Same.new hp _ _ h7, upd_same, by rw [sz]; exact Nat.le_of_ble_eq_true rfl, fun l8 hl => ?_⟩⟩
  obtain ⟨H8, eh, S8, h8⟩ := new2 S7 hp hl
  rw [eh]
  clear eh
  refine ⟨C, ⟨fs, ex.same S8⟩, nv, n, en, fun x hx e => cat_ne T (n, C) hn x (sl (i := 28) (m := 4) hx) e, by rw [sz]; decide, fun p hp _ => ⟨l8, p, _, _, rfl, rfl, Same.new hp _ _ h8, upd_same, by rw [sz]; exact Nat.le_of_ble_eq_true rfl, fun l9 hl => ?_⟩⟩
  obtain ⟨H9, eh, S9, h9⟩ := new2 S8 hp hl
  rw [eh]
  clear eh
  refine ⟨C, ⟨fs, ex.same S9⟩, nv, n, en, fun x hx e => cat_ne T (n, C) hn x (sl (i := 32) (m := 2) hx) e, by rw [sz]; decide, fun p hp _ => ⟨l9, p, _, _, rfl, rfl, Same.new hp _ _ h9, upd_same, by rw [sz]; exact Nat.le_of_ble_eq_true rfl, fun l10 hl => ?_⟩⟩
  obtain ⟨H10, eh, S10, h10⟩ := new2 S9 hp hl
  rw [eh]
  clear eh
  refine ⟨C, ⟨fs, ex.same S10⟩, nv, n, en, fun x hx e => cat_ne T (n, C) hn x (sl (i := 34) (m := 3) hx) e, by rw [sz]; decide, fun p hp _ => ⟨l10, p, _, _, rfl, rfl, Same.new hp _ _ h10, upd_same, by rw [sz]; exact Nat.le_of_ble_eq_true rfl, fun l11 hl => ?_⟩⟩
  obtain ⟨H11, eh, S11, h11⟩ := new2 S10 hp hl
  rw [eh]
  clear eh
  refine ⟨C, ⟨fs, ex.same S11⟩, nv, n, en, fun x hx e => cat_ne T (n, C) hn x (sl (i := 37) (m := 2) hx) e, by rw [sz]; decide, fun p hp _ => ⟨l11, p, _, _, rfl, rfl, Same.new hp _ _ h11, upd_same, by rw [sz]; exact Nat.le_of_ble_eq_true rfl, fun l12 hl => ?_⟩⟩
  obtain ⟨H12, eh, S12, h12⟩ := new2 S11 hp hl
  rw [eh]
  clear eh
  exact k l12 H12 S12 h12
theorem okp_l_sorts (T : Tx K mg) : FnGP P w K mg base 1 T.d_l_sorts.f T.d_l_sorts.fd ["_law_e"] (fun p => spSorts T [p]) := by
  refine okGP T.d_l_sorts.F sc_l_sorts (fun p vs H Q E h => ?_) (fun cdv A outer s H vs Q E p hg hot hr h => ?_)
  · obtain ⟨a, C, n, fs, rfl, _⟩ := h
    rfl
  obtain ⟨a, C, n, fs, rfl, ex, hn, k⟩ := h
  have sz : sizeLine = 16777216 := sizeLine_eq
  obtain ⟨en, nv⟩ := cat_ok T _ hn
  refine ⟨_, (pss_cons (ps_set (i := 1) sc_l_sorts.nd rfl (Or.inl rfl) (pe_lst1 (pa_s1 T.E_InvalidLine.n (T.E_InvalidLine.n.nu T.u_UnsaidError) (pe_callB call_isiX (by rfl) T.n_isinstance (by decide +kernel) (pa_cons (pv 0) (pa_cons (pe_glob (v := .ref T.C_InvalidLine) rfl T.E_InvalidLine.gC rfl) pa_nil))) (pa_s1 T.E_InvalidText.n (T.E_InvalidText.n.nu T.u_UnsaidError) (pe_callB call_isiX (by rfl) T.n_isinstance (by decide +kernel) (pa_cons (pv 0) (pa_cons (pe_glob (v := .ref T.C_InvalidText) rfl T.E_InvalidText.gC rfl) pa_nil))) (pa_s1 T.E_InvalidCell.n (T.E_InvalidCell.n.nu T.u_UnsaidError) (pe_callB call_isiX (by rfl) T.n_isinstance (by decide +kernel) (pa_cons (pv 0) (pa_cons (pe_glob (v := .ref T.C_InvalidCell) rfl T.E_InvalidCell.gC rfl) pa_nil))) pa_s0)))))
    (pss_cons (ps_set (i := 1) sc_l_sorts.nd rfl (Or.inl rfl) (pe_op op_cat (pv 1) (pe_lst1 (pa_s1 T.E_InvalidHouses.n (T.E_InvalidHouses.n.nu T.u_UnsaidError) (pe_callB call_isiX (by rfl) T.n_isinstance (by decide +kernel) (pa_cons (pv 0) (pa_cons (pe_glob (v := .ref T.C_InvalidHouses) rfl T.E_InvalidHouses.gC rfl) pa_nil))) (pa_s1 T.E_InvalidRoads.n (T.E_InvalidRoads.n.nu T.u_UnsaidError) (pe_callB call_isiX (by rfl) T.n_isinstance (by decide +kernel) (pa_cons (pv 0) (pa_cons (pe_glob (v := .ref T.C_InvalidRoads) rfl T.E_InvalidRoads.gC rfl) pa_nil))) (pa_s1 T.E_InvalidHouse.n (T.E_InvalidHouse.n.nu T.u_UnsaidError) (pe_callB call_isiX (by rfl) T.n_isinstance (by decide +kernel) (pa_cons (pv 0) (pa_cons (pe_glob (v := .ref T.C_InvalidHouse) rfl T.E_InvalidHouse.gC rfl) pa_nil))) pa_s0))))))
    (pss_cons (ps_set (i := 1) sc_l_sorts.nd rfl (Or.inl rfl) (pe_op op_cat (pv 1) (pe_lst1 (pa_s1 T.E_InvalidSigns.n (T.E_InvalidSigns.n.nu T.u_UnsaidError) (pe_callB call_isiX (by rfl) T.n_isinstance (by decide +kernel) (pa_cons (pv 0) (pa_cons (pe_glob (v := .ref T.C_InvalidSigns) rfl T.E_InvalidSigns.gC rfl) pa_nil))) (pa_s1 T.E_InvalidCount.n (T.E_InvalidCount.n.nu T.u_UnsaidError) (pe_callB call_isiX (by rfl) T.n_isinstance (by decide +kernel) (pa_cons (pv 0) (pa_cons (pe_glob (v := .ref T.C_InvalidCount) rfl T.E_InvalidCount.gC rfl) pa_nil))) (pa_s1 T.E_InvalidLines.n (T.E_InvalidLines.n.nu T.u_UnsaidError) (pe_callB call_isiX (by rfl) T.n_isinstance (by decide +kernel) (pa_cons (pv 0) (pa_cons (pe_glob (v := .ref T.C_InvalidLines) rfl T.E_InvalidLines.gC rfl) pa_nil))) pa_s0))))))
    (pss_cons (ps_set (i := 1) sc_l_sorts.nd rfl (Or.inl rfl) (pe_op op_cat (pv 1) (pe_lst1 (pa_s1 T.E_InvalidScript.n (T.E_InvalidScript.n.nu T.u_UnsaidError) (pe_callB call_isiX (by rfl) T.n_isinstance (by decide +kernel) (pa_cons (pv 0) (pa_cons (pe_glob (v := .ref T.C_InvalidScript) rfl T.E_InvalidScript.gC rfl) pa_nil))) (pa_s1 T.E_InvalidRows.n (T.E_InvalidRows.n.nu T.u_UnsaidError) (pe_callB call_isiX (by rfl) T.n_isinstance (by decide +kernel) (pa_cons (pv 0) (pa_cons (pe_glob (v := .ref T.C_InvalidRows) rfl T.E_InvalidRows.gC rfl) pa_nil))) (pa_s1 T.E_InvalidLater.n (T.E_InvalidLater.n.nu T.u_UnsaidError) (pe_callB call_isiX (by rfl) T.n_isinstance (by decide +kernel) (pa_cons (pv 0) (pa_cons (pe_glob (v := .ref T.C_InvalidLater) rfl T.E_InvalidLater.gC rfl) pa_nil))) pa_s0))))))
    (pss_cons (ps_set (i := 1) sc_l_sorts.nd rfl (Or.inl rfl) (pe_op op_cat (pv 1) (pe_lst1 (pa_s1 T.E_InvalidKey.n (T.E_InvalidKey.n.nu T.u_UnsaidError) (pe_callB call_isiX (by rfl) T.n_isinstance (by decide +kernel) (pa_cons (pv 0) (pa_cons (pe_glob (v := .ref T.C_InvalidKey) rfl T.E_InvalidKey.gC rfl) pa_nil))) (pa_s1 T.E_InvalidLife.n (T.E_InvalidLife.n.nu T.u_UnsaidError) (pe_callB call_isiX (by rfl) T.n_isinstance (by decide +kernel) (pa_cons (pv 0) (pa_cons (pe_glob (v := .ref T.C_InvalidLife) rfl T.E_InvalidLife.gC rfl) pa_nil))) (pa_s1 T.E_InvalidLetter.n (T.E_InvalidLetter.n.nu T.u_UnsaidError) (pe_callB call_isiX (by rfl) T.n_isinstance (by decide +kernel) (pa_cons (pv 0) (pa_cons (pe_glob (v := .ref T.C_InvalidLetter) rfl T.E_InvalidLetter.gC rfl) pa_nil))) pa_s0))))))
    (pss_cons (ps_set (i := 1) sc_l_sorts.nd rfl (Or.inl rfl) (pe_op op_cat (pv 1) (pe_lst1 (pa_s1 T.E_InvalidActs.n (T.E_InvalidActs.n.nu T.u_UnsaidError) (pe_callB call_isiX (by rfl) T.n_isinstance (by decide +kernel) (pa_cons (pv 0) (pa_cons (pe_glob (v := .ref T.C_InvalidActs) rfl T.E_InvalidActs.gC rfl) pa_nil))) (pa_s1 T.E_InvalidAct.n (T.E_InvalidAct.n.nu T.u_UnsaidError) (pe_callB call_isiX (by rfl) T.n_isinstance (by decide +kernel) (pa_cons (pv 0) (pa_cons (pe_glob (v := .ref T.C_InvalidAct) rfl T.E_InvalidAct.gC rfl) pa_nil))) (pa_s1 T.E_InvalidKinds.n (T.E_InvalidKinds.n.nu T.u_UnsaidError) (pe_callB call_isiX (by rfl) T.n_isinstance (by decide +kernel) (pa_cons (pv 0) (pa_cons (pe_glob (v := .ref T.C_InvalidKinds) rfl T.E_InvalidKinds.gC rfl) pa_nil))) pa_s0))))))
    (pss_cons (ps_set (i := 1) sc_l_sorts.nd rfl (Or.inl rfl) (pe_op op_cat (pv 1) (pe_lst1 (pa_s1 T.E_InvalidIndex.n (T.E_InvalidIndex.n.nu T.u_UnsaidError) (pe_callB call_isiX (by rfl) T.n_isinstance (by decide +kernel) (pa_cons (pv 0) (pa_cons (pe_glob (v := .ref T.C_InvalidIndex) rfl T.E_InvalidIndex.gC rfl) pa_nil))) (pa_s1 T.E_NotJoined.n (T.E_NotJoined.n.nu T.u_UnsaidError) (pe_callB call_isiX (by rfl) T.n_isinstance (by decide +kernel) (pa_cons (pv 0) (pa_cons (pe_glob (v := .ref T.C_NotJoined) rfl T.E_NotJoined.gC rfl) pa_nil))) pa_s0)))))
    (pss_cons (ps_set (i := 1) sc_l_sorts.nd rfl (Or.inl rfl) (pe_op op_cat (pv 1) (pe_lst1 (pa_s1 T.E_Stopped.n (T.E_Stopped.n.nu T.u_UnsaidError) (pe_callB call_isiX (by rfl) T.n_isinstance (by decide +kernel) (pa_cons (pv 0) (pa_cons (pe_glob (v := .ref T.C_Stopped) rfl T.E_Stopped.gC rfl) pa_nil))) (pa_s1 T.E_Faulty.n (T.E_Faulty.n.nu T.u_UnsaidError) (pe_callB call_isiX (by rfl) T.n_isinstance (by decide +kernel) (pa_cons (pv 0) (pa_cons (pe_glob (v := .ref T.C_Faulty) rfl T.E_Faulty.gC rfl) pa_nil))) (pa_s1 T.E_DoNotFit.n (T.E_DoNotFit.n.nu T.u_UnsaidError) (pe_callB call_isiX (by rfl) T.n_isinstance (by decide +kernel) (pa_cons (pv 0) (pa_cons (pe_glob (v := .ref T.C_DoNotFit) rfl T.E_DoNotFit.gC rfl) pa_nil))) (pa_s1 T.E_SameKey.n (T.E_SameKey.n.nu T.u_UnsaidError) (pe_callB call_isiX (by rfl) T.n_isinstance (by decide +kernel) (pa_cons (pv 0) (pa_cons (pe_glob (v := .ref T.C_SameKey) rfl T.E_SameKey.gC rfl) pa_nil))) pa_s0)))))))
    (pss_cons (ps_set (i := 1) sc_l_sorts.nd rfl (Or.inl rfl) (pe_op op_cat (pv 1) (pe_lst1 (pa_s1 T.E_NotHeld.n (T.E_NotHeld.n.nu T.u_UnsaidError) (pe_callB call_isiX (by rfl) T.n_isinstance (by decide +kernel) (pa_cons (pv 0) (pa_cons (pe_glob (v := .ref T.C_NotHeld) rfl T.E_NotHeld.gC rfl) pa_nil))) (pa_s1 T.E_Held.n (T.E_Held.n.nu T.u_UnsaidError) (pe_callB call_isiX (by rfl) T.n_isinstance (by decide +kernel) (pa_cons (pv 0) (pa_cons (pe_glob (v := .ref T.C_Held) rfl T.E_Held.gC rfl) pa_nil))) (pa_s1 T.E_TooMany.n (T.E_TooMany.n.nu T.u_UnsaidError) (pe_callB call_isiX (by rfl) T.n_isinstance (by decide +kernel) (pa_cons (pv 0) (pa_cons (pe_glob (v := .ref T.C_TooMany) rfl T.E_TooMany.gC rfl) pa_nil))) (pa_s1 T.E_NotStanding.n (T.E_NotStanding.n.nu T.u_UnsaidError) (pe_callB call_isiX (by rfl) T.n_isinstance (by decide +kernel) (pa_cons (pv 0) (pa_cons (pe_glob (v := .ref T.C_NotStanding) rfl T.E_NotStanding.gC rfl) pa_nil))) pa_s0)))))))
    (pss_cons (ps_set (i := 1) sc_l_sorts.nd rfl (Or.inl rfl) (pe_op op_cat (pv 1) (pe_lst1 (pa_s1 T.E_Down.n (T.E_Down.n.nu T.u_UnsaidError) (pe_callB call_isiX (by rfl) T.n_isinstance (by decide +kernel) (pa_cons (pv 0) (pa_cons (pe_glob (v := .ref T.C_Down) rfl T.E_Down.gC rfl) pa_nil))) (pa_s1 T.E_Up.n (T.E_Up.n.nu T.u_UnsaidError) (pe_callB call_isiX (by rfl) T.n_isinstance (by decide +kernel) (pa_cons (pv 0) (pa_cons (pe_glob (v := .ref T.C_Up) rfl T.E_Up.gC rfl) pa_nil))) (pa_s1 T.E_NoLetter.n (T.E_NoLetter.n.nu T.u_UnsaidError) (pe_callB call_isiX (by rfl) T.n_isinstance (by decide +kernel) (pa_cons (pv 0) (pa_cons (pe_glob (v := .ref T.C_NoLetter) rfl T.E_NoLetter.gC rfl) pa_nil))) (pa_s1 T.E_Refused.n (T.E_Refused.n.nu T.u_UnsaidError) (pe_callB call_isiX (by rfl) T.n_isinstance (by decide +kernel) (pa_cons (pv 0) (pa_cons (pe_glob (v := .ref T.C_Refused) rfl T.E_Refused.gC rfl) pa_nil))) pa_s0)))))))
    (pss_cons (ps_set (i := 1) sc_l_sorts.nd rfl (Or.inl rfl) (pe_op op_cat (pv 1) (pe_lst1 (pa_s1 T.E_NotWhole.n (T.E_NotWhole.n.nu T.u_UnsaidError) (pe_callB call_isiX (by rfl) T.n_isinstance (by decide +kernel) (pa_cons (pv 0) (pa_cons (pe_glob (v := .ref T.C_NotWhole) rfl T.E_NotWhole.gC rfl) pa_nil))) (pa_s1 T.E_Turned.n (T.E_Turned.n.nu T.u_UnsaidError) (pe_callB call_isiX (by rfl) T.n_isinstance (by decide +kernel) (pa_cons (pv 0) (pa_cons (pe_glob (v := .ref T.C_Turned) rfl T.E_Turned.gC rfl) pa_nil))) pa_s0)))))
    (pss_cons (ps_set (i := 1) sc_l_sorts.nd rfl (Or.inl rfl) (pe_op op_cat (pv 1) (pe_lst1 (pa_s1 T.E_NotARoad.n (T.E_NotARoad.n.nu T.u_UnsaidError) (pe_callB call_isiX (by rfl) T.n_isinstance (by decide +kernel) (pa_cons (pv 0) (pa_cons (pe_glob (v := .ref T.C_NotARoad) rfl T.E_NotARoad.gC rfl) pa_nil))) (pa_s1 T.E_NothingUnderWay.n (T.E_NothingUnderWay.n.nu T.u_UnsaidError) (pe_callB call_isiX (by rfl) T.n_isinstance (by decide +kernel) (pa_cons (pv 0) (pa_cons (pe_glob (v := .ref T.C_NothingUnderWay) rfl T.E_NothingUnderWay.gC rfl) pa_nil))) (pa_s1 T.E_NotAhead.n (T.E_NotAhead.n.nu T.u_UnsaidError) (pe_callB call_isiX (by rfl) T.n_isinstance (by decide +kernel) (pa_cons (pv 0) (pa_cons (pe_glob (v := .ref T.C_NotAhead) rfl T.E_NotAhead.gC rfl) pa_nil))) pa_s0))))))
    (pss_one (ps_ret (pe_op op_cat (pv 1) (pe_lst1 (pa_s1 T.E_SurelyAhead.n (T.E_SurelyAhead.n.nu T.u_UnsaidError) (pe_callB call_isiX (by rfl) T.n_isinstance (by decide +kernel) (pa_cons (pv 0) (pa_cons (pe_glob (v := .ref T.C_SurelyAhead) rfl T.E_SurelyAhead.gC rfl) pa_nil))) (pa_s1 T.n_NoStanding (T.n_NoStanding.nu T.u_UnsaidError) (pe_callB call_isiX (by rfl) T.n_isinstance (by decide +kernel) (pa_cons (pv 0) (pa_cons (pe_glob (v := .ref T.C_NoStanding) rfl T.m_NoStanding rfl) pa_nil))) pa_s0)))))))))))))))))), ?_⟩
  walk_at "rx"
  refine ⟨C, ⟨fs, ex⟩, nv, n, en, fun x hx e => cat_ne T (n, C) hn x (sl (i := 0) (m := 3) hx) e, by rw [sz]; decide, fun l0 hl0 _ => ?_⟩
  obtain ⟨H0, eh, S0, h0⟩ := gen_new (.lst _) hl0
  rw [eh]
  clear eh
  refine ⟨C, ⟨fs, ex.same S0⟩, nv, n, en, fun x hx e => cat_ne T (n, C) hn x (sl (i := 3) (m := 3) hx) e, by rw [sz]; decide, fun p hp _ => ⟨l0, p, _, _, rfl, rfl, Same.new hp _ _ h0, upd_same, by rw [sz]; exact Nat.le_of_ble_eq_true rfl, fun l1 hl => ?_⟩⟩
  obtain ⟨H1, eh, S1, h1⟩ := new2 S0 hp hl
  rw [eh]
  clear eh
  refine ⟨C, ⟨fs, ex.same S1⟩, nv, n, en, fun x hx e => cat_ne T (n, C) hn x (sl (i := 6) (m := 3) hx) e, by rw [sz]; decide, fun p hp _ => ⟨l1, p, _, _, rfl, rfl, Same.new hp _ _ h1, upd_same, by rw [sz]; exact Nat.le_of_ble_eq_true rfl, fun l2 hl => ?_⟩⟩
  obtain ⟨H2, eh, S2, h2⟩ := new2 S1 hp hl
  rw [eh]
  clear eh
  refine ⟨C, ⟨fs, ex.same S2⟩, nv, n, en, fun x hx e => cat_ne T (n, C) hn x (sl (i := 9) (m := 3) hx) e, by rw [sz]; decide, fun p hp _ => ⟨l2, p, _, _, rfl, rfl, Same.new hp _ _ h2, upd_same, by rw [sz]; exact Nat.le_of_ble_eq_true rfl, fun l3 hl => ?_⟩⟩
  obtain ⟨H3, eh, S3, h3⟩ := new2 S2 hp hl
  rw [eh]
  clear eh
  refine ⟨C, ⟨fs, ex.same S3⟩, nv, n, en, fun x hx e => cat_ne T (n, C) hn x (sl (i := 12) (m := 3) hx) e, by rw [sz]; decide, fun p hp _ => ⟨l3, p, _, _, rfl, rfl, Same.new hp _ _ h3, upd_same, by rw [sz]; exact Nat.le_of_ble_eq_true rfl, fun l4 hl => ?_⟩⟩
  obtain ⟨H4, eh, S4, h4⟩ := new2 S3 hp hl
  rw [eh]
  clear eh
  refine ⟨C, ⟨fs, ex.same S4⟩, nv, n, en, fun x hx e => cat_ne T (n, C) hn x (sl (i := 15) (m := 3) hx) e, by rw [sz]; decide, fun p hp _ => ⟨l4, p, _, _, rfl, rfl, Same.new hp _ _ h4, upd_same, by rw [sz]; exact Nat.le_of_ble_eq_true rfl, fun l5 hl => ?_⟩⟩
  obtain ⟨H5, eh, S5, h5⟩ := new2 S4 hp hl
  rw [eh]
  clear eh
  refine ⟨C, ⟨fs, ex.same S5⟩, nv, n, en, fun x hx e => cat_ne T (n, C) hn x (sl (i := 18) (m := 2) hx) e, by rw [sz]; decide, fun p hp _ => ⟨l5, p, _, _, rfl, rfl, Same.new hp _ _ h5, upd_same, by rw [sz]; exact Nat.le_of_ble_eq_true rfl, fun l6 hl => ?_⟩⟩
  obtain ⟨H6, eh, S6, h6⟩ := new2 S5 hp hl
  rw [eh]
  clear eh
  refine ⟨C, ⟨fs, ex.same S6⟩, nv, n, en, fun x hx e => cat_ne T (n, C) hn x (sl (i := 20) (m := 4) hx) e, by rw [sz]; decide, fun p hp _ => ⟨l6, p, _, _, rfl, rfl, Same.new hp _ _ h6, upd_same, by rw [sz]; exact Nat.le_of_ble_eq_true rfl, fun l7 hl => ?_⟩⟩
  obtain ⟨H7, eh, S7, h7⟩ := new2 S6 hp hl
  rw [eh]
  clear eh
  refine ⟨C, ⟨fs, ex.same S7⟩, nv, n, en, fun x hx e => cat_ne T (n, C) hn x (sl (i := 24) (m := 4) hx) e, by rw [sz]; decide, fun p hp _ => ⟨l7, p, _, _, rfl, rfl, Same.new hp _ _ h7, upd_same, by rw [sz]; exact Nat.le_of_ble_eq_true rfl, fun l8 hl => ?_⟩⟩
  obtain ⟨H8, eh, S8, h8⟩ := new2 S7 hp hl
  rw [eh]
  clear eh
  refine ⟨C, ⟨fs, ex.same S8⟩, nv, n, en, fun x hx e => cat_ne T (n, C) hn x (sl (i := 28) (m := 4) hx) e, by rw [sz]; decide, fun p hp _ => ⟨l8, p, _, _, rfl, rfl, Same.new hp _ _ h8, upd_same, by rw [sz]; exact Nat.le_of_ble_eq_true rfl, fun l9 hl => ?_⟩⟩
  obtain ⟨H9, eh, S9, h9⟩ := new2 S8 hp hl
  rw [eh]
  clear eh
  refine ⟨C, ⟨fs, ex.same S9⟩, nv, n, en, fun x hx e => cat_ne T (n, C) hn x (sl (i := 32) (m := 2) hx) e, by rw [sz]; decide, fun p hp _ => ⟨l9, p, _, _, rfl, rfl, Same.new hp _ _ h9, upd_same, by rw [sz]; exact Nat.le_of_ble_eq_true rfl, fun l10 hl => ?_⟩⟩
  obtain ⟨H10, eh, S10, h10⟩ := new2 S9 hp hl
  rw [eh]
  clear eh
  refine ⟨C, ⟨fs, ex.same S10⟩, nv, n, en, fun x hx e => cat_ne T (n, C) hn x (sl (i := 34) (m := 3) hx) e, by rw [sz]; decide, fun p hp _ => ⟨l10, p, _, _, rfl, rfl, Same.new hp _ _ h10, upd_same, by rw [sz]; exact Nat.le_of_ble_eq_true rfl, fun l11 hl => ?_⟩⟩
  obtain ⟨H11, eh, S11, h11⟩ := new2 S10 hp hl
  rw [eh]
  clear eh
  refine ⟨C, ⟨fs, ex.same S11⟩, nv, n, en, fun x hx e => cat_ne T (n, C) hn x (sl (i := 37) (m := 2) hx) e, by rw [sz]; decide, fun p hp _ => ⟨l11, p, _, _, rfl, rfl, Same.new hp _ _ h11, upd_same, by rw [sz]; exact Nat.le_of_ble_eq_true rfl, fun l12 hl => ?_⟩⟩
  obtain ⟨H12, eh, S12, h12⟩ := new2 S11 hp hl
  rw [eh]
  clear eh
  exact k l12 H12 S12 h12
end
end K00



namespace K00
open PySem L2 L2H Nv

section
variable {K : PySem.W.Frag} {mg : Str → Option Value}
def spIs (T : Tx K mg) (pn : List (Addr × Obj)) : Sp := fun vs H Q _ => ∃ a C n fs, ∃ j : Nat, vs = [.ref a, .int j] ∧ ExF pn H a C fs ∧ (cat T)[j]? = some (n, C) ∧ ∀ H', Same H H' → Q (.bl true) H'
theorem cat_len (T : Tx K mg) : (cat T).length = 39 := rfl
theorem pass_one {j : Nat} (h : j < 39) : passI (fun i => decide (nms[j]? = nms[i]?)) 39 = [V.int (j : Int)] := by
  have : ∀ j : Fin 39, (List.range 39).filter (fun i => decide (nms[j.1]? = nms[i]?)) = [j.1] := by decide +kernel
  unfold passI
  rw [this ⟨j, h⟩]
  simp
end
section
variable {P : Program} {w : World} {K : PySem.W.Frag} {mg : Str → Option Value} {base : Heap}
theorem ok_l_is (T : Tx K mg) : FnG P w K mg base 2 T.d_l_is.f T.d_l_is.fd ["_law_e", "_law_spot"] (spIs T []) := by
  refine okG0 T.d_l_is.F sc_l_is (fun vs H Q E h => ?_) (fun cdv A outer s H vs Q E hg hr h => ?_)
  · obtain ⟨a, C, n, fs, j, rfl, _⟩ := h
    rfl
  obtain ⟨a, C, n, fs, j, rfl, ex, hn, k⟩ := h
  have sz : sizeLine = 16777216 := sizeLine_eq
  have hm := List.mem_of_getElem? hn
  obtain ⟨en, nv⟩ := cat_ok T _ hm
  refine ⟨_, (pss_cons (ps_set (i := 2) sc_l_is.nd rfl (Or.inr rfl) (pe_cG (ok_l_sorts T) T.d_l_sorts.b takes0 hg (hr.mono (by decide)) T.d_l_sorts.m T.d_l_sorts.F.kp (pa_cons (pv 0) pa_nil)))
    (pss_cons (ps_if (PW.pt (pw_or (pt_not (pt_val (pe_callB call_isiX (by rfl) T.n_isinstance (by decide +kernel) (pa_cons (pv 0) (pa_cons (pe_glob (v := .ref T.C_UnsaidError) rfl T.m_UnsaidError rfl) pa_nil))))) (pw_or1 (pt_not (pt_val (pe_callB call_isiX (by rfl) T.n_isinstance (by decide +kernel) (pa_cons (pv 0) (pa_cons (pe_bltn (v := .ty "ValueError") (by rfl) T.n_ValueError (by decide +kernel) rfl) pa_nil))))))))
      (pss_one (ps_ret pe_bl))
      pss_nil)
    (pss_one (ps_ret (pe_cmpR (op_eqD hr.units) (pe_lc (own := [("_law_k", 3)]) (g := gName 3) rfl sc_l_is.nd (pi_range1 (by rfl) T.n_range (pa_cons (pe_callB call_len_seq (by rfl) T.n_len (by decide +kernel) (pa_cons (pv 2) pa_nil)) pa_nil)) (blkOk_by (N := ["_law_e", "_law_spot", "_law_sorts_here", "_law_k"]) (sc := defScope s_l_is) (by decide +kernel)) (fun _ _ _ _ _ => pg_name (i := 3) sc_l_is.nd rfl (Or.inl rfl)) (fun _ _ _ _ _ => (pts_one (pt_val (pe_ix (ix_listK (K := K) rfl) (pv 2) (pv 3) (fun _ _ => rfl))))) (fun _ _ _ _ _ => (pv 3))) (pe_lst1 (pa_cons (pv 1) pa_nil)) (nomark _)))))), ?_⟩
  walk_at "rx"
  refine ⟨a, C, n, fs, rfl, ex, hm, fun l H1 S1 hl => ?_⟩
  refine ⟨a, C, fs, .ref T.C_UnsaidError, .ref T.C_UnsaidError, true, rfl, ex.same S1, nv, .own _, en.up T.u_UnsaidError, true, rfl, ?_⟩
  rw [if_neg (by decide)]
  refine ⟨a, C, fs, .ty "ValueError", .type "ValueError", true, rfl, ex.same S1, nv, .ty _, en.value, true, rfl, ?_⟩
  rw [if_neg (by decide)]
  refine ⟨.ref l, rfl, l, rfl, _, .inl (.of hl), _, rfl, Int.le_trans (by decide) (Int.natCast_nonneg _), by rw [List.length_map, cat_len]; decide, fun D hD => ?_⟩
  rw [List.length_map, cat_len]
  have hj : j < 39 := by
    have := (List.getElem?_eq_some_iff.mp hn).1
    rw [cat_len] at this
    exact this
  refine lc_pass (n := 39) (fun i => decide (nms[j]? = nms[i]?)) hD (by rw [sz]; decide) ?_ ?_
  · intro i Ha R Rn hi Sa kt kf
    refine ⟨by simp [wipe], ?_⟩
    walk_at "rx"
    obtain ⟨x, hx⟩ : ∃ x, (cat T)[i]? = some x := ⟨_, List.getElem?_eq_getElem (by rw [cat_len]; exact hi)⟩
    refine r_ixL (v := V.bl (decide (n = x.1))) (.of (Sa _ _ hl)) ?_ ⟨_, rfl, ?_⟩
    · rw [Int.zero_add]
      exact atI_nat (by rw [List.getElem?_map, hx]; rfl)
    · have e : decide (nms[j]? = nms[i]?) = decide (n = x.1) := by
        rw [← cat_nms T, List.getElem?_map, List.getElem?_map, hn, hx]
        simp
      rw [e] at kt kf
      by_cases q : n = x.1
      · rw [decide_eq_true q] at kt ⊢
        rw [if_pos rfl]
        exact kt rfl _ (Same.refl _)
      · rw [decide_eq_false q] at kf ⊢
        rw [if_neg (by decide)]
        exact kf rfl _ (Same.refl _)
  · intro H2 S2 h2
    rw [pass_one hj] at h2
    refine ⟨by rw [sz]; decide, fun q hq _ => ?_⟩
    refine ⟨.list [.int j], .list [.int j], .lst (.of (Same.new hq _ _ h2)) (.cons (.int _) .nil), .lst (.of upd_same) (.cons (.int _) .nil), rfl, rfl, ?_⟩
    rw [SeqAt.eqv_refl _ (by rfl)]
    exact k _ (S1.trans (S2.trans (Same.new hq)))
theorem okp_l_is (T : Tx K mg) : FnGP P w K mg base 2 T.d_l_is.f T.d_l_is.fd ["_law_e", "_law_spot"] (fun p => spIs T [p]) := by
  refine okGP T.d_l_is.F sc_l_is (fun p vs H Q E h => ?_) (fun cdv A outer s H vs Q E p hg hot hr h => ?_)
  · obtain ⟨a, C, n, fs, j, rfl, _⟩ := h
    rfl
  obtain ⟨a, C, n, fs, j, rfl, ex, hn, k⟩ := h
  have sz : sizeLine = 16777216 := sizeLine_eq
  have hm := List.mem_of_getElem? hn
  obtain ⟨en, nv⟩ := cat_ok T _ hm
  refine ⟨_, (pss_cons (ps_set (i := 2) sc_l_is.nd rfl (Or.inr rfl) (pe_cGP (W := fun _ _ _ _ => False) (okp_l_sorts T) T.d_l_sorts.b hg hot (hr.mono (by decide)) List.mem_cons_self T.d_l_sorts.m T.d_l_sorts.F.kp (pa_cons (pv 0) pa_nil)))
    (pss_cons (ps_if (PW.pt (pw_or (pt_not (pt_val (pe_callB call_isiX (by rfl) T.n_isinstance (by decide +kernel) (pa_cons (pv 0) (pa_cons (pe_glob (v := .ref T.C_UnsaidError) rfl T.m_UnsaidError rfl) pa_nil))))) (pw_or1 (pt_not (pt_val (pe_callB call_isiX (by rfl) T.n_isinstance (by decide +kernel) (pa_cons (pv 0) (pa_cons (pe_bltn (v := .ty "ValueError") (by rfl) T.n_ValueError (by decide +kernel) rfl) pa_nil))))))))
      (pss_one (ps_ret pe_bl))
      pss_nil)
    (pss_one (ps_ret (pe_cmpR (op_eqD (roomHU hr)) (pe_lcH (own := [("_law_k", 3)]) (g := gName 3) ⟨p, hot, List.mem_cons_self⟩ sc_l_is.nd (pi_range1H (by rfl) T.n_range (pa_cons (pe_callB call_len_seq (by rfl) T.n_len (by decide +kernel) (pa_cons (pv 2) pa_nil)) pa_nil)) (blkOk_by (N := ["_law_e", "_law_spot", "_law_sorts_here", "_law_k"]) (sc := defScope s_l_is) (by decide +kernel)) (fun _ _ _ _ _ => pg_name (i := 3) sc_l_is.nd rfl (Or.inl rfl)) (fun _ _ _ _ _ => (pts_one (pt_val (pe_ix (ix_listK (K := K) rfl) (pv 2) (pv 3) (fun _ _ => rfl))))) (fun _ _ _ _ _ => (pv 3))) (pe_lst1 (pa_cons (pv 1) pa_nil)) (nomark _)))))), ?_⟩
  walk_at "rx"
  refine ⟨a, C, n, fs, rfl, ex, hm, fun l H1 S1 hl => ?_⟩
  refine ⟨a, C, fs, .ref T.C_UnsaidError, .ref T.C_UnsaidError, true, rfl, ex.same S1, nv, .own _, en.up T.u_UnsaidError, true, rfl, ?_⟩
  rw [if_neg (by decide)]
  refine ⟨a, C, fs, .ty "ValueError", .type "ValueError", true, rfl, ex.same S1, nv, .ty _, en.value, true, rfl, ?_⟩
  rw [if_neg (by decide)]
  refine ⟨.ref l, rfl, l, rfl, _, .inl (.of hl), _, rfl, Int.le_trans (by decide) (Int.natCast_nonneg _), by rw [List.length_map, cat_len]; decide, fun D hD => ?_⟩
  rw [List.length_map, cat_len]
  have hj : j < 39 := by
    have := (List.getElem?_eq_some_iff.mp hn).1
    rw [cat_len] at this
    exact this
  refine lc_pass (n := 39) (fun i => decide (nms[j]? = nms[i]?)) hD (by rw [sz]; decide) ?_ ?_
  · intro i Ha R Rn hi Sa kt kf
    refine ⟨by simp [wipe], ?_⟩
    walk_at "rx"
    obtain ⟨x, hx⟩ : ∃ x, (cat T)[i]? = some x := ⟨_, List.getElem?_eq_getElem (by rw [cat_len]; exact hi)⟩
    refine r_ixL (v := V.bl (decide (n = x.1))) (.of (Sa _ _ hl)) ?_ ⟨_, rfl, ?_⟩
    · rw [Int.zero_add]
      exact atI_nat (by rw [List.getElem?_map, hx]; rfl)
    · have e : decide (nms[j]? = nms[i]?) = decide (n = x.1) := by
        rw [← cat_nms T, List.getElem?_map, List.getElem?_map, hn, hx]
        simp
      rw [e] at kt kf
      by_cases q : n = x.1
      · rw [decide_eq_true q] at kt ⊢
        rw [if_pos rfl]
        exact kt rfl _ (Same.refl _)
      · rw [decide_eq_false q] at kf ⊢
        rw [if_neg (by decide)]
        exact kf rfl _ (Same.refl _)
  · intro H2 S2 h2
    rw [pass_one hj] at h2
    refine ⟨by rw [sz]; decide, fun q hq _ => ?_⟩
    refine ⟨.list [.int j], .list [.int j], .lst (.of (Same.new hq _ _ h2)) (.cons (.int _) .nil), .lst (.of upd_same) (.cons (.int _) .nil), rfl, rfl, ?_⟩
    rw [SeqAt.eqv_refl _ (by rfl)]
    exact k _ (S1.trans (S2.trans (Same.new hq)))
end
end K00



namespace K00
open PySem L2 L2H Nv

section
variable {K : PySem.W.Frag} {mg : Str → Option Value}
def spKept (T : Tx K mg) (pn : List (Addr × Obj)) : Sp := fun vs H Q _ => ∃ a C n f v, ∃ j : Nat, vs = [.ref a] ∧ (cat T)[j]? = some (n, C) ∧ flds[j]? = some f ∧ ExF pn H a C [(f, v)] ∧ ∀ H', Same H H' → Q v H'
theorem ones_at (T : Tx K mg) {j : Nat} {n f : Str} {C : Addr} (hn : (cat T)[j]? = some (n, C)) (hf : flds[j]? = some f) : E1 K mg T.C_UnsaidError n f C ∧ j < 34 ∧ nms[j]? = some n := by
  have hj : j < 34 := (List.getElem?_eq_some_iff.mp hf).1
  have e : (ones T)[j]? = some (n, C) := by
    rw [← hn]
    unfold cat
    rw [List.append_assoc]
    exact (List.getElem?_append_left (show j < (ones T).length from hj)).symm
  obtain ⟨x, hx, z⟩ := paired_at (ones_ok T) j f hf
  rw [e] at hx
  cases hx
  refine ⟨z, hj, ?_⟩
  rw [← cat_nms T, List.getElem?_map, hn]
  rfl
def pick (T : Tx K mg) (is : List Nat) : List (Str × Addr) := is.filterMap fun i => (cat T)[i]?
theorem pick_cat (T : Tx K mg) {is : List Nat} {x : Str × Addr} (h : x ∈ pick T is) : x ∈ cat T := by
  unfold pick at h
  rw [List.mem_filterMap] at h
  obtain ⟨i, _, e⟩ := h
  exact List.mem_of_getElem? e
theorem test_t (T : Tx K mg) {pn : List (Addr × Obj)} {H : Hp} {Q : VK} {a C tp : Addr} {n f : Str} {v : V} {j : Nat} (is : List Nat) (ns : List Str) (att : Str) (hn : (cat T)[j]? = some (n, C)) (hN : nms[j]? = some n) (hf : flds[j]? = some f) (hj : j < 34) (ex : ExF pn H a C [(f, v)])
    (hp : (pick T is).map (·.1) = ns) (fact : ∀ j : Fin 34, decide ((nms[j.1]?).getD (Str.ofString "") ∈ ns) = decide ((flds[j.1]?).getD (Str.ofString "") = att)) (ht : H tp = some (.tup (((pick T is).map (·.2)).map V.ref))) (q : Q (.bl (decide (f = att))) H) : rIsiXT K pn [.ref a, .ref tp] H Q := by
  have hm := List.mem_of_getElem? hn
  obtain ⟨en, nv⟩ := cat_ok T _ hm
  refine r_isXT (pick T is) ex nv en ht (fun x hx => ?_) ?_
  · have hx := pick_cat T hx
    have E := (cat_ok T x hx).1
    exact ⟨E, E.nu T.u_UnsaidError, fun e => cat_ne T (n, C) hm x hx e⟩
  · have := fact ⟨j, hj⟩
    rw [show nms[(⟨j, hj⟩ : Fin 34).1]? = some n from hN, show flds[(⟨j, hj⟩ : Fin 34).1]? = some f from hf] at this
    simp only [Option.getD_some] at this
    rw [hp, this]
    exact q
theorem test_1 (T : Tx K mg) {pn : List (Addr × Obj)} {H : Hp} {Q : VK} {a C D : Addr} {n f m : Str} {v : V} {j : Nat} (i : Nat) (att : Str) (hn : (cat T)[j]? = some (n, C)) (hN : nms[j]? = some n) (hf : flds[j]? = some f) (hj : j < 34) (ex : ExF pn H a C [(f, v)])
    (hi : (cat T)[i]? = some (m, D)) (fact : ∀ j : Fin 34, decide ((nms[j.1]?).getD (Str.ofString "") = m) = decide ((flds[j.1]?).getD (Str.ofString "") = att)) (q : Q (.bl (decide (f = att))) H) : rIsiX K pn [.ref a, .ref D] H Q := by
  have hm := List.mem_of_getElem? hn
  obtain ⟨en, nv⟩ := cat_ok T _ hm
  have hx := List.mem_of_getElem? hi
  have E := (cat_ok T _ hx).1
  refine ⟨a, C, _, .ref D, .ref D, decide (n = m), rfl, ex, nv, .own D, en.one E (E.nu T.u_UnsaidError) (fun e => cat_ne T (n, C) hm (m, D) hx e), ?_⟩
  have := fact ⟨j, hj⟩
  rw [show nms[(⟨j, hj⟩ : Fin 34).1]? = some n from hN, show flds[(⟨j, hj⟩ : Fin 34).1]? = some f from hf] at this
  simp only [Option.getD_some] at this
  rw [this]
  exact q
end
section
variable {P : Program} {w : World} {K : PySem.W.Frag} {mg : Str → Option Value} {base : Heap}
theorem ok_l_kept (T : Tx K mg) : FnG P w K mg base 1 T.d_l_kept.f T.d_l_kept.fd ["_law_e"] (spKept T []) := by
  refine okG0 T.d_l_kept.F sc_l_kept (fun vs H Q E h => ?_) (fun cdv A outer s H vs Q E hg hr h => ?_)
  · obtain ⟨a, C, n, f, v, j, rfl, _⟩ := h
    rfl
  obtain ⟨a, C, n, f, v, j, rfl, hn, hf, ex, k⟩ := h
  have sz : sizeLine = 16777216 := sizeLine_eq
  obtain ⟨E, hj, hN⟩ := ones_at T hn hf
  refine ⟨_, (pss_cons (ps_if (pt_val (pe_callB call_isiXT (by rfl) T.n_isinstance (by decide +kernel) (pa_cons (pv 0) (pa_cons (pe_tup (pa_cons (pe_glob (v := .ref T.C_NotJoined) rfl T.E_NotJoined.gC rfl) (pa_cons (pe_glob (v := .ref T.C_Down) rfl T.E_Down.gC rfl) (pa_cons (pe_glob (v := .ref T.C_Up) rfl T.E_Up.gC rfl) (pa_cons (pe_glob (v := .ref T.C_NotWhole) rfl T.E_NotWhole.gC rfl) pa_nil))))) pa_nil))))
      (pss_one (ps_ret (pe_fldE (pv 0))))
      pss_nil)
    (pss_cons (ps_if (pt_val (pe_callB call_isiXT (by rfl) T.n_isinstance (by decide +kernel) (pa_cons (pv 0) (pa_cons (pe_tup (pa_cons (pe_glob (v := .ref T.C_Stopped) rfl T.E_Stopped.gC rfl) (pa_cons (pe_glob (v := .ref T.C_Refused) rfl T.E_Refused.gC rfl) (pa_cons (pe_glob (v := .ref T.C_Turned) rfl T.E_Turned.gC rfl) pa_nil)))) pa_nil))))
      (pss_one (ps_ret (pe_fldE (pv 0))))
      pss_nil)
    (pss_cons (ps_if (pt_val (pe_callB call_isiXT (by rfl) T.n_isinstance (by decide +kernel) (pa_cons (pv 0) (pa_cons (pe_tup (pa_cons (pe_glob (v := .ref T.C_SameKey) rfl T.E_SameKey.gC rfl) (pa_cons (pe_glob (v := .ref T.C_NotHeld) rfl T.E_NotHeld.gC rfl) (pa_cons (pe_glob (v := .ref T.C_Held) rfl T.E_Held.gC rfl) pa_nil)))) pa_nil))))
      (pss_one (ps_ret (pe_fldE (pv 0))))
      pss_nil)
    (pss_cons (ps_if (pt_val (pe_callB call_isiX (by rfl) T.n_isinstance (by decide +kernel) (pa_cons (pv 0) (pa_cons (pe_glob (v := .ref T.C_Faulty) rfl T.E_Faulty.gC rfl) pa_nil))))
      (pss_one (ps_ret (pe_fldE (pv 0))))
      pss_nil)
    (pss_cons (ps_if (pt_val (pe_callB call_isiX (by rfl) T.n_isinstance (by decide +kernel) (pa_cons (pv 0) (pa_cons (pe_glob (v := .ref T.C_DoNotFit) rfl T.E_DoNotFit.gC rfl) pa_nil))))
      (pss_one (ps_ret (pe_fldE (pv 0))))
      pss_nil)
    (pss_cons (ps_if (pt_val (pe_callB call_isiX (by rfl) T.n_isinstance (by decide +kernel) (pa_cons (pv 0) (pa_cons (pe_glob (v := .ref T.C_TooMany) rfl T.E_TooMany.gC rfl) pa_nil))))
      (pss_one (ps_ret (pe_fldE (pv 0))))
      pss_nil)
    (pss_cons (ps_if (pt_val (pe_callB call_isiX (by rfl) T.n_isinstance (by decide +kernel) (pa_cons (pv 0) (pa_cons (pe_glob (v := .ref T.C_NotStanding) rfl T.E_NotStanding.gC rfl) pa_nil))))
      (pss_one (ps_ret (pe_fldE (pv 0))))
      pss_nil)
    (pss_cons (ps_if (pt_val (pe_callB call_isiX (by rfl) T.n_isinstance (by decide +kernel) (pa_cons (pv 0) (pa_cons (pe_glob (v := .ref T.C_NoLetter) rfl T.E_NoLetter.gC rfl) pa_nil))))
      (pss_one (ps_ret (pe_fldE (pv 0))))
      pss_nil)
    (pss_one (ps_ret (pe_fldE (pv 0)))))))))))), ?_⟩
  walk_at "rx"
  have G0 : Same H H := Same.refl H
  have last : ∀ {R : VK} (att : Str) (H1 : Hp), f = att → Same H H1 → R v H1 → ∃ x, PySem.W.NvCls K x ∧ PySem.W.findIn K (Value.ref x) att = some none ∧ ∃ fs, ExF [] H1 a x fs ∧ ∃ y, List.lookup att fs = some y ∧ R y H1 := fun att H1 e S r => by
    subst e
    exact ⟨C, E.nv, E.nf, _, ex.same S, v, by simp [List.lookup], r⟩
  refine ⟨by rw [sz]; decide, fun t0 ht0 => ?_⟩
  obtain ⟨H0, eh, S0, f0⟩ := gen_new (.tup _) ht0
  rw [eh]
  clear eh
  have G1 := G0.trans S0
  refine test_t T [19, 28, 29, 32] [Str.ofString "NotJoined", Str.ofString "Down", Str.ofString "Up", Str.ofString "NotWhole"] (Str.ofString "house") hn hN hf hj (ex.same G1) rfl (by decide +kernel) f0 ⟨_, rfl, ?_⟩
  by_cases q0 : f = Str.ofString "house"
  · rw [if_pos (decide_eq_true q0)]
    exact last _ _ q0 G1 (k _ G1)
  rw [decide_eq_false q0, if_neg (by decide)]
  refine ⟨by rw [sz]; decide, fun t1 ht1 => ?_⟩
  obtain ⟨H1, eh, S1, f1⟩ := gen_new (.tup _) ht1
  rw [eh]
  clear eh
  have G2 := G1.trans S1
  refine test_t T [20, 31, 33] [Str.ofString "Stopped", Str.ofString "Refused", Str.ofString "Turned"] (Str.ofString "at") hn hN hf hj (ex.same G2) rfl (by decide +kernel) f1 ⟨_, rfl, ?_⟩
  by_cases q1 : f = Str.ofString "at"
  · rw [if_pos (decide_eq_true q1)]
    exact last _ _ q1 G2 (k _ G2)
  rw [decide_eq_false q1, if_neg (by decide)]
  refine ⟨by rw [sz]; decide, fun t2 ht2 => ?_⟩
  obtain ⟨H2, eh, S2, f2⟩ := gen_new (.tup _) ht2
  rw [eh]
  clear eh
  have G3 := G2.trans S2
  refine test_t T [23, 24, 25] [Str.ofString "SameKey", Str.ofString "NotHeld", Str.ofString "Held"] (Str.ofString "key") hn hN hf hj (ex.same G3) rfl (by decide +kernel) f2 ⟨_, rfl, ?_⟩
  by_cases q2 : f = Str.ofString "key"
  · rw [if_pos (decide_eq_true q2)]
    exact last _ _ q2 G3 (k _ G3)
  rw [decide_eq_false q2, if_neg (by decide)]
  have G4 := G3
  refine test_1 T 21 (m := Str.ofString "Faulty") (Str.ofString "fault") hn hN hf hj (ex.same G4) rfl (by decide +kernel) ⟨_, rfl, ?_⟩
  by_cases q3 : f = Str.ofString "fault"
  · rw [if_pos (decide_eq_true q3)]
    exact last _ _ q3 G4 (k _ G4)
  rw [decide_eq_false q3, if_neg (by decide)]
  have G5 := G4
  refine test_1 T 22 (m := Str.ofString "DoNotFit") (Str.ofString "picture") hn hN hf hj (ex.same G5) rfl (by decide +kernel) ⟨_, rfl, ?_⟩
  by_cases q4 : f = Str.ofString "picture"
  · rw [if_pos (decide_eq_true q4)]
    exact last _ _ q4 G5 (k _ G5)
  rw [decide_eq_false q4, if_neg (by decide)]
  have G6 := G5
  refine test_1 T 26 (m := Str.ofString "TooMany") (Str.ofString "count") hn hN hf hj (ex.same G6) rfl (by decide +kernel) ⟨_, rfl, ?_⟩
  by_cases q5 : f = Str.ofString "count"
  · rw [if_pos (decide_eq_true q5)]
    exact last _ _ q5 G6 (k _ G6)
  rw [decide_eq_false q5, if_neg (by decide)]
  have G7 := G6
  refine test_1 T 27 (m := Str.ofString "NotStanding") (Str.ofString "now") hn hN hf hj (ex.same G7) rfl (by decide +kernel) ⟨_, rfl, ?_⟩
  by_cases q6 : f = Str.ofString "now"
  · rw [if_pos (decide_eq_true q6)]
    exact last _ _ q6 G7 (k _ G7)
  rw [decide_eq_false q6, if_neg (by decide)]
  have G8 := G7
  refine test_1 T 30 (m := Str.ofString "NoLetter") (Str.ofString "k") hn hN hf hj (ex.same G8) rfl (by decide +kernel) ⟨_, rfl, ?_⟩
  by_cases q7 : f = Str.ofString "k"
  · rw [if_pos (decide_eq_true q7)]
    exact last _ _ q7 G8 (k _ G8)
  rw [decide_eq_false q7, if_neg (by decide)]
  refine last _ _ ?_ G8 (k _ G8)
  have all : ∀ j : Fin 34, (flds[j.1]?).getD (Str.ofString "") = Str.ofString "given" ∨ (flds[j.1]?).getD (Str.ofString "") = Str.ofString "house" ∨ (flds[j.1]?).getD (Str.ofString "") = Str.ofString "at" ∨ (flds[j.1]?).getD (Str.ofString "") = Str.ofString "key" ∨ (flds[j.1]?).getD (Str.ofString "") = Str.ofString "fault" ∨ (flds[j.1]?).getD (Str.ofString "") = Str.ofString "picture" ∨ (flds[j.1]?).getD (Str.ofString "") = Str.ofString "count" ∨ (flds[j.1]?).getD (Str.ofString "") = Str.ofString "now" ∨ (flds[j.1]?).getD (Str.ofString "") = Str.ofString "k" := by decide +kernel
  have := all ⟨j, hj⟩
  rw [show flds[(⟨j, hj⟩ : Fin 34).1]? = some f from hf] at this
  simp only [Option.getD_some, q0, q1, q2, q3, q4, q5, q6, q7, or_false] at this
  exact this
theorem okp_l_kept (T : Tx K mg) : FnGP P w K mg base 1 T.d_l_kept.f T.d_l_kept.fd ["_law_e"] (fun p => spKept T [p]) := by
  refine okGP T.d_l_kept.F sc_l_kept (fun p vs H Q E h => ?_) (fun cdv A outer s H vs Q E p hg hot hr h => ?_)
  · obtain ⟨a, C, n, f, v, j, rfl, _⟩ := h
    rfl
  obtain ⟨a, C, n, f, v, j, rfl, hn, hf, ex, k⟩ := h
  have sz : sizeLine = 16777216 := sizeLine_eq
  obtain ⟨E, hj, hN⟩ := ones_at T hn hf
  refine ⟨_, (pss_cons (ps_if (pt_val (pe_callB call_isiXT (by rfl) T.n_isinstance (by decide +kernel) (pa_cons (pv 0) (pa_cons (pe_tup (pa_cons (pe_glob (v := .ref T.C_NotJoined) rfl T.E_NotJoined.gC rfl) (pa_cons (pe_glob (v := .ref T.C_Down) rfl T.E_Down.gC rfl) (pa_cons (pe_glob (v := .ref T.C_Up) rfl T.E_Up.gC rfl) (pa_cons (pe_glob (v := .ref T.C_NotWhole) rfl T.E_NotWhole.gC rfl) pa_nil))))) pa_nil))))
      (pss_one (ps_ret (pe_fldE (pv 0))))
      pss_nil)
    (pss_cons (ps_if (pt_val (pe_callB call_isiXT (by rfl) T.n_isinstance (by decide +kernel) (pa_cons (pv 0) (pa_cons (pe_tup (pa_cons (pe_glob (v := .ref T.C_Stopped) rfl T.E_Stopped.gC rfl) (pa_cons (pe_glob (v := .ref T.C_Refused) rfl T.E_Refused.gC rfl) (pa_cons (pe_glob (v := .ref T.C_Turned) rfl T.E_Turned.gC rfl) pa_nil)))) pa_nil))))
      (pss_one (ps_ret (pe_fldE (pv 0))))
      pss_nil)
    (pss_cons (ps_if (pt_val (pe_callB call_isiXT (by rfl) T.n_isinstance (by decide +kernel) (pa_cons (pv 0) (pa_cons (pe_tup (pa_cons (pe_glob (v := .ref T.C_SameKey) rfl T.E_SameKey.gC rfl) (pa_cons (pe_glob (v := .ref T.C_NotHeld) rfl T.E_NotHeld.gC rfl) (pa_cons (pe_glob (v := .ref T.C_Held) rfl T.E_Held.gC rfl) pa_nil)))) pa_nil))))
      (pss_one (ps_ret (pe_fldE (pv 0))))
      pss_nil)
    (pss_cons (ps_if (pt_val (pe_callB call_isiX (by rfl) T.n_isinstance (by decide +kernel) (pa_cons (pv 0) (pa_cons (pe_glob (v := .ref T.C_Faulty) rfl T.E_Faulty.gC rfl) pa_nil))))
      (pss_one (ps_ret (pe_fldE (pv 0))))
      pss_nil)
    (pss_cons (ps_if (pt_val (pe_callB call_isiX (by rfl) T.n_isinstance (by decide +kernel) (pa_cons (pv 0) (pa_cons (pe_glob (v := .ref T.C_DoNotFit) rfl T.E_DoNotFit.gC rfl) pa_nil))))
      (pss_one (ps_ret (pe_fldE (pv 0))))
      pss_nil)
    (pss_cons (ps_if (pt_val (pe_callB call_isiX (by rfl) T.n_isinstance (by decide +kernel) (pa_cons (pv 0) (pa_cons (pe_glob (v := .ref T.C_TooMany) rfl T.E_TooMany.gC rfl) pa_nil))))
      (pss_one (ps_ret (pe_fldE (pv 0))))
      pss_nil)
    (pss_cons (ps_if (pt_val (pe_callB call_isiX (by rfl) T.n_isinstance (by decide +kernel) (pa_cons (pv 0) (pa_cons (pe_glob (v := .ref T.C_NotStanding) rfl T.E_NotStanding.gC rfl) pa_nil))))
      (pss_one (ps_ret (pe_fldE (pv 0))))
      pss_nil)
    (pss_cons (ps_if (pt_val (pe_callB call_isiX (by rfl) T.n_isinstance (by decide +kernel) (pa_cons (pv 0) (pa_cons (pe_glob (v := .ref T.C_NoLetter) rfl T.E_NoLetter.gC rfl) pa_nil))))
      (pss_one (ps_ret (pe_fldE (pv 0))))
      pss_nil)
    (pss_one (ps_ret (pe_fldE (pv 0)))))))))))), ?_⟩
  walk_at "rx"
  have G0 : Same H H := Same.refl H
  have last : ∀ {R : VK} (att : Str) (H1 : Hp), f = att → Same H H1 → R v H1 → ∃ x, PySem.W.NvCls K x ∧ PySem.W.findIn K (Value.ref x) att = some none ∧ ∃ fs, ExF [p] H1 a x fs ∧ ∃ y, List.lookup att fs = some y ∧ R y H1 := fun att H1 e S r => by
    subst e
    exact ⟨C, E.nv, E.nf, _, ex.same S, v, by simp [List.lookup], r⟩
  refine ⟨by rw [sz]; decide, fun t0 ht0 => ?_⟩
  obtain ⟨H0, eh, S0, f0⟩ := gen_new (.tup _) ht0
  rw [eh]
  clear eh
  have G1 := G0.trans S0
  refine test_t T [19, 28, 29, 32] [Str.ofString "NotJoined", Str.ofString "Down", Str.ofString "Up", Str.ofString "NotWhole"] (Str.ofString "house") hn hN hf hj (ex.same G1) rfl (by decide +kernel) f0 ⟨_, rfl, ?_⟩
  by_cases q0 : f = Str.ofString "house"
  · rw [if_pos (decide_eq_true q0)]
    exact last _ _ q0 G1 (k _ G1)
  rw [decide_eq_false q0, if_neg (by decide)]
  refine ⟨by rw [sz]; decide, fun t1 ht1 => ?_⟩
  obtain ⟨H1, eh, S1, f1⟩ := gen_new (.tup _) ht1
  rw [eh]
  clear eh
  have G2 := G1.trans S1
  refine test_t T [20, 31, 33] [Str.ofString "Stopped", Str.ofString "Refused", Str.ofString "Turned"] (Str.ofString "at") hn hN hf hj (ex.same G2) rfl (by decide +kernel) f1 ⟨_, rfl, ?_⟩
  by_cases q1 : f = Str.ofString "at"
  · rw [if_pos (decide_eq_true q1)]
    exact last _ _ q1 G2 (k _ G2)
  rw [decide_eq_false q1, if_neg (by decide)]
  refine ⟨by rw [sz]; decide, fun t2 ht2 => ?_⟩
  obtain ⟨H2, eh, S2, f2⟩ := gen_new (.tup _) ht2
  rw [eh]
  clear eh
  have G3 := G2.trans S2
  refine test_t T [23, 24, 25] [Str.ofString "SameKey", Str.ofString "NotHeld", Str.ofString "Held"] (Str.ofString "key") hn hN hf hj (ex.same G3) rfl (by decide +kernel) f2 ⟨_, rfl, ?_⟩
  by_cases q2 : f = Str.ofString "key"
  · rw [if_pos (decide_eq_true q2)]
    exact last _ _ q2 G3 (k _ G3)
  rw [decide_eq_false q2, if_neg (by decide)]
  have G4 := G3
  refine test_1 T 21 (m := Str.ofString "Faulty") (Str.ofString "fault") hn hN hf hj (ex.same G4) rfl (by decide +kernel) ⟨_, rfl, ?_⟩
  by_cases q3 : f = Str.ofString "fault"
  · rw [if_pos (decide_eq_true q3)]
    exact last _ _ q3 G4 (k _ G4)
  rw [decide_eq_false q3, if_neg (by decide)]
  have G5 := G4
  refine test_1 T 22 (m := Str.ofString "DoNotFit") (Str.ofString "picture") hn hN hf hj (ex.same G5) rfl (by decide +kernel) ⟨_, rfl, ?_⟩
  by_cases q4 : f = Str.ofString "picture"
  · rw [if_pos (decide_eq_true q4)]
    exact last _ _ q4 G5 (k _ G5)
  rw [decide_eq_false q4, if_neg (by decide)]
  have G6 := G5
  refine test_1 T 26 (m := Str.ofString "TooMany") (Str.ofString "count") hn hN hf hj (ex.same G6) rfl (by decide +kernel) ⟨_, rfl, ?_⟩
  by_cases q5 : f = Str.ofString "count"
  · rw [if_pos (decide_eq_true q5)]
    exact last _ _ q5 G6 (k _ G6)
  rw [decide_eq_false q5, if_neg (by decide)]
  have G7 := G6
  refine test_1 T 27 (m := Str.ofString "NotStanding") (Str.ofString "now") hn hN hf hj (ex.same G7) rfl (by decide +kernel) ⟨_, rfl, ?_⟩
  by_cases q6 : f = Str.ofString "now"
  · rw [if_pos (decide_eq_true q6)]
    exact last _ _ q6 G7 (k _ G7)
  rw [decide_eq_false q6, if_neg (by decide)]
  have G8 := G7
  refine test_1 T 30 (m := Str.ofString "NoLetter") (Str.ofString "k") hn hN hf hj (ex.same G8) rfl (by decide +kernel) ⟨_, rfl, ?_⟩
  by_cases q7 : f = Str.ofString "k"
  · rw [if_pos (decide_eq_true q7)]
    exact last _ _ q7 G8 (k _ G8)
  rw [decide_eq_false q7, if_neg (by decide)]
  refine last _ _ ?_ G8 (k _ G8)
  have all : ∀ j : Fin 34, (flds[j.1]?).getD (Str.ofString "") = Str.ofString "given" ∨ (flds[j.1]?).getD (Str.ofString "") = Str.ofString "house" ∨ (flds[j.1]?).getD (Str.ofString "") = Str.ofString "at" ∨ (flds[j.1]?).getD (Str.ofString "") = Str.ofString "key" ∨ (flds[j.1]?).getD (Str.ofString "") = Str.ofString "fault" ∨ (flds[j.1]?).getD (Str.ofString "") = Str.ofString "picture" ∨ (flds[j.1]?).getD (Str.ofString "") = Str.ofString "count" ∨ (flds[j.1]?).getD (Str.ofString "") = Str.ofString "now" ∨ (flds[j.1]?).getD (Str.ofString "") = Str.ofString "k" := by decide +kernel
  have := all ⟨j, hj⟩
  rw [show flds[(⟨j, hj⟩ : Fin 34).1]? = some f from hf] at this
  simp only [Option.getD_some, q0, q1, q2, q3, q4, q5, q6, q7, or_false] at this
  exact this
end
end K00



namespace K00
open PySem L2 L2H Nv

theorem none_of {H H' : Hp} {a : Addr} (S : Same H H') (h : H' a = none) : H a = none := by
  cases e : H a with
  | none => rfl
  | some o =>
    rw [S _ _ e] at h
    cases h
section
variable {K : PySem.W.Frag} {mg : Str → Option Value}
def spTwoKept (T : Tx K mg) (pn : List (Addr × Obj)) : Sp := fun vs H Q _ => ∃ a C n f1 f2 v1 v2, ∃ i : Nat, vs = [.ref a] ∧ (cat T)[34 + i]? = some (n, C) ∧ pfl[i]? = some (f1, f2) ∧ ExF pn H a C [(f2, v2), (f1, v1)] ∧ ∀ p H', p ≠ sysModules → H p = none → Same H H' → H' p = some (.lst [v1, v2]) → Q (.ref p) H'
theorem twos_at (T : Tx K mg) {i : Nat} {n f1 f2 : Str} {C : Addr} (hn : (cat T)[34 + i]? = some (n, C)) (hf : pfl[i]? = some (f1, f2)) : E2 K mg T.C_UnsaidError n f1 f2 C ∧ i < 4 ∧ nms[34 + i]? = some n := by
  have hi : i < 4 := (List.getElem?_eq_some_iff.mp hf).1
  have e : (twos T)[i]? = some (n, C) := by
    rw [← hn]
    unfold cat
    rw [List.append_assoc, List.getElem?_append_right (show (ones T).length ≤ 34 + i from Nat.le_add_right 34 i), show 34 + i - (ones T).length = i from Nat.add_sub_cancel_left 34 i]
    exact (List.getElem?_append_left (show i < (twos T).length from hi)).symm
  obtain ⟨x, hx, z⟩ := paired_at (twos_ok T) i (f1, f2) hf
  rw [e] at hx
  cases hx
  refine ⟨z, hi, ?_⟩
  rw [← cat_nms T, List.getElem?_map, hn]
  rfl
end
section
variable {P : Program} {w : World} {K : PySem.W.Frag} {mg : Str → Option Value} {base : Heap}
theorem ok_l_two_kept (T : Tx K mg) : FnG P w K mg base 1 T.d_l_two_kept.f T.d_l_two_kept.fd ["_law_e"] (spTwoKept T []) := by
  refine okG0 T.d_l_two_kept.F sc_l_two_kept (fun vs H Q E h => ?_) (fun cdv A outer s H vs Q E hg hr h => ?_)
  · obtain ⟨a, C, n, f1, f2, v1, v2, i, rfl, _⟩ := h
    rfl
  obtain ⟨a, C, n, f1, f2, v1, v2, i, rfl, hn, hf, ex, k⟩ := h
  have sz : sizeLine = 16777216 := sizeLine_eq
  obtain ⟨E, hi, hN⟩ := twos_at T hn hf
  have hm := List.mem_of_getElem? hn
  obtain ⟨en, nv⟩ := cat_ok T _ hm
  refine ⟨_, (pss_cons (ps_if (pt_val (pe_callB call_isiXT (by rfl) T.n_isinstance (by decide +kernel) (pa_cons (pv 0) (pa_cons (pe_tup (pa_cons (pe_glob (v := .ref T.C_NotARoad) rfl T.E_NotARoad.gC rfl) (pa_cons (pe_glob (v := .ref T.C_NothingUnderWay) rfl T.E_NothingUnderWay.gC rfl) pa_nil))) pa_nil))))
      (pss_one (ps_ret (pe_lst1 (pa_cons (pe_fldE (pv 0)) (pa_cons (pe_fldE (pv 0)) pa_nil)))))
      pss_nil)
    (pss_one (ps_ret (pe_lst1 (pa_cons (pe_fldE (pv 0)) (pa_cons (pe_fldE (pv 0)) pa_nil)))))), ?_⟩
  walk_at "rx"
  refine ⟨by rw [sz]; decide, fun t0 ht0 => ?_⟩
  obtain ⟨H1, eh, S1, h1⟩ := gen_new (.tup _) ht0
  rw [eh]
  clear eh
  refine r_isXT (pick T [34, 35]) (ex.same S1) nv en h1 (fun x hx => ?_) ⟨_, rfl, ?_⟩
  · have hx := pick_cat T hx
    have E := (cat_ok T x hx).1
    exact ⟨E, E.nu T.u_UnsaidError, fun e => cat_ne T (n, C) hm x hx e⟩
  rw [show (pick T [34, 35]).map (fun x => x.1) = [Str.ofString "NotARoad", Str.ofString "NothingUnderWay"] from rfl]
  have fin : 0 + 1 + 1 ≤ sizeLine ∧ ∀ p : Addr, H1 p = none → p ≠ sysModules → Q (V.ref p) (upd H1 p (.lst [v1, v2])) :=
    ⟨by rw [sz]; decide, fun p hp np => k p _ np (none_of S1 hp) (S1.trans (Same.new hp)) upd_same⟩
  have get1 : ([(f2, v2), (f1, v1)] : List (Str × V)).lookup f1 = some v1 ∧ ([(f2, v2), (f1, v1)] : List (Str × V)).lookup f2 = some v2 := by
    have all : ∀ i : Fin 4, ((pfl[i.1]?).getD (Str.ofString "", Str.ofString "")).1 ≠ ((pfl[i.1]?).getD (Str.ofString "", Str.ofString "")).2 := by decide +kernel
    have := all ⟨i, hi⟩
    rw [show pfl[(⟨i, hi⟩ : Fin 4).1]? = some (f1, f2) from hf] at this
    simp only [Option.getD_some] at this
    constructor
    · rw [List.lookup_cons]
      rw [show (f1 == f2) = false from beq_eq_false_iff_ne.mpr this]
      simp [List.lookup_cons]
    · simp [List.lookup_cons]
  have all : ∀ i : Fin 4, ((nms[34 + i.1]?).getD (Str.ofString "") ∈ [Str.ofString "NotARoad", Str.ofString "NothingUnderWay"] ∧ (pfl[i.1]?).getD (Str.ofString "", Str.ofString "") = (Str.ofString "u", Str.ofString "v")) ∨ (¬ (nms[34 + i.1]?).getD (Str.ofString "") ∈ [Str.ofString "NotARoad", Str.ofString "NothingUnderWay"] ∧ (pfl[i.1]?).getD (Str.ofString "", Str.ofString "") = (Str.ofString "x", Str.ofString "z")) := by decide +kernel
  have al := all ⟨i, hi⟩
  rw [show pfl[(⟨i, hi⟩ : Fin 4).1]? = some (f1, f2) from hf, show nms[34 + (⟨i, hi⟩ : Fin 4).1]? = some n from hN] at al
  simp only [Option.getD_some] at al
  rcases al with ⟨q, e⟩ | ⟨q, e⟩
  · rw [if_pos (decide_eq_true q)]
    cases e
    exact ⟨C, nv, E.nf1, _, ex.same S1, v1, get1.1, C, nv, E.nf2, _, ex.same S1, v2, get1.2, fin⟩
  · rw [if_neg (by rw [decide_eq_false q]; decide)]
    cases e
    exact ⟨C, nv, E.nf1, _, ex.same S1, v1, get1.1, C, nv, E.nf2, _, ex.same S1, v2, get1.2, fin⟩
theorem okp_l_two_kept (T : Tx K mg) : FnGP P w K mg base 1 T.d_l_two_kept.f T.d_l_two_kept.fd ["_law_e"] (fun p => spTwoKept T [p]) := by
  refine okGP T.d_l_two_kept.F sc_l_two_kept (fun p vs H Q E h => ?_) (fun cdv A outer s H vs Q E p hg hot hr h => ?_)
  · obtain ⟨a, C, n, f1, f2, v1, v2, i, rfl, _⟩ := h
    rfl
  obtain ⟨a, C, n, f1, f2, v1, v2, i, rfl, hn, hf, ex, k⟩ := h
  have sz : sizeLine = 16777216 := sizeLine_eq
  obtain ⟨E, hi, hN⟩ := twos_at T hn hf
  have hm := List.mem_of_getElem? hn
  obtain ⟨en, nv⟩ := cat_ok T _ hm
  refine ⟨_, (pss_cons (ps_if (pt_val (pe_callB call_isiXT (by rfl) T.n_isinstance (by decide +kernel) (pa_cons (pv 0) (pa_cons (pe_tup (pa_cons (pe_glob (v := .ref T.C_NotARoad) rfl T.E_NotARoad.gC rfl) (pa_cons (pe_glob (v := .ref T.C_NothingUnderWay) rfl T.E_NothingUnderWay.gC rfl) pa_nil))) pa_nil))))
      (pss_one (ps_ret (pe_lst1 (pa_cons (pe_fldE (pv 0)) (pa_cons (pe_fldE (pv 0)) pa_nil)))))
      pss_nil)
    (pss_one (ps_ret (pe_lst1 (pa_cons (pe_fldE (pv 0)) (pa_cons (pe_fldE (pv 0)) pa_nil)))))), ?_⟩
  walk_at "rx"
  refine ⟨by rw [sz]; decide, fun t0 ht0 => ?_⟩
  obtain ⟨H1, eh, S1, h1⟩ := gen_new (.tup _) ht0
  rw [eh]
  clear eh
  refine r_isXT (pick T [34, 35]) (ex.same S1) nv en h1 (fun x hx => ?_) ⟨_, rfl, ?_⟩
  · have hx := pick_cat T hx
    have E := (cat_ok T x hx).1
    exact ⟨E, E.nu T.u_UnsaidError, fun e => cat_ne T (n, C) hm x hx e⟩
  rw [show (pick T [34, 35]).map (fun x => x.1) = [Str.ofString "NotARoad", Str.ofString "NothingUnderWay"] from rfl]
  have fin : 0 + 1 + 1 ≤ sizeLine ∧ ∀ p : Addr, H1 p = none → p ≠ sysModules → Q (V.ref p) (upd H1 p (.lst [v1, v2])) :=
    ⟨by rw [sz]; decide, fun p hp np => k p _ np (none_of S1 hp) (S1.trans (Same.new hp)) upd_same⟩
  have get1 : ([(f2, v2), (f1, v1)] : List (Str × V)).lookup f1 = some v1 ∧ ([(f2, v2), (f1, v1)] : List (Str × V)).lookup f2 = some v2 := by
    have all : ∀ i : Fin 4, ((pfl[i.1]?).getD (Str.ofString "", Str.ofString "")).1 ≠ ((pfl[i.1]?).getD (Str.ofString "", Str.ofString "")).2 := by decide +kernel
    have := all ⟨i, hi⟩
    rw [show pfl[(⟨i, hi⟩ : Fin 4).1]? = some (f1, f2) from hf] at this
    simp only [Option.getD_some] at this
    constructor
    · rw [List.lookup_cons]
      rw [show (f1 == f2) = false from beq_eq_false_iff_ne.mpr this]
      simp [List.lookup_cons]
    · simp [List.lookup_cons]
  have all : ∀ i : Fin 4, ((nms[34 + i.1]?).getD (Str.ofString "") ∈ [Str.ofString "NotARoad", Str.ofString "NothingUnderWay"] ∧ (pfl[i.1]?).getD (Str.ofString "", Str.ofString "") = (Str.ofString "u", Str.ofString "v")) ∨ (¬ (nms[34 + i.1]?).getD (Str.ofString "") ∈ [Str.ofString "NotARoad", Str.ofString "NothingUnderWay"] ∧ (pfl[i.1]?).getD (Str.ofString "", Str.ofString "") = (Str.ofString "x", Str.ofString "z")) := by decide +kernel
  have al := all ⟨i, hi⟩
  rw [show pfl[(⟨i, hi⟩ : Fin 4).1]? = some (f1, f2) from hf, show nms[34 + (⟨i, hi⟩ : Fin 4).1]? = some n from hN] at al
  simp only [Option.getD_some] at al
  rcases al with ⟨q, e⟩ | ⟨q, e⟩
  · rw [if_pos (decide_eq_true q)]
    cases e
    exact ⟨C, nv, E.nf1, _, ex.same S1, v1, get1.1, C, nv, E.nf2, _, ex.same S1, v2, get1.2, fin⟩
  · rw [if_neg (by rw [decide_eq_false q]; decide)]
    cases e
    exact ⟨C, nv, E.nf1, _, ex.same S1, v1, get1.1, C, nv, E.nf2, _, ex.same S1, v2, get1.2, fin⟩
end
end K00



namespace K00
open PySem L2 L2H Nv

/-- what the law draws from -/
def things : List PyData := [.none, .bool true, .bool false, .int 0, .int 7, .str (Str.ofString ""), .str (Str.ofString "a b"), .list [], .list [.int 1, .str (Str.ofString "a")], .tuple [], .tuple [.int 1, .bool true], .dict [], .dict [(.str (Str.ofString "a"), .list [.int 3])], .list [.none], .int (-10000000000000000000), .str (Str.ofString "2 0 bell "), .tuple [.int 0, .int 1]]
theorem mem_things {d : PyData} (h : d ∈ things.take 14 ∨ d ∈ things.drop 14) : d ∈ things := by
  rw [← List.take_append_drop 14 things]
  exact List.mem_append.mpr h
theorem dv_lst {H : Hp} {v : V} {ds : List PyData} (h : DV H v (.list ds)) : ∃ l xs, v = .ref l ∧ H l = some (.lst xs) ∧ DVs H xs ds := by
  cases h with
  | lst h _ r => exact ⟨_, _, rfl, h, r⟩
theorem dvs_get {H : Hp} : ∀ {vs : List V} {ds : List PyData}, DVs H vs ds → ∀ {i : Nat} {v : V}, vs[i]? = some v → ∃ d, ds[i]? = some d ∧ DV H v d
  | _, _, .nil, i, v, h => by simp at h
  | _, _, .cons a r, 0, v, h => by
    simp at h
    subst h
    exact ⟨_, rfl, a⟩
  | _, _, .cons a r, i + 1, v, h => by
    obtain ⟨d, hd, z⟩ := dvs_get r (i := i) (v := v) (by simpa using h)
    exact ⟨d, by simpa using hd, z⟩
/-- data that stands apart from p -/
def Apt (p : Addr) (H : Hp) (v : V) (d : PyData) : Prop := ∃ Hs : Hp, Hs p = none ∧ (∀ a o, Hs a = some o → H a = some o) ∧ DV Hs v d
theorem Apt.ext {p : Addr} {H H' : Hp} {v : V} {d : PyData} (h : Apt p H v d) (e : Ext1 p H H') : Apt p H' v d := by
  obtain ⟨Hs, h1, h2, h3⟩ := h
  exact ⟨Hs, h1, fun a o ha => e a o (fun q => by rw [q, h1] at ha; cases ha) (h2 a o ha), h3⟩
theorem Apt.dv {p : Addr} {H : Hp} {v : V} {d : PyData} (h : Apt p H v d) : DV H v d := by
  obtain ⟨Hs, h1, h2, h3⟩ := h
  exact h3.mono h2
def spThing : Sp := fun vs H Q _ => ∃ p N, vs = [.ref p] ∧ BoxAt H p N ∧ N ≤ 100000 ∧ ∀ v d H', d ∈ things → Apt p H' v d → BoxAt H' p (N + 1) → Ext1 p H H' → Q v H'
section
variable {P : Program} {w : World} {K : PySem.W.Frag} {mg : Str → Option Value} {base : Heap}
theorem ok_l_thing (T : Tx K mg) : FnG P w K mg base 2 T.d_l_thing.f T.d_l_thing.fd ["_law_box_here"] spThing := by
  refine okG0 T.d_l_thing.F sc_l_thing (fun vs H Q E h => ?_) (fun cdv A outer s H vs Q E hg hr h => ?_)
  · obtain ⟨p, N, rfl, _⟩ := h
    rfl
  obtain ⟨p, N, rfl, hB, hN, k⟩ := h
  have sz : sizeLine = 16777216 := sizeLine_eq
  refine ⟨_, (pss_cons (ps_set (i := 1) sc_l_thing.nd rfl (Or.inl rfl) (pd_lst (pds_cons pd_non (pds_cons pd_bl (pds_cons pd_bl (pds_cons pd_int (pds_cons pd_int (pds_cons pd_str (pds_cons pd_str (pds_cons (pd_lst pds_nil) (pds_cons (pd_lst (pds_cons pd_int (pds_cons pd_str pds_nil))) (pds_cons (pd_tup pds_nil) (pds_cons (pd_tup (pds_cons pd_int (pds_cons pd_bl pds_nil))) (pds_cons pd_dct0 (pds_cons (pd_dict1 (pe_callTy (call_dictP rfl) (by rfl) T.n_dict (by decide +kernel) (pa_cons (pe_lst1 (pa_cons (pe_tup (pa_cons pe_str (pa_cons (pd_lst (pds_cons pd_int pds_nil)) pa_nil))) pa_nil)) pa_nil))) (pds_cons (pd_lst (pds_cons pd_non pds_nil)) pds_nil))))))))))))))))
    (pss_cons (ps_set (i := 1) sc_l_thing.nd rfl (Or.inl rfl) (pe_op op_cat (pv 1) (pd_lst (pds_cons (pd_flat (.int (-10000000000000000000)) (pe_un un_neg (pe_op op_pow pe_int pe_int)) (.int _) (fun _ _ _ q => by simp only [Nv.e_un, Nv.e_op, Nv.e_c, Nv.e_ri, Nv.e_ru]; exact ⟨by unfold CPow; decide, by simpa using q⟩)) (pds_cons pd_str (pds_cons (pd_tup (pds_cons pd_int (pds_cons pd_int pds_nil))) pds_nil))))))
    (pss_one (ps_ret (pe_ix ix_list (pv 1) (pe_cG (ok_l_take T) T.d_l_take.b takes0 hg (hr.mono (by decide)) T.d_l_take.m T.d_l_take.F.kp (pa_cons (pv 0) (pa_cons pe_int pa_nil))) (fun _ _ => rfl)))))), ?_⟩
  walk_at "rx"
  simp only [e_dat]
  intro v1 H1 S1 ⟨A, a1, a2, a3⟩ v2 H2 S2 ⟨B, b1, b2, b3⟩
  obtain ⟨l1, xs1, rfl, hx1, ds1⟩ := dv_lst a3
  obtain ⟨l2, xs2, rfl, hx2, ds2⟩ := dv_lst b3
  have n1 := ds1.len
  have n2 := ds2.len
  simp only [List.length_cons, List.length_nil] at n1 n2
  refine ⟨l1, l2, xs1, xs2, rfl, rfl, S2 _ _ (a2 _ _ hx1), b2 _ _ hx2, by omega, fun q hq => ?_⟩
  obtain ⟨H3, eh, S3, h3⟩ := gen_new (.lst (xs1 ++ xs2)) hq
  rw [eh]
  have qp : q ≠ p := BoxAt.ne (hB.mono (S1.trans S2)) hq
  refine ⟨p, 17, N, rfl, hB.mono ((S1.trans S2).trans S3), by omega, by decide, by decide, fun d H4 d0 d1 hB4 E4 => ?_⟩
  have h4 : H4 q = some (.lst (xs1 ++ xs2)) := E4 _ _ qp h3
  obtain ⟨j, v, rfl, hv, hat⟩ := menu_at (xs := xs1 ++ xs2) d0 (by rw [List.length_append, n1, n2]; exact d1)
  refine r_ixL (.of h4) hat ?_
  have E : Ext1 p H H4 := ext_trans (ext_same ((S1.trans S2).trans S3)) E4
  obtain ⟨u, o, hB0⟩ : ∃ u o, H p = some o ∧ u = p := by
    obtain ⟨n, b, m, c, e, _⟩ := hB
    exact ⟨p, _, e, rfl⟩
  have pA : A p = none := a1 _ _ hB0.1
  have pB : B p = none := b1 _ _ (S1 _ _ hB0.1)
  have A4 : ∀ a o, A a = some o → H4 a = some o := fun a o h => E4 _ _ (fun e => by rw [e, pA] at h; cases h) (S3 _ _ (S2 _ _ (a2 _ _ h)))
  have B4 : ∀ a o, B a = some o → H4 a = some o := fun a o h => E4 _ _ (fun e => by rw [e, pB] at h; cases h) (S3 _ _ (b2 _ _ h))
  by_cases hj : j < xs1.length
  · rw [List.getElem?_append_left hj] at hv
    obtain ⟨d, hd, dv⟩ := dvs_get ds1 hv
    exact k v d H4 (mem_things (.inl (List.mem_of_getElem? hd))) ⟨A, pA, A4, dv⟩ hB4 E
  · rw [List.getElem?_append_right (by omega)] at hv
    obtain ⟨d, hd, dv⟩ := dvs_get ds2 hv
    exact k v d H4 (mem_things (.inr (List.mem_of_getElem? hd))) ⟨B, pB, B4, dv⟩ hB4 E
end
end K00



namespace K00
open PySem L2 L2H Nv

theorem things_all : things.all (fun d => d.showable && decide (d.depth ≤ 60) && decide (d.shown.length ≤ 1000)) = true := by decide +kernel
theorem things_ok : ∀ d ∈ things, d.showable = true ∧ d.depth ≤ 60 ∧ d.shown.length ≤ 1000 ∧ ∀ i, d = .int i → i.natAbs.log2 < 1920 := by
  intro d h
  have a := List.all_eq_true.mp things_all d h
  simp only [Bool.and_eq_true, decide_eq_true_eq] at a
  refine ⟨a.1.1, a.1.2, a.2, fun i e => ?_⟩
  subst e
  simp only [things, List.mem_cons, reduceCtorEq, PyData.int.injEq, List.not_mem_nil, or_false, false_or] at h
  rcases h with rfl | rfl | rfl <;> decide +kernel
section
variable {K : PySem.W.Frag} {mg : Str → Option Value}
theorem onesF_at (T : Tx K mg) {i : Nat} (h : i < 34) : ∃ n f C, (cat T)[i]? = some (n, C) ∧ flds[i]? = some f ∧ (onesF T)[i]? = some (f, C) := by
  obtain ⟨x, hx⟩ : ∃ x, (ones T)[i]? = some x := ⟨_, List.getElem?_eq_getElem h⟩
  obtain ⟨f, hf⟩ : ∃ f, flds[i]? = some f := ⟨_, List.getElem?_eq_getElem h⟩
  refine ⟨x.1, f, x.2, ?_, hf, ?_⟩
  · unfold cat
    rw [List.append_assoc, List.getElem?_append_left (show i < (ones T).length from h), hx]
  · unfold onesF
    rw [List.getElem?_zipWith, hf, hx]
end
def spOnesRight : Sp := fun vs H Q _ => ∃ v1 v2 d1 d2, vs = [v1, v2] ∧ DV H v1 d1 ∧ DV H v2 d2 ∧ d1 ∈ things ∧ d2 ∈ things ∧ ∀ H', Same H H' → Q (.bl true) H'
section
variable {P : Program} {w : World} {K : PySem.W.Frag} {mg : Str → Option Value} {base : Heap}
theorem ok_l_ones_right (T : Tx K mg) : FnG P w K mg base 4 T.d_l_ones_right.f T.d_l_ones_right.fd ["_law_first", "_law_last"] spOnesRight := by
  refine okG0 T.d_l_ones_right.F sc_l_ones_right (fun vs H Q E h => ?_) (fun cdv A outer s H vs Q E hg hr h => ?_)
  · obtain ⟨v1, v2, d1, d2, rfl, _⟩ := h
    rfl
  obtain ⟨v1, v2, d1, d2, rfl, dv1, dv2, m1, m2, k⟩ := h
  have sz : sizeLine = 16777216 := sizeLine_eq
  refine ⟨_, (pss_cons (ps_set (i := 2) sc_l_ones_right.nd rfl (Or.inl rfl) (pe_lst1 (pa_cons (pe_cG (ok_l_by_place T) T.d_l_by_place.b takes0 hg (hr.mono (by decide)) T.d_l_by_place.m T.d_l_by_place.F.kp (pa_cons (pv 0) pa_nil)) (pa_cons (pe_cG (ok_l_by_name T) T.d_l_by_name.b takes0 hg (hr.mono (by decide)) T.d_l_by_name.m T.d_l_by_name.F.kp (pa_cons (pv 1) pa_nil)) (pa_cons (pe_cG (ok_l_by_name T) T.d_l_by_name.b takes0 hg (hr.mono (by decide)) T.d_l_by_name.m T.d_l_by_name.F.kp (pa_cons (pv 0) pa_nil)) (pa_cons (pe_cG (ok_l_by_place T) T.d_l_by_place.b takes0 hg (hr.mono (by decide)) T.d_l_by_place.m T.d_l_by_place.F.kp (pa_cons (pv 1) pa_nil)) pa_nil))))))
    (pss_cons (ps_for PassesOwn.never rfl (pi_range1 (by rfl) T.n_range (pa_cons pe_int pa_nil)) (pg_name (i := 3) sc_l_ones_right.nd rfl (Or.inl rfl))
      (pss_one (ps_for PassesOwn.never rfl (pi_range1 (by rfl) T.n_range (pa_cons pe_int pa_nil)) (pg_name (i := 4) sc_l_ones_right.nd rfl (Or.inl rfl))
        (pss_cons (ps_set (i := 5) sc_l_ones_right.nd rfl (Or.inl rfl) (pe_ix ix_list (pe_ix ix_list (pv 2) (pv 4) (fun _ _ => rfl)) (pv 3) (fun _ _ => rfl)))
        (pss_one (ps_if (PW.pt (pw_or (pt_not (pt_val (pe_cG (ok_l_is T) T.d_l_is.b takes0 hg (hr.mono (by decide)) T.d_l_is.m T.d_l_is.F.kp (pa_cons (pv 5) (pa_cons (pv 3) pa_nil))))) (pw_or1 (pt_cmpR op_ne (pe_callB (call_reprA hg hr.units) (by rfl) T.n_repr (by decide +kernel) (pa_cons (pe_cG (ok_l_kept T) T.d_l_kept.b takes0 hg (hr.mono (by decide)) T.d_l_kept.m T.d_l_kept.F.kp (pa_cons (pv 5) pa_nil)) pa_nil)) (pe_callB (call_reprA hg hr.units) (by rfl) T.n_repr (by decide +kernel) (pa_cons (pe_ix ix_list (pe_lst1 (pa_cons (pv 0) (pa_cons (pv 1) pa_nil))) (pe_op op_modN (pv 4) pe_int) (fun _ _ => rfl)) pa_nil)) (nomark _)))))
          (pss_one (ps_ret pe_bl))
          pss_nil))))))
    (pss_one (ps_ret pe_bl)))), ?_⟩
  walk_at "rx"
  refine ⟨v1, rfl, fun l1 es1 H1 S1 h1 x1 => ?_⟩
  refine ⟨v2, rfl, fun l2 es2 H2 S2 h2 x2 => ?_⟩
  refine ⟨v1, rfl, fun l3 es3 H3 S3 h3 x3 => ?_⟩
  refine ⟨v2, rfl, fun l4 es4 H4 S4 h4 x4 => ?_⟩
  refine ⟨by rw [sz]; decide, fun L hL nL => ?_⟩
  obtain ⟨H5, eh, S5, h5⟩ := gen_new (.lst [V.ref l1, V.ref l2, V.ref l3, V.ref l4]) hL
  rw [eh]
  clear eh
  have S05 : Same H H5 := S1.trans (S2.trans (S3.trans (S4.trans S5)))
  have row : ∀ t : Nat, t < 4 → ∃ l es w d, [V.ref l1, V.ref l2, V.ref l3, V.ref l4][t]? = some (.ref l) ∧ H5 l = some (.lst es) ∧ EsIn H5 w (onesF T) es ∧ atI [v1, v2] ((0 + (t : Int)).fmod 2) = some w ∧ DV H w d ∧ d ∈ things := by
    intro t ht
    have c : t = 0 ∨ t = 1 ∨ t = 2 ∨ t = 3 := by omega
    rcases c with rfl | rfl | rfl | rfl
    · exact ⟨l1, es1, v1, d1, rfl, S5 _ _ (S4 _ _ (S3 _ _ (S2 _ _ h1))), x1.same (S2.trans (S3.trans (S4.trans S5))), rfl, dv1, m1⟩
    · exact ⟨l2, es2, v2, d2, rfl, S5 _ _ (S4 _ _ (S3 _ _ h2)), x2.same (S3.trans (S4.trans S5)), rfl, dv2, m2⟩
    · exact ⟨l3, es3, v1, d1, rfl, S5 _ _ (S4 _ _ h3), x3.same (S4.trans S5), rfl, dv1, m1⟩
    · exact ⟨l4, es4, v2, d2, rfl, S5 _ _ h4, x4.same S5, rfl, dv2, m2⟩
  refine for_rngC (by decide) (by decide) (fun i σ H' => Same H5 H' ∧ ∃ x y z, σ = [some v1, some v2, some (V.ref L), x, y, z]) ⟨Same.refl _, _, _, _, rfl⟩ ?_ ?_
  · rintro i σ Hi hi ⟨Si, x, y, z, rfl⟩
    walk_at "rx"
    refine for_rngC (by decide) (by decide) (fun t σ H' => Same H5 H' ∧ ∃ y z, σ = [some v1, some v2, some (V.ref L), some (V.int (0 + (i : Int))), y, z]) ⟨Si, _, _, rfl⟩ ?_ ?_
    · rintro t σ Ht ht ⟨St, y, z, rfl⟩
      obtain ⟨l, es, w', d, hl, hes, xs, hw, dw, mw⟩ := row t ht
      walk_at "rx"
      obtain ⟨n, f, C, hn, hf, hF⟩ := onesF_at T (i := i) hi
      obtain ⟨e, he, a, rfl, ex⟩ := paired_at xs i (f, C) hF
      obtain ⟨sh, dp, ln, lg⟩ := things_ok d mw
      have dvx : ∀ {G : Hp}, Same H5 G → DV G w' d := fun {G} SG => (dw.mono S05).mono SG
      have rep : ∀ {G : Hp} {R : VK}, Same H5 G → R (.str d.shown) G → rReprA [w'] G R := fun {G R} SG r => ⟨w', d, rfl, dvx SG, sh, dp, by omega, lg, r⟩
      refine r_ixL (.of (St _ _ h5)) (by rw [Int.zero_add]; exact atI_nat hl) ?_
      refine r_ixL (.of (St _ _ hes)) (by rw [Int.zero_add]; exact atI_nat he) ?_
      refine ⟨a, C, n, _, i, by rw [Int.zero_add], ex.same St, hn, fun G1 U1 => ⟨true, rfl, ?_⟩⟩
      rw [if_neg (by decide)]
      have SG1 := St.trans U1
      refine ⟨a, C, n, f, w', i, rfl, hn, hf, ex.same SG1, fun G2 U2 => ?_⟩
      have SG2 := SG1.trans U2
      refine rep SG2 ⟨by rw [sz]; decide, fun p hp np => ⟨by decide, ?_⟩⟩
      refine r_ixL (.of upd_same) hw ?_
      have SG3 := SG2.trans (Same.new (o := .lst [v1, v2]) hp)
      refine rep SG3 ⟨by rfl, ?_⟩
      rw [if_neg (by simp)]
      exact ⟨SG3, _, rfl⟩
    · rintro σ Ht ⟨St, y, z, rfl⟩
      exact ⟨St, _, _, _, rfl⟩
  · rintro σ Hi ⟨Si, x, y, z, rfl⟩
    walk_at "rx"
    exact k _ (S05.trans Si)
end
end K00



namespace K00
open PySem L2 L2H Nv

theorem pairs_all : things.all (fun d => things.all fun e => (PyData.list [d, e]).showable && decide ((PyData.list [d, e]).depth ≤ 60) && decide ((PyData.list [d, e]).shown.length ≤ 1000)) = true := by decide +kernel
theorem ones_all : things.all (fun d => (PyData.list [d]).showable && decide ((PyData.list [d]).depth ≤ 60) && decide ((PyData.list [d]).shown.length ≤ 1000)) = true := by decide +kernel
theorem rep_two {H : Hp} {R : VK} {p : Addr} {v1 v2 : V} {d1 d2 : PyData} (m1 : d1 ∈ things) (m2 : d2 ∈ things) (np : p ≠ sysModules) (hp : H p = some (.lst [v1, v2])) (e1 : DV H v1 d1) (e2 : DV H v2 d2) (r : R (.str (PyData.list [d1, d2]).shown) H) : rReprA [.ref p] H R := by
  have a := List.all_eq_true.mp (List.all_eq_true.mp pairs_all d1 m1) d2 m2
  simp only [Bool.and_eq_true, decide_eq_true_eq] at a
  have sz : sizeLine = 16777216 := sizeLine_eq
  exact ⟨.ref p, .list [d1, d2], rfl, .lst hp np (.cons e1 (.cons e2 .nil)), a.1.1, a.1.2, by omega, (fun i e => by cases e), r⟩
theorem rep_one {H : Hp} {R : VK} {p : Addr} {v1 : V} {d1 : PyData} (m1 : d1 ∈ things) (np : p ≠ sysModules) (hp : H p = some (.lst [v1])) (e1 : DV H v1 d1) (r : R (.str (PyData.list [d1]).shown) H) : rReprA [.ref p] H R := by
  have a := List.all_eq_true.mp ones_all d1 m1
  simp only [Bool.and_eq_true, decide_eq_true_eq] at a
  have sz : sizeLine = 16777216 := sizeLine_eq
  exact ⟨.ref p, .list [d1], rfl, .lst hp np (.cons e1 .nil), a.1.1, a.1.2, by omega, (fun i e => by cases e), r⟩
theorem exo_lst {e C : Addr} {d : Option Addr} {xs : List V} : exo e C d ≠ .lst xs := fun z => by
  have z' : HO.ext _ = HO.lst xs := z
  cases z'
theorem exd_lst {e : Addr} {fs : List (Str × V)} {xs : List V} : exd e fs ≠ .lst xs := fun z => by
  have z' : HO.ext _ = HO.lst xs := z
  cases z'
theorem ExF.off {H : Hp} {a C L : Addr} {fs : List (Str × V)} {xs ys : List V} (h : ExF [] H a C fs) (hL : H L = some (.lst xs)) : ExF [] (upd H L (.lst ys)) a C fs := by
  have ne : ∀ {b : Addr} {o : HO}, H b = some o → o ≠ .lst xs → b ≠ L := fun {b o} hb n e => by
    rw [e, hL] at hb
    cases hb
    exact n rfl
  rcases h with ⟨d, h1, h2⟩ | ⟨e, h1⟩ | ⟨oe, d, vs, h1, _⟩ | ⟨oe, vs, _, h1, _⟩
  · refine .inl ⟨d, ?_, ?_⟩
    · rw [upd_ne (ne h1 exo_lst)]
      exact h1
    · rw [upd_ne (ne h2 exd_lst)]
      exact h2
  · refine .inr (.inl ⟨e, ?_⟩)
    rw [upd_ne (ne h1 exo_lst)]
    exact h1
  · simp at h1
  · simp at h1
theorem TwIn.off {H : Hp} {L : Addr} {v1 v2 : V} {l : List ((Str × Str) × Addr)} {es xs ys : List V} (h : TwIn H v1 v2 l es) (hL : H L = some (.lst xs)) : TwIn (upd H L (.lst ys)) v1 v2 l es := paired_same (fun _ _ ⟨a, e, x⟩ => ⟨a, e, ExF.off x hL⟩) h
section
variable {K : PySem.W.Frag} {mg : Str → Option Value}
theorem twosF_at (T : Tx K mg) {i : Nat} (h : i < 4) : ∃ n f1 f2 C, (cat T)[34 + i]? = some (n, C) ∧ pfl[i]? = some (f1, f2) ∧ (twosF T)[i]? = some ((f1, f2), C) := by
  obtain ⟨x, hx⟩ : ∃ x, (twos T)[i]? = some x := ⟨_, List.getElem?_eq_getElem h⟩
  obtain ⟨f, hf⟩ : ∃ f, pfl[i]? = some f := ⟨_, List.getElem?_eq_getElem h⟩
  refine ⟨x.1, f.1, f.2, x.2, ?_, hf, ?_⟩
  · unfold cat
    rw [List.append_assoc, List.getElem?_append_right (show (ones T).length ≤ 34 + i from Nat.le_add_right 34 i), show 34 + i - (ones T).length = i from Nat.add_sub_cancel_left 34 i, List.getElem?_append_left (show i < (twos T).length from h), hx]
  · unfold twosF
    rw [List.getElem?_zipWith, hf, hx]
end
section
variable {P : Program} {w : World} {K : PySem.W.Frag} {mg : Str → Option Value} {base : Heap}
theorem ok_l_twos_right (T : Tx K mg) : FnG P w K mg base 4 T.d_l_twos_right.f T.d_l_twos_right.fd ["_law_first", "_law_last"] spOnesRight := by
  refine okG0 T.d_l_twos_right.F sc_l_twos_right (fun vs H Q E h => ?_) (fun cdv A outer s H vs Q E hg hr h => ?_)
  · obtain ⟨v1, v2, d1, d2, rfl, _⟩ := h
    rfl
  obtain ⟨v1, v2, d1, d2, rfl, dv1, dv2, m1, m2, k⟩ := h
  have sz : sizeLine = 16777216 := sizeLine_eq
  refine ⟨_, (pss_cons (ps_set (i := 2) sc_l_twos_right.nd rfl (Or.inl rfl) (pe_lst1 (pa_cons (pe_cG (ok_l_pairs T) T.d_l_pairs.b takes0 hg (hr.mono (by decide)) T.d_l_pairs.m T.d_l_pairs.F.kp (pa_cons (pv 0) (pa_cons (pv 1) (pa_cons pe_int pa_nil)))) (pa_cons (pe_cG (ok_l_pairs T) T.d_l_pairs.b takes0 hg (hr.mono (by decide)) T.d_l_pairs.m T.d_l_pairs.F.kp (pa_cons (pv 1) (pa_cons (pv 0) (pa_cons pe_int pa_nil)))) (pa_cons (pe_cG (ok_l_pairs T) T.d_l_pairs.b takes0 hg (hr.mono (by decide)) T.d_l_pairs.m T.d_l_pairs.F.kp (pa_cons (pv 0) (pa_cons (pv 1) (pa_cons pe_int pa_nil)))) pa_nil)))))
    (pss_cons (ps_expr (pe_bm PySem.F.plainAttrs_list PySem.F.slot_list_append PySem.F.type_list_append mt_append (pv 2) (pa_cons (pe_cG (ok_l_pairs T) T.d_l_pairs.b takes0 hg (hr.mono (by decide)) T.d_l_pairs.m T.d_l_pairs.F.kp (pa_cons (pv 1) (pa_cons (pv 0) (pa_cons pe_int pa_nil)))) pa_nil)))
    (pss_cons (ps_for PassesOwn.never rfl (pi_range1 (by rfl) T.n_range (pa_cons pe_int pa_nil)) (pg_name (i := 3) sc_l_twos_right.nd rfl (Or.inl rfl))
      (pss_one (ps_for PassesOwn.never rfl (pi_range1 (by rfl) T.n_range (pa_cons pe_int pa_nil)) (pg_name (i := 4) sc_l_twos_right.nd rfl (Or.inl rfl))
        (pss_cons (ps_set (i := 5) sc_l_twos_right.nd rfl (Or.inl rfl) (pe_ix ix_list (pe_ix ix_list (pv 2) (pv 4) (fun _ _ => rfl)) (pv 3) (fun _ _ => rfl)))
        (pss_cons (ps_set (i := 6) sc_l_twos_right.nd rfl (Or.inl rfl) (pe_ifExp (pt_cmpR op_eq (pe_op op_modN (pv 4) pe_int) pe_int (nomark _)) (pe_lst1 (pa_cons (pv 1) (pa_cons (pv 0) pa_nil))) (pe_lst1 (pa_cons (pv 0) (pa_cons (pv 1) pa_nil)))))
        (pss_one (ps_if (PW.pt (pw_or (pt_not (pt_val (pe_cG (ok_l_is T) T.d_l_is.b takes0 hg (hr.mono (by decide)) T.d_l_is.m T.d_l_is.F.kp (pa_cons (pv 5) (pa_cons (pe_op op_add pe_int (pv 3)) pa_nil))))) (pw_or1 (pt_cmpR op_ne (pe_callB (call_reprA hg hr.units) (by rfl) T.n_repr (by decide +kernel) (pa_cons (pe_cG (ok_l_two_kept T) T.d_l_two_kept.b takes0 hg (hr.mono (by decide)) T.d_l_two_kept.m T.d_l_two_kept.F.kp (pa_cons (pv 5) pa_nil)) pa_nil)) (pe_callB (call_reprA hg hr.units) (by rfl) T.n_repr (by decide +kernel) (pa_cons (pv 6) pa_nil)) (nomark _)))))
          (pss_one (ps_ret pe_bl))
          pss_nil)))))))
    (pss_one (ps_ret pe_bl))))), ?_⟩
  walk_at "rx"
  refine ⟨v1, v2, 0, rfl, by decide, fun l1 es1 H1 S1 h1 x1 => ?_⟩
  refine ⟨v2, v1, 1, rfl, by decide, fun l2 es2 H2 S2 h2 x2 => ?_⟩
  refine ⟨v1, v2, 2, rfl, by decide, fun l3 es3 H3 S3 h3 x3 => ?_⟩
  refine ⟨by rw [sz]; decide, fun L hL nL => ?_⟩
  obtain ⟨H4, eh, S4, h4⟩ := gen_new (.lst [V.ref l1, V.ref l2, V.ref l3]) hL
  rw [eh]
  clear eh
  refine ⟨.inl ⟨rfl, _, .of h4⟩, v2, v1, 3, rfl, by decide, fun l4 es4 H5 S5 h5 x5 => ?_⟩
  have L5 := S5 _ _ h4
  refine ⟨L, _, _, rfl, rfl, L5, by rw [sz]; exact Nat.lt_of_lt_of_le (show 3 < 4 by decide) (by decide), ?_⟩
  have n4 : es4.length = 4 := by
    have := Paired.length x5
    exact this
  have l4L : l4 ≠ L := fun e => by
    rw [e, L5] at h5
    cases h5
    cases n4
  have S36 : Same H3 (upd H5 L (.lst ([V.ref l1, V.ref l2, V.ref l3] ++ [V.ref l4]))) := fun b o hb => by
    rw [upd_ne (ne_of_none hb hL)]
    exact S5 _ _ (S4 _ _ hb)
  have x6 := TwIn.off (ys := [V.ref l1, V.ref l2, V.ref l3] ++ [V.ref l4]) x5 L5
  have h6 : upd H5 L (.lst ([V.ref l1, V.ref l2, V.ref l3] ++ [V.ref l4])) l4 = some (.lst es4) := by
    rw [upd_ne l4L]
    exact h5
  have hL6 : upd H5 L (.lst ([V.ref l1, V.ref l2, V.ref l3] ++ [V.ref l4])) L = some (.lst [V.ref l1, V.ref l2, V.ref l3, V.ref l4]) := upd_same
  generalize upd H5 L (.lst ([V.ref l1, V.ref l2, V.ref l3] ++ [V.ref l4])) = H6 at S36 x6 h6 hL6 ⊢
  have S06 : Same H H6 := S1.trans (S2.trans (S3.trans S36))
  have row : ∀ t : Nat, t < 4 → ∃ l es w1 w2 e1 e2, [V.ref l1, V.ref l2, V.ref l3, V.ref l4][t]? = some (.ref l) ∧ H6 l = some (.lst es) ∧ TwIn H6 w1 w2 (twosF T) es ∧ DV H w1 e1 ∧ DV H w2 e2 ∧ e1 ∈ things ∧ e2 ∈ things ∧ (((0 + (t : Int)).fmod 2 = 1 ∧ w1 = v2 ∧ w2 = v1) ∨ (¬ (0 + (t : Int)).fmod 2 = 1 ∧ w1 = v1 ∧ w2 = v2)) := by
    intro t ht
    have c : t = 0 ∨ t = 1 ∨ t = 2 ∨ t = 3 := by omega
    rcases c with rfl | rfl | rfl | rfl
    · exact ⟨l1, es1, v1, v2, d1, d2, rfl, S36 _ _ (S3 _ _ (S2 _ _ h1)), x1.same (S2.trans (S3.trans S36)), dv1, dv2, m1, m2, .inr ⟨by decide, rfl, rfl⟩⟩
    · exact ⟨l2, es2, v2, v1, d2, d1, rfl, S36 _ _ (S3 _ _ h2), x2.same (S3.trans S36), dv2, dv1, m2, m1, .inl ⟨by decide, rfl, rfl⟩⟩
    · exact ⟨l3, es3, v1, v2, d1, d2, rfl, S36 _ _ h3, x3.same S36, dv1, dv2, m1, m2, .inr ⟨by decide, rfl, rfl⟩⟩
    · exact ⟨l4, es4, v2, v1, d2, d1, rfl, h6, x6, dv2, dv1, m2, m1, .inl ⟨by decide, rfl, rfl⟩⟩
  refine for_rngC (by decide) (by decide) (fun i σ H' => Same H6 H' ∧ ∃ x y z u, σ = [some v1, some v2, some (V.ref L), x, y, z, u]) ⟨Same.refl _, _, _, _, _, rfl⟩ ?_ ?_
  · rintro i σ Hi hi ⟨Si, x, y, z, u, rfl⟩
    walk_at "rx"
    refine for_rngC (by decide) (by decide) (fun t σ H' => Same H6 H' ∧ ∃ y z u, σ = [some v1, some v2, some (V.ref L), some (V.int (0 + (i : Int))), y, z, u]) ⟨Si, _, _, _, rfl⟩ ?_ ?_
    · rintro t σ Ht ht ⟨St, y, z, u, rfl⟩
      obtain ⟨l, es, w1, w2, e1, e2, hl, hes, xs, q1, q2, me1, me2, hw⟩ := row t ht
      obtain ⟨n, f1, f2, C, hn, hf, hF⟩ := twosF_at T (i := i) hi
      obtain ⟨e, he, a, rfl, ex⟩ := paired_at xs i ((f1, f2), C) hF
      walk_at "rx"
      refine r_ixL (.of (St _ _ hL6)) (by rw [Int.zero_add]; exact atI_nat hl) ?_
      refine r_ixL (.of (St _ _ hes)) (by rw [Int.zero_add]; exact atI_nat he) ?_
      refine ⟨by decide, by rfl, ?_⟩
      rcases hw with ⟨c, rfl, rfl⟩ | ⟨c, rfl, rfl⟩
      · rw [if_pos c]
        refine ⟨by rw [sz]; decide, fun p hp np => ?_⟩
        obtain ⟨G0, eg, U0, g0⟩ := gen_new (.lst [w1, w2]) hp
        rw [eg]
        clear eg
        have SG0 := St.trans U0
        refine ⟨a, C, n, _, 34 + i, by rw [Int.zero_add]; rfl, ex.same SG0, hn, fun G1 U1 => ⟨true, rfl, ?_⟩⟩
        rw [if_neg (by decide)]
        have SG1 := SG0.trans U1
        refine ⟨a, C, n, f1, f2, _, _, i, rfl, hn, hf, ex.same SG1, fun q G2 nq hq U2 gq => ?_⟩
        have SG2 := SG1.trans U2
        refine rep_two me1 me2 nq gq (q1.mono (S06.trans SG2)) (q2.mono (S06.trans SG2)) ?_
        refine rep_two me1 me2 np (U2 _ _ (U1 _ _ g0)) (q1.mono (S06.trans SG2)) (q2.mono (S06.trans SG2)) ⟨by rfl, ?_⟩
        rw [if_neg (by simp)]
        exact ⟨SG2, _, rfl⟩
      · rw [if_neg c]
        refine ⟨by rw [sz]; decide, fun p hp np => ?_⟩
        obtain ⟨G0, eg, U0, g0⟩ := gen_new (.lst [w1, w2]) hp
        rw [eg]
        clear eg
        have SG0 := St.trans U0
        refine ⟨a, C, n, _, 34 + i, by rw [Int.zero_add]; rfl, ex.same SG0, hn, fun G1 U1 => ⟨true, rfl, ?_⟩⟩
        rw [if_neg (by decide)]
        have SG1 := SG0.trans U1
        refine ⟨a, C, n, f1, f2, _, _, i, rfl, hn, hf, ex.same SG1, fun q G2 nq hq U2 gq => ?_⟩
        have SG2 := SG1.trans U2
        refine rep_two me1 me2 nq gq (q1.mono (S06.trans SG2)) (q2.mono (S06.trans SG2)) ?_
        refine rep_two me1 me2 np (U2 _ _ (U1 _ _ g0)) (q1.mono (S06.trans SG2)) (q2.mono (S06.trans SG2)) ⟨by rfl, ?_⟩
        rw [if_neg (by simp)]
        exact ⟨SG2, _, rfl⟩
    · rintro σ Ht ⟨St, y, z, u, rfl⟩
      exact ⟨St, _, _, _, _, rfl⟩
  · rintro σ Hi ⟨Si, x, y, z, u, rfl⟩
    walk_at "rx"
    exact k _ (S06.trans Si)
end
end K00



namespace K00
open PySem L2 L2H Nv

def spCaught : Sp := fun vs H Q _ => ∃ p v1 v2 d1 d2 N, vs = [.ref p, v1, v2] ∧ BoxAt H p N ∧ N ≤ 100000 ∧ Apt p H v1 d1 ∧ Apt p H v2 d2 ∧ d1 ∈ things ∧ d2 ∈ things ∧ ∀ H', BoxAt H' p (N + 1) → Ext1 p H H' → Q (.bl true) H'
section
variable {K : PySem.W.Frag} {mg : Str → Option Value}
/-- the same, told of a caught exception -/
def scIs (T : Tx K mg) (a : Addr) (cls : Value) (d : Option Addr) : Sp := fun vs H Q _ => ∃ C n fs, ∃ j : Nat, vs = [.ref a, .int j] ∧ ExC H cls d C fs ∧ (cat T)[j]? = some (n, C) ∧ ∀ H', Same H H' → Q (.bl true) H'
def scKept (T : Tx K mg) (a : Addr) (cls : Value) (d : Option Addr) : Sp := fun vs H Q _ => ∃ C n f v, ∃ j : Nat, vs = [.ref a] ∧ (cat T)[j]? = some (n, C) ∧ flds[j]? = some f ∧ ExC H cls d C [(f, v)] ∧ ∀ H', Same H H' → Q v H'
def scTwo (T : Tx K mg) (a : Addr) (cls : Value) (d : Option Addr) : Sp := fun vs H Q _ => ∃ C n f1 f2 v1 v2, ∃ i : Nat, vs = [.ref a] ∧ (cat T)[34 + i]? = some (n, C) ∧ pfl[i]? = some (f1, f2) ∧ ExC H cls d C [(f2, v2), (f1, v1)] ∧ ∀ p H', p ≠ sysModules → H p = none → Same H H' → H' p = some (.lst [v1, v2]) → Q (.ref p) H'
theorem l_is_in (T : Tx K mg) {a : Addr} {oe : Obj} {cls : Value} {d : Option Addr} (hz : L2N.Zn cls d oe) (hf : ∃ vs, oe.data = .fields vs) {vs : List V} {H : Hp} {Q : VK} {E : XK} (h : scIs T a cls d vs H Q E) : spIs T [(a, oe)] vs H Q E := by
  obtain ⟨C, n, fs, j, rfl, ex, r⟩ := h
  exact ⟨a, C, n, fs, j, rfl, ex.ex hz.zc hf, r⟩
theorem l_kept_in (T : Tx K mg) {a : Addr} {oe : Obj} {cls : Value} {d : Option Addr} (hz : L2N.Zn cls d oe) (hf : ∃ vs, oe.data = .fields vs) {vs : List V} {H : Hp} {Q : VK} {E : XK} (h : scKept T a cls d vs H Q E) : spKept T [(a, oe)] vs H Q E := by
  obtain ⟨C, n, f, v, j, rfl, hn, hf2, ex, r⟩ := h
  exact ⟨a, C, n, f, v, j, rfl, hn, hf2, ex.ex hz.zc hf, r⟩
theorem l_two_kept_in (T : Tx K mg) {a : Addr} {oe : Obj} {cls : Value} {d : Option Addr} (hz : L2N.Zn cls d oe) (hf : ∃ vs, oe.data = .fields vs) {vs : List V} {H : Hp} {Q : VK} {E : XK} (h : scTwo T a cls d vs H Q E) : spTwoKept T [(a, oe)] vs H Q E := by
  obtain ⟨C, n, f1, f2, v1, v2, i, rfl, hn, hf2, ex, r⟩ := h
  exact ⟨a, C, n, f1, f2, v1, v2, i, rfl, hn, hf2, ex.ex hz.zc hf, r⟩
end
theorem menu5 {K : PySem.W.Frag} {G : Hp} {R : VK} {v1 v2 : V} {j : Nat} (hj : j < 5) (k : ∀ q G' xs, Same G G' → q ≠ sysModules → ([[v1], [v1], [v1, v2], [v1, v2], [v2]] : List (List V))[j]? = some xs → G' q = some (.lst xs) → R (.ref q) G') :
    0 + 1 ≤ sizeLine ∧ ∀ p : Addr, G p = none → p ≠ sysModules → 0 + 1 ≤ sizeLine ∧ ∀ p1 : Addr, upd G p (.lst [v1]) p1 = none → p1 ≠ sysModules → 0 + 1 + 1 ≤ sizeLine ∧ ∀ p2 : Addr, upd (upd G p (.lst [v1])) p1 (.lst [v1]) p2 = none → p2 ≠ sysModules →
      0 + 1 + 1 ≤ sizeLine ∧ ∀ p3 : Addr, upd (upd (upd G p (.lst [v1])) p1 (.lst [v1])) p2 (.lst [v1, v2]) p3 = none → p3 ≠ sysModules → 0 + 1 ≤ sizeLine ∧ ∀ p4 : Addr, upd (upd (upd (upd G p (.lst [v1])) p1 (.lst [v1])) p2 (.lst [v1, v2])) p3 (.lst [v1, v2]) p4 = none → p4 ≠ sysModules →
      0 + 1 + 1 + 1 + 1 + 1 ≤ sizeLine ∧ ∀ p5 : Addr, upd (upd (upd (upd (upd G p (.lst [v1])) p1 (.lst [v1])) p2 (.lst [v1, v2])) p3 (.lst [v1, v2])) p4 (.lst [v2]) p5 = none → p5 ≠ sysModules →
      rIxL K (.ref p5) (.int (j : Int)) (upd (upd (upd (upd (upd (upd G p (.lst [v1])) p1 (.lst [v1])) p2 (.lst [v1, v2])) p3 (.lst [v1, v2])) p4 (.lst [v2])) p5 (.lst [.ref p, .ref p1, .ref p2, .ref p3, .ref p4])) R := by
  have sz : sizeLine = 16777216 := sizeLine_eq
  refine ⟨by rw [sz]; decide, fun p hp np => ⟨by rw [sz]; decide, fun p1 hp1 np1 => ⟨by rw [sz]; decide, fun p2 hp2 np2 => ⟨by rw [sz]; decide, fun p3 hp3 np3 => ⟨by rw [sz]; decide, fun p4 hp4 np4 => ⟨by rw [sz]; decide, fun p5 hp5 np5 => ?_⟩⟩⟩⟩⟩⟩
  have T5 := Same.new (o := .lst [.ref p, .ref p1, .ref p2, .ref p3, .ref p4]) hp5
  have T4 := (Same.new (o := .lst [v2]) hp4).trans T5
  have T3 := (Same.new (o := .lst [v1, v2]) hp3).trans T4
  have T2 := (Same.new (o := .lst [v1, v2]) hp2).trans T3
  have T1 := (Same.new (o := .lst [v1]) hp1).trans T2
  have T0 := (Same.new (o := .lst [v1]) hp).trans T1
  have c : j = 0 ∨ j = 1 ∨ j = 2 ∨ j = 3 ∨ j = 4 := by omega
  rcases c with rfl | rfl | rfl | rfl | rfl
  · exact r_ixL (.of upd_same) (at0 rfl) (k p _ _ T0 np rfl (T1 _ _ upd_same))
  · exact r_ixL (.of upd_same) (at1 rfl) (k p1 _ _ T0 np1 rfl (T2 _ _ upd_same))
  · exact r_ixL (.of upd_same) (at2 rfl) (k p2 _ _ T0 np2 rfl (T3 _ _ upd_same))
  · exact r_ixL (.of upd_same) (at3 rfl) (k p3 _ _ T0 np3 rfl (T4 _ _ upd_same))
  · exact r_ixL (.of upd_same) (atI_nat (j := 4) rfl) (k p4 _ _ T0 np4 rfl (T5 _ _ upd_same))
theorem r_way {K : PySem.W.Frag} {H : Hp} {Q : VK} {j : Nat} {m : Addr} (hm : H m = some (.lst [.int 0, .int 1, .int 4])) (hj : j < 5) (q : Q (.bl (decide (j = 0 ∨ j = 1 ∨ j = 4))) H) : rIn K false (.int (j : Int)) (.ref m) H Q := by
  refine ⟨m, _, rfl, .inl (.of hm), rfl, rfl, ?_⟩
  have c : j = 0 ∨ j = 1 ∨ j = 2 ∨ j = 3 ∨ j = 4 := by omega
  rcases c with rfl | rfl | rfl | rfl | rfl <;> exact q
section
variable {P : Program} {w : World} {K : PySem.W.Frag} {mg : Str → Option Value} {base : Heap}
theorem ok_l_caught (T : Tx K mg) : FnG P w K mg base 3 T.d_l_caught.f T.d_l_caught.fd ["_law_box_here", "_law_thing_here", "_law_more"] spCaught := by
  refine okG0 T.d_l_caught.F sc_l_caught (fun vs H Q E h => ?_) (fun cdv A outer s H vs Q E hg hr h => ?_)
  · obtain ⟨p, v1, v2, d1, d2, N, rfl, _⟩ := h
    rfl
  obtain ⟨p, v1, v2, d1, d2, N, rfl, hB, hN, ap1, ap2, m1, m2, k⟩ := h
  have sz : sizeLine = 16777216 := sizeLine_eq
  refine ⟨_, (pss_cons (ps_set (i := 3) sc_l_caught.nd rfl (Or.inl rfl) (pe_cG (ok_l_take T) T.d_l_take.b takes0 hg (hr.mono (by decide)) T.d_l_take.m T.d_l_take.F.kp (pa_cons (pv 0) (pa_cons pe_int pa_nil))))
    (pss_one (L2N.ps_try_as (i := 4) rfl rfl sc_l_caught.nd rfl rfl ⟨rfl, by decide, .inl T.m_UnsaidError⟩ takes0N
      (fun W pn xe tk _ => (pss_cons (ps_if (pt_cmpR op_eq (pv 3) pe_int (nomark _))
          (pss_one (L2N.ps_raise rfl tk (pmk_E1p T.E_Stopped (hr.mono (by decide)) (pv 1))))
          pss_nil)
        (pss_cons (ps_if (pt_cmpR op_eq (pv 3) pe_int (nomark _))
          (pss_one (L2N.ps_raise rfl tk (pmk_E1k T.E_InvalidActs (hr.mono (by decide)) (pv 1))))
          pss_nil)
        (pss_cons (ps_if (pt_cmpR op_eq (pv 3) pe_int (nomark _))
          (pss_one (L2N.ps_raise rfl tk (pmk_E2r T.E_NotAhead (hr.mono (by decide)) (pk_cons (pv 2) (pk_cons (pv 1) pk_nil)))))
          pss_nil)
        (pss_cons (ps_if (pt_cmpR op_eq (pv 3) pe_int (nomark _))
          (pss_one (L2N.ps_raise rfl tk (pmk_E2p T.E_NothingUnderWay (hr.mono (by decide)) (pa_cons (pv 1) (pa_cons (pv 2) pa_nil)))))
          pss_nil)
        (pss_cons (ps_if (pt_cmpR op_eq (pv 3) pe_int (nomark _))
          (pss_one (L2N.ps_raise rfl tk (pmk_E1k T.E_NotStanding (hr.mono (by decide)) (pv 2))))
          pss_nil)
        (pss_one (L2N.ps_raise rfl tk (pmk_err0 F.excBase_ValueError T.q_NoStanding T.m_NoStanding T.kc_NoStanding (raises_own T.rb_NoStanding T.rt_NoStanding))))))))))
      (fun a oe cls d pn hz hf => (pss_cons (ps_if (pt_not (pt_val (pe_cGX (W := fun _ _ _ _ => False) (okp_l_is T) (fun vs H Q E h => l_is_in T hz hf h) T.d_l_is.b hg (hotS rfl hz hf) (roomS (hr.mono (by decide))) List.mem_cons_self T.d_l_is.m T.d_l_is.F.kp (pa_cons (pv 4) (pa_cons (pe_ix (ix_listK (K := K) rfl) (pe_lst1 (pa_cons pe_int (pa_cons pe_int (pa_cons pe_int (pa_cons pe_int (pa_cons pe_int (pa_cons pe_int pa_nil))))))) (pv 3) (fun _ _ => rfl)) pa_nil)))))
            (pss_one (ps_ret pe_bl))
            pss_nil)
          (pss_cons (ps_if (pt_cmpR op_eq (pv 3) pe_int (nomark _))
            (pss_one (ps_ret pe_bl))
            pss_nil)
          (pss_cons (ps_set (i := 5) sc_l_caught.nd rfl (Or.inl rfl) (pe_ifExp (pt_cmpR (op_in_seqK (K := K) rfl) (pv 3) (pe_lst1 (pa_cons pe_int (pa_cons pe_int (pa_cons pe_int pa_nil)))) (by rfl)) (pe_lst1 (pa_cons (pe_cGX (W := fun _ _ _ _ => False) (okp_l_kept T) (fun vs H Q E h => l_kept_in T hz hf h) T.d_l_kept.b hg (hotS rfl hz hf) (roomS (hr.mono (by decide))) List.mem_cons_self T.d_l_kept.m T.d_l_kept.F.kp (pa_cons (pv 4) pa_nil)) pa_nil)) (pe_cGX (W := fun _ _ _ _ => False) (okp_l_two_kept T) (fun vs H Q E h => l_two_kept_in T hz hf h) T.d_l_two_kept.b hg (hotS rfl hz hf) (roomS (hr.mono (by decide))) List.mem_cons_self T.d_l_two_kept.m T.d_l_two_kept.F.kp (pa_cons (pv 4) pa_nil))))
          (pss_one (ps_ret (pe_cmpR op_eq (pe_callB (call_reprA hg hr.units) (by rfl) T.n_repr (by decide +kernel) (pa_cons (pv 5) pa_nil)) (pe_callB (call_reprA hg hr.units) (by rfl) T.n_repr (by decide +kernel) (pa_cons (pe_ix (ix_listK (K := K) rfl) (pe_lst1 (pa_cons (pe_lst1 (pa_cons (pv 1) pa_nil)) (pa_cons (pe_lst1 (pa_cons (pv 1) pa_nil)) (pa_cons (pe_lst1 (pa_cons (pv 1) (pa_cons (pv 2) pa_nil))) (pa_cons (pe_lst1 (pa_cons (pv 1) (pa_cons (pv 2) pa_nil))) (pa_cons (pe_lst1 (pa_cons (pv 2) pa_nil)) pa_nil)))))) (pv 3) (fun _ _ => rfl)) pa_nil)) (nomark _))))))))))), ?_⟩
  walk_at "rx"
  refine ⟨p, 6, N, rfl, hB, by omega, by decide, by decide, fun way H1 w0 w1 hB1 E1 => ?_⟩
  have a1 : DV H1 v1 d1 := (ap1.ext E1).dv
  have a2 : DV H1 v2 d2 := (ap2.ext E1).dv
  obtain ⟨j, rfl⟩ : ∃ j : Nat, way = (j : Int) := ⟨way.toNat, by omega⟩
  have c : j = 0 ∨ j = 1 ∨ j = 2 ∨ j = 3 ∨ j = 4 ∨ j = 5 := by omega
  have fin : ∀ H', Same H1 H' → Q (.bl true) H' := fun H' S => k H' (hB1.mono S) (ext_trans E1 (ext_same S))
  rcases c with rfl | rfl | rfl | rfl | rfl | rfl
  · refine ⟨by rfl, ?_⟩
    rw [if_pos (by decide)]
    intro d H2 S2 hd2 e2
    have hc : ExC H2 (.ref T.C_Stopped) (some d) T.C_Stopped [("at", v1)] := ⟨rfl, .inl ⟨d, rfl, e2⟩⟩
    refine ⟨true, T.E_Stopped.n.exm T.u_UnsaidError, fun _ a na => ?_, fun h => by cases h⟩
    walk_at "rx"
    refine ⟨by rw [sz]; decide, fun l hl nl => ?_⟩
    have U3 := Same.new (o := .lst [V.int 20, V.int 15, V.int 36, V.int 35, V.int 27, V.int 38]) hl
    refine r_ixL (v := .int 20) (.of upd_same) (atI_nat (j := 0) rfl) ?_
    refine ⟨T.C_Stopped, Str.ofString "Stopped", _, 20, rfl, hc.same U3, rfl, fun H4 U4 => ⟨true, rfl, ?_⟩⟩
    rw [if_neg (by decide)]
    refine ⟨by rfl, ?_⟩
    have S4 := S2.trans (U3.trans U4)
    rw [if_neg (by decide)]
    refine ⟨by rw [sz]; decide, fun lw hlw nlw => ?_⟩
    have U5 := Same.new (o := .lst [V.int 0, V.int 1, V.int 4]) hlw
    have S5 := S4.trans U5
    refine r_way (j := 0) upd_same (by decide) ⟨_, rfl, ?_⟩
    rw [if_pos (by decide)]
    refine ⟨T.C_Stopped, Str.ofString "Stopped", Str.ofString "at", v1, 20, rfl, rfl, rfl, hc.same (U3.trans (U4.trans U5)), fun H6 U6 => ?_⟩
    have S6 := S5.trans U6
    refine ⟨by rw [sz]; decide, fun lt hlt nlt => ?_⟩
    have S7 := S6.trans (Same.new (o := .lst [v1]) hlt)
    refine rep_one m1 nlt upd_same (a1.mono S7) ?_
    refine menu5 (j := 0) (by decide) fun q G xs SG nq hx gq => ?_
    cases hx
    refine rep_one m1 nq gq (a1.mono (S7.trans SG)) ⟨by rfl, ?_⟩
    exact by simpa using fin _ (S7.trans SG)
  · refine ⟨by rfl, ?_⟩
    rw [if_neg (by decide)]
    refine ⟨by rfl, ?_⟩
    rw [if_pos (by decide)]
    intro d H2 S2 hd2 e2
    have hc : ExC H2 (.ref T.C_InvalidActs) (some d) T.C_InvalidActs [("given", v1)] := ⟨rfl, .inl ⟨d, rfl, e2⟩⟩
    refine ⟨true, T.E_InvalidActs.n.exm T.u_UnsaidError, fun _ a na => ?_, fun h => by cases h⟩
    walk_at "rx"
    refine ⟨by rw [sz]; decide, fun l hl nl => ?_⟩
    have U3 := Same.new (o := .lst [V.int 20, V.int 15, V.int 36, V.int 35, V.int 27, V.int 38]) hl
    refine r_ixL (v := .int 15) (.of upd_same) (atI_nat (j := 1) rfl) ?_
    refine ⟨T.C_InvalidActs, Str.ofString "InvalidActs", _, 15, rfl, hc.same U3, rfl, fun H4 U4 => ⟨true, rfl, ?_⟩⟩
    rw [if_neg (by decide)]
    refine ⟨by rfl, ?_⟩
    have S4 := S2.trans (U3.trans U4)
    rw [if_neg (by decide)]
    refine ⟨by rw [sz]; decide, fun lw hlw nlw => ?_⟩
    have U5 := Same.new (o := .lst [V.int 0, V.int 1, V.int 4]) hlw
    have S5 := S4.trans U5
    refine r_way (j := 1) upd_same (by decide) ⟨_, rfl, ?_⟩
    rw [if_pos (by decide)]
    refine ⟨T.C_InvalidActs, Str.ofString "InvalidActs", Str.ofString "given", v1, 15, rfl, rfl, rfl, hc.same (U3.trans (U4.trans U5)), fun H6 U6 => ?_⟩
    have S6 := S5.trans U6
    refine ⟨by rw [sz]; decide, fun lt hlt nlt => ?_⟩
    have S7 := S6.trans (Same.new (o := .lst [v1]) hlt)
    refine rep_one m1 nlt upd_same (a1.mono S7) ?_
    refine menu5 (j := 1) (by decide) fun q G xs SG nq hx gq => ?_
    cases hx
    refine rep_one m1 nq gq (a1.mono (S7.trans SG)) ⟨by rfl, ?_⟩
    exact by simpa using fin _ (S7.trans SG)
  · refine ⟨by rfl, ?_⟩
    rw [if_neg (by decide)]
    refine ⟨by rfl, ?_⟩
    rw [if_neg (by decide)]
    refine ⟨by rfl, ?_⟩
    rw [if_pos (by decide)]
    refine ⟨v1, v2, rfl, ?_⟩
    intro d H2 S2 hd2 e2
    have hc : ExC H2 (.ref T.C_NotAhead) (some d) T.C_NotAhead [("z", v2), ("x", v1)] := ⟨rfl, .inl ⟨d, rfl, e2⟩⟩
    refine ⟨true, T.E_NotAhead.n.exm T.u_UnsaidError, fun _ a na => ?_, fun h => by cases h⟩
    walk_at "rx"
    refine ⟨by rw [sz]; decide, fun l hl nl => ?_⟩
    have U3 := Same.new (o := .lst [V.int 20, V.int 15, V.int 36, V.int 35, V.int 27, V.int 38]) hl
    refine r_ixL (v := .int 36) (.of upd_same) (atI_nat (j := 2) rfl) ?_
    refine ⟨T.C_NotAhead, Str.ofString "NotAhead", _, 36, rfl, hc.same U3, rfl, fun H4 U4 => ⟨true, rfl, ?_⟩⟩
    rw [if_neg (by decide)]
    refine ⟨by rfl, ?_⟩
    have S4 := S2.trans (U3.trans U4)
    rw [if_neg (by decide)]
    refine ⟨by rw [sz]; decide, fun lw hlw nlw => ?_⟩
    have U5 := Same.new (o := .lst [V.int 0, V.int 1, V.int 4]) hlw
    have S5 := S4.trans U5
    refine r_way (j := 2) upd_same (by decide) ⟨_, rfl, ?_⟩
    rw [if_neg (by decide)]
    refine ⟨T.C_NotAhead, Str.ofString "NotAhead", Str.ofString "x", Str.ofString "z", v1, v2, 2, rfl, rfl, rfl, hc.same (U3.trans (U4.trans U5)), fun lt H6 nlt hlt U6 glt => ?_⟩
    have S7 := S5.trans U6
    refine rep_two m1 m2 nlt glt (a1.mono S7) (a2.mono S7) ?_
    refine menu5 (j := 2) (by decide) fun q G xs SG nq hx gq => ?_
    cases hx
    refine rep_two m1 m2 nq gq (a1.mono (S7.trans SG)) (a2.mono (S7.trans SG)) ⟨by rfl, ?_⟩
    exact by simpa using fin _ (S7.trans SG)
  · refine ⟨by rfl, ?_⟩
    rw [if_neg (by decide)]
    refine ⟨by rfl, ?_⟩
    rw [if_neg (by decide)]
    refine ⟨by rfl, ?_⟩
    rw [if_neg (by decide)]
    refine ⟨by rfl, ?_⟩
    rw [if_pos (by decide)]
    refine ⟨v1, v2, ⟨rfl, rfl⟩, ?_⟩
    intro d H2 S2 hd2 e2
    have hc : ExC H2 (.ref T.C_NothingUnderWay) (some d) T.C_NothingUnderWay [("v", v2), ("u", v1)] := ⟨rfl, .inl ⟨d, rfl, e2⟩⟩
    refine ⟨true, T.E_NothingUnderWay.n.exm T.u_UnsaidError, fun _ a na => ?_, fun h => by cases h⟩
    walk_at "rx"
    refine ⟨by rw [sz]; decide, fun l hl nl => ?_⟩
    have U3 := Same.new (o := .lst [V.int 20, V.int 15, V.int 36, V.int 35, V.int 27, V.int 38]) hl
    refine r_ixL (v := .int 35) (.of upd_same) (atI_nat (j := 3) rfl) ?_
    refine ⟨T.C_NothingUnderWay, Str.ofString "NothingUnderWay", _, 35, rfl, hc.same U3, rfl, fun H4 U4 => ⟨true, rfl, ?_⟩⟩
    rw [if_neg (by decide)]
    refine ⟨by rfl, ?_⟩
    have S4 := S2.trans (U3.trans U4)
    rw [if_neg (by decide)]
    refine ⟨by rw [sz]; decide, fun lw hlw nlw => ?_⟩
    have U5 := Same.new (o := .lst [V.int 0, V.int 1, V.int 4]) hlw
    have S5 := S4.trans U5
    refine r_way (j := 3) upd_same (by decide) ⟨_, rfl, ?_⟩
    rw [if_neg (by decide)]
    refine ⟨T.C_NothingUnderWay, Str.ofString "NothingUnderWay", Str.ofString "u", Str.ofString "v", v1, v2, 1, rfl, rfl, rfl, hc.same (U3.trans (U4.trans U5)), fun lt H6 nlt hlt U6 glt => ?_⟩
    have S7 := S5.trans U6
    refine rep_two m1 m2 nlt glt (a1.mono S7) (a2.mono S7) ?_
    refine menu5 (j := 3) (by decide) fun q G xs SG nq hx gq => ?_
    cases hx
    refine rep_two m1 m2 nq gq (a1.mono (S7.trans SG)) (a2.mono (S7.trans SG)) ⟨by rfl, ?_⟩
    exact by simpa using fin _ (S7.trans SG)
  · refine ⟨by rfl, ?_⟩
    rw [if_neg (by decide)]
    refine ⟨by rfl, ?_⟩
    rw [if_neg (by decide)]
    refine ⟨by rfl, ?_⟩
    rw [if_neg (by decide)]
    refine ⟨by rfl, ?_⟩
    rw [if_neg (by decide)]
    refine ⟨by rfl, ?_⟩
    rw [if_pos (by decide)]
    intro d H2 S2 hd2 e2
    have hc : ExC H2 (.ref T.C_NotStanding) (some d) T.C_NotStanding [("now", v2)] := ⟨rfl, .inl ⟨d, rfl, e2⟩⟩
    refine ⟨true, T.E_NotStanding.n.exm T.u_UnsaidError, fun _ a na => ?_, fun h => by cases h⟩
    walk_at "rx"
    refine ⟨by rw [sz]; decide, fun l hl nl => ?_⟩
    have U3 := Same.new (o := .lst [V.int 20, V.int 15, V.int 36, V.int 35, V.int 27, V.int 38]) hl
    refine r_ixL (v := .int 27) (.of upd_same) (atI_nat (j := 4) rfl) ?_
    refine ⟨T.C_NotStanding, Str.ofString "NotStanding", _, 27, rfl, hc.same U3, rfl, fun H4 U4 => ⟨true, rfl, ?_⟩⟩
    rw [if_neg (by decide)]
    refine ⟨by rfl, ?_⟩
    have S4 := S2.trans (U3.trans U4)
    rw [if_neg (by decide)]
    refine ⟨by rw [sz]; decide, fun lw hlw nlw => ?_⟩
    have U5 := Same.new (o := .lst [V.int 0, V.int 1, V.int 4]) hlw
    have S5 := S4.trans U5
    refine r_way (j := 4) upd_same (by decide) ⟨_, rfl, ?_⟩
    rw [if_pos (by decide)]
    refine ⟨T.C_NotStanding, Str.ofString "NotStanding", Str.ofString "now", v2, 27, rfl, rfl, rfl, hc.same (U3.trans (U4.trans U5)), fun H6 U6 => ?_⟩
    have S6 := S5.trans U6
    refine ⟨by rw [sz]; decide, fun lt hlt nlt => ?_⟩
    have S7 := S6.trans (Same.new (o := .lst [v2]) hlt)
    refine rep_one m2 nlt upd_same (a2.mono S7) ?_
    refine menu5 (j := 4) (by decide) fun q G xs SG nq hx gq => ?_
    cases hx
    refine rep_one m2 nq gq (a2.mono (S7.trans SG)) ⟨by rfl, ?_⟩
    exact by simpa using fin _ (S7.trans SG)
  · refine ⟨by rfl, ?_⟩
    rw [if_neg (by decide)]
    refine ⟨by rfl, ?_⟩
    rw [if_neg (by decide)]
    refine ⟨by rfl, ?_⟩
    rw [if_neg (by decide)]
    refine ⟨by rfl, ?_⟩
    rw [if_neg (by decide)]
    refine ⟨by rfl, ?_⟩
    rw [if_neg (by decide)]
    have S2 : Same H1 H1 := Same.refl _
    have hc : ExC H1 (.ref T.C_NoStanding) none T.C_NoStanding [] := ⟨rfl, .inr ⟨rfl, rfl⟩⟩
    refine ⟨true, T.n_NoStanding.exm T.u_UnsaidError, fun _ a na => ?_, fun h => by cases h⟩
    walk_at "rx"
    refine ⟨by rw [sz]; decide, fun l hl nl => ?_⟩
    have U3 := Same.new (o := .lst [V.int 20, V.int 15, V.int 36, V.int 35, V.int 27, V.int 38]) hl
    refine r_ixL (v := .int 38) (.of upd_same) (atI_nat (j := 5) rfl) ?_
    refine ⟨T.C_NoStanding, Str.ofString "NoStanding", _, 38, rfl, hc.same U3, rfl, fun H4 U4 => ⟨true, rfl, ?_⟩⟩
    rw [if_neg (by decide)]
    refine ⟨by rfl, ?_⟩
    have S4 := S2.trans (U3.trans U4)
    rw [if_pos (by decide)]
    exact fin _ S4
end
end K00



namespace K00
open PySem L2 L2H Nv

theorem ExF.offO {H : Hp} {a C L : Addr} {fs : List (Str × V)} {o o2 : HO} (h : ExF [] H a C fs) (hL : H L = some o) (n1 : ∀ (e C : Addr) (d : Option Addr), exo e C d ≠ o) (n2 : ∀ (e : Addr) (fs : List (Str × V)), exd e fs ≠ o) : ExF [] (upd H L o2) a C fs := by
  have ne : ∀ {b : Addr} {u : HO}, H b = some u → u ≠ o → b ≠ L := fun {b u} hb n e => by
    rw [e, hL] at hb
    cases hb
    exact n rfl
  rcases h with ⟨d, h1, h2⟩ | ⟨e, h1⟩ | ⟨oe, d, vs, h1, _⟩ | ⟨oe, vs, _, h1, _⟩
  · refine .inl ⟨d, ?_, ?_⟩
    · rw [upd_ne (ne h1 (n1 _ _ _))]
      exact h1
    · rw [upd_ne (ne h2 (n2 _ _))]
      exact h2
  · refine .inr (.inl ⟨e, ?_⟩)
    rw [upd_ne (ne h1 (n1 _ _ _))]
    exact h1
  · simp at h1
  · simp at h1
theorem exo_dK {e C : Addr} {d : Option Addr} {kvs : List (Key × V)} : exo e C d ≠ .dK kvs := fun z => by
  have z' : HO.ext _ = HO.dK kvs := z
  cases z'
theorem exd_dK {e : Addr} {fs : List (Str × V)} {kvs : List (Key × V)} : exd e fs ≠ .dK kvs := fun z => by
  have z' : HO.ext _ = HO.dK kvs := z
  cases z'
/-- a list grows and a dict grows: errors stay -/
theorem ExF.grown {H : Hp} {a C g t : Addr} {fs : List (Str × V)} {xs ys : List V} {ks ls : List (Key × V)} (h : ExF [] H a C fs) (hg : H g = some (.lst xs)) (ht : H t = some (.dK ks)) : ExF [] (upd (upd H g (.lst ys)) t (.dK ls)) a C fs := by
  have n : t ≠ g := fun e => by
    rw [e, hg] at ht
    cases ht
  exact ExF.offO (o := .dK ks) (ExF.offO h hg (fun _ _ _ => exo_lst) (fun _ _ => exd_lst)) (by rw [upd_ne n]; exact ht) (fun _ _ _ => exo_dK) (fun _ _ => exd_dK)
theorem twice_at {α : Type} {l : List α} {n i : Nat} (hn : l.length = n) (hi : i < 2 * n) : (l ++ l)[i]? = l[i % n]? := by
  by_cases h : i < n
  · rw [List.getElem?_append_left (by omega), Nat.mod_eq_of_lt h]
  · rw [List.getElem?_append_right (by omega), hn]
    congr 1
    rw [Nat.mod_eq_sub_mod (by omega), Nat.mod_eq_of_lt (by omega)]
theorem pass_no (n : Nat) : passI (fun _ => false) n = [] := by
  unfold passI
  rw [List.filter_eq_nil_iff.mpr (fun a _ => by decide)]
  rfl
def spGrown : Sp := fun vs H Q _ => ∃ p N, vs = [.ref p] ∧ BoxAt H p N ∧ N ≤ 100000 ∧ ∀ H', BoxAt H' p (N + 1) → Ext1 p H H' → Q (.bl true) H'
section
variable {P : Program} {w : World} {K : PySem.W.Frag} {mg : Str → Option Value} {base : Heap}
theorem ok_l_grown_right (T : Tx K mg) : FnG P w K mg base 4 T.d_l_grown_right.f T.d_l_grown_right.fd ["_law_box_here"] spGrown := by
  refine okG0 T.d_l_grown_right.F sc_l_grown_right (fun vs H Q E h => ?_) (fun cdv A outer s H vs Q E hg hr h => ?_)
  · obtain ⟨p, N, rfl, _⟩ := h
    rfl
  obtain ⟨p, N, rfl, hB, hN, k⟩ := h
  have sz : sizeLine = 16777216 := sizeLine_eq
  refine ⟨_, (pss_cons (ps_set (i := 1) sc_l_grown_right.nd rfl (Or.inl rfl) (pe_cG (ok_l_take T) T.d_l_take.b takes0 hg (hr.mono (by decide)) T.d_l_take.m T.d_l_take.F.kp (pa_cons (pv 0) (pa_cons pe_int pa_nil))))
    (pss_cons (ps_par (i := 2) (j := 3) rfl sc_l_grown_right.nd rfl rfl (by decide) rfl rfl (pa_cons (pe_lst1 (pa_cons (pv 1) pa_nil)) (pa_cons (pe_callTy (call_dictP rfl) (by rfl) T.n_dict (by decide +kernel) (pa_cons (pe_lst1 (pa_cons (pe_tup (pa_cons pe_str (pa_cons (pv 1) pa_nil))) pa_nil)) pa_nil)) pa_nil)) (by rfl))
    (pss_cons (ps_set (i := 4) sc_l_grown_right.nd rfl (Or.inr rfl) (pe_op op_cat (pe_op op_cat (pe_op op_cat (pe_cG (ok_l_by_place T) T.d_l_by_place.b takes0 hg (hr.mono (by decide)) T.d_l_by_place.m T.d_l_by_place.F.kp (pa_cons (pv 2) pa_nil)) (pe_cG (ok_l_by_name T) T.d_l_by_name.b takes0 hg (hr.mono (by decide)) T.d_l_by_name.m T.d_l_by_name.F.kp (pa_cons (pv 2) pa_nil))) (pe_cG (ok_l_by_place T) T.d_l_by_place.b takes0 hg (hr.mono (by decide)) T.d_l_by_place.m T.d_l_by_place.F.kp (pa_cons (pv 3) pa_nil))) (pe_cG (ok_l_by_name T) T.d_l_by_name.b takes0 hg (hr.mono (by decide)) T.d_l_by_name.m T.d_l_by_name.F.kp (pa_cons (pv 3) pa_nil))))
    (pss_cons (ps_set (i := 5) sc_l_grown_right.nd rfl (Or.inr rfl) (pe_op op_cat (pe_op op_cat (pe_cG (ok_l_pairs T) T.d_l_pairs.b takes0 hg (hr.mono (by decide)) T.d_l_pairs.m T.d_l_pairs.F.kp (pa_cons (pv 2) (pa_cons (pv 3) (pa_cons pe_int pa_nil)))) (pe_cG (ok_l_pairs T) T.d_l_pairs.b takes0 hg (hr.mono (by decide)) T.d_l_pairs.m T.d_l_pairs.F.kp (pa_cons (pv 3) (pa_cons (pv 2) (pa_cons pe_int pa_nil))))) (pe_cG (ok_l_pairs T) T.d_l_pairs.b takes0 hg (hr.mono (by decide)) T.d_l_pairs.m T.d_l_pairs.F.kp (pa_cons (pv 2) (pa_cons (pv 3) (pa_cons pe_int pa_nil))))))
    (pss_cons (ps_set (i := 5) sc_l_grown_right.nd rfl (Or.inr rfl) (pe_op op_cat (pv 5) (pe_cG (ok_l_pairs T) T.d_l_pairs.b takes0 hg (hr.mono (by decide)) T.d_l_pairs.m T.d_l_pairs.F.kp (pa_cons (pv 3) (pa_cons (pv 2) (pa_cons pe_int pa_nil))))))
    (pss_cons (ps_expr (pe_bm PySem.F.plainAttrs_list PySem.F.slot_list_append PySem.F.type_list_append mt_append (pv 2) (pa_cons pe_str pa_nil)))
    (pss_cons (ps_asg pe_int (pg_sub (pv 3) pe_str (set_dict (Nat.lt_of_le_of_lt (Nat.add_le_add_left (by decide) _) hr.units))))
    (pss_cons (ps_set (i := 6) sc_l_grown_right.nd rfl (Or.inr rfl) (pe_lst1 (pa_cons (pe_lst1 (pa_cons (pv 1) (pa_cons pe_str pa_nil))) (pa_cons (pe_disp (pps_cons pe_str (pv 1) (pps_cons pe_str pe_int pps_nil)) (by rfl) (by rfl) (fun z => by cases z) (by decide)) pa_nil))))
    (pss_cons (ps_if (pt_cmpR (op_neD hr.units) (pe_lc (own := [("_law_k", 7)]) (g := gName 7) rfl sc_l_grown_right.nd (pi_range1 (by rfl) T.n_range (pa_cons pe_int pa_nil)) (blkOk_by (N := ["_law_box_here", "_law_first", "_law_grown", "_law_table", "_law_kept_here", "_law_pairs_here", "_law_due", "_law_k"]) (sc := defScope s_l_grown_right) (by decide +kernel)) (fun _ _ _ _ _ => pg_name (i := 7) sc_l_grown_right.nd rfl (Or.inl rfl)) (fun _ _ _ _ _ => (pts_one (pt_cmpR (op_neUK (K := K) rfl hr.units) (pe_cG (ok_l_kept T) T.d_l_kept.b takes0 hg (hr.mono (by decide)) T.d_l_kept.m T.d_l_kept.F.kp (pa_cons (pe_ix (ix_listK (K := K) rfl) (pv 4) (pv 7) (fun _ _ => rfl)) pa_nil)) (pe_ix (ix_listK (K := K) rfl) (pv 6) (pe_op op_fdivN (pv 7) pe_int) (fun _ _ => rfl)) (nomark _)))) (fun _ _ _ _ _ => (pv 7))) (pe_lst1 pa_nil) (nomark _))
      (pss_one (ps_ret pe_bl))
      pss_nil)
    (pss_one (ps_ret (pe_cmpR (op_eqD hr.units) (pe_lc (own := [("_law_k", 7)]) (g := gName 7) rfl sc_l_grown_right.nd (pi_range1 (by rfl) T.n_range (pa_cons pe_int pa_nil)) (blkOk_by (N := ["_law_box_here", "_law_first", "_law_grown", "_law_table", "_law_kept_here", "_law_pairs_here", "_law_due", "_law_k"]) (sc := defScope s_l_grown_right) (by decide +kernel)) (fun _ _ _ _ _ => pg_name (i := 7) sc_l_grown_right.nd rfl (Or.inl rfl)) (fun _ _ _ _ _ => (pts_one (pt_cmpR (op_neUK (K := K) rfl hr.units) (pe_cG (ok_l_two_kept T) T.d_l_two_kept.b takes0 hg (hr.mono (by decide)) T.d_l_two_kept.m T.d_l_two_kept.F.kp (pa_cons (pe_ix (ix_listK (K := K) rfl) (pv 5) (pv 7) (fun _ _ => rfl)) pa_nil)) (pe_ifExp (pt_cmpR op_eq (pe_op op_modN (pe_op op_fdivN (pv 7) pe_int) pe_int) pe_int (nomark _)) (pv 6) (pe_backK (K := K) rfl (pv 6) (pe_un un_neg pe_int))) (nomark _)))) (fun _ _ _ _ _ => (pv 7))) (pe_lst1 pa_nil) (nomark _))))))))))))), ?_⟩
  walk_at "rx"
  refine ⟨p, 9, N, rfl, hB, by omega, by decide, by decide, fun d H1 d0 d1 hB1 E1 => ?_⟩
  refine ⟨by rw [sz]; decide, fun g hg1 ng => ⟨by rw [sz]; decide, fun t1 ht1 => ⟨by rw [sz]; decide, fun t2 ht2 nt2 => ⟨[t1], .of upd_same, [(.inr (Str.ofString "a"), .int d)], .cons (.of (Same.new ht2 _ _ upd_same)) .nil, fun t ht => ?_⟩⟩⟩⟩
  have G : Same H1 (upd (upd (upd (upd H1 g (.lst [.int d])) t1 (.tup [.str (Str.ofString "a"), .int d])) t2 (.lst [.ref t1])) t (.dK (mergeK [] [(.inr (Str.ofString "a"), .int d)]))) := (((Same.new hg1).trans (Same.new ht1)).trans (Same.new ht2)).trans (Same.new ht)
  have gg : upd (upd (upd (upd H1 g (.lst [.int d])) t1 (.tup [.str (Str.ofString "a"), .int d])) t2 (.lst [.ref t1])) t (.dK (mergeK [] [(.inr (Str.ofString "a"), .int d)])) g = some (.lst [.int d]) := Same.new ht _ _ (Same.new ht2 _ _ (Same.new ht1 _ _ upd_same))
  have gt : upd (upd (upd (upd H1 g (.lst [.int d])) t1 (.tup [.str (Str.ofString "a"), .int d])) t2 (.lst [.ref t1])) t (.dK (mergeK [] [(.inr (Str.ofString "a"), .int d)])) t = some (.dK [(.inr (Str.ofString "a"), .int d)]) := upd_same
  have tn : H1 t = none := fresh_of ((Same.new hg1).trans ((Same.new ht1).trans (Same.new ht2))) ht
  generalize upd (upd (upd (upd H1 g (.lst [.int d])) t1 (.tup [.str (Str.ofString "a"), .int d])) t2 (.lst [.ref t1])) t (.dK (mergeK [] [(.inr (Str.ofString "a"), .int d)])) = G0 at G gg gt ⊢
  have cat2 : ∀ {x y : Addr} {R : VK} {F : Hp} {xs ys : List V}, F x = some (.lst xs) → F y = some (.lst ys) → xs.length + ys.length ≤ 1000 → (∀ q F', Same F F' → F' q = some (.lst (xs ++ ys)) → R (.ref q) F') → rCat (.ref x) (.ref y) F R :=
    fun {x y R F xs ys} hx hy hl r => ⟨x, y, xs, ys, rfl, rfl, hx, hy, by omega, fun q hq => r q _ (Same.new hq) upd_same⟩
  refine ⟨.ref g, rfl, fun l1 es1 A1 S1 h1 x1 => ⟨.ref g, rfl, fun l2 es2 A2 S2 h2 x2 => ?_⟩⟩
  have n1 : es1.length = 34 := x1.len
  have n2 : es2.length = 34 := x2.len
  refine cat2 (S2 _ _ h1) h2 (by omega) fun k1 B1 U1 f1 => ?_
  refine ⟨.ref t, rfl, fun l3 es3 A3 S3 h3 x3 => ?_⟩
  have n3 : es3.length = 34 := x3.len
  refine cat2 (S3 _ _ f1) h3 (by rw [List.length_append]; omega) fun k2 B2 U2 f2 => ?_
  refine ⟨.ref t, rfl, fun l4 es4 A4 S4 h4 x4 => ?_⟩
  have n4 : es4.length = 34 := x4.len
  refine cat2 (S4 _ _ f2) h4 (by rw [List.length_append, List.length_append]; omega) fun lk B3 U3 f3 => ?_
  refine ⟨.ref g, .ref t, 0, rfl, by decide, fun m1 ps1 A5 S5 g1 y1 => ⟨.ref t, .ref g, 1, rfl, by decide, fun m2 ps2 A6 S6 g2 y2 => ?_⟩⟩
  have o1 : ps1.length = 4 := Paired.length y1
  have o2 : ps2.length = 4 := Paired.length y2
  refine cat2 (S6 _ _ g1) g2 (by omega) fun c1 B4 U4 e1 => ?_
  refine ⟨.ref g, .ref t, 2, rfl, by decide, fun m3 ps3 A7 S7 g3 y3 => ?_⟩
  have o3 : ps3.length = 4 := Paired.length y3
  refine cat2 (S7 _ _ e1) g3 (by rw [List.length_append]; omega) fun c2 B5 U5 e2 => ?_
  refine ⟨.ref t, .ref g, 3, rfl, by decide, fun m4 ps4 A8 S8 g4 y4 => ?_⟩
  have o4 : ps4.length = 4 := Paired.length y4
  refine cat2 (S8 _ _ e2) g4 (by rw [List.length_append, List.length_append]; omega) fun lp B6 U6 e3 => ?_
  -- all in the last heap
  have t86 : Same A8 B6 := U6
  have t76 : Same A7 B6 := U5.trans (S8.trans U6)
  have t66 : Same A6 B6 := U4.trans (S7.trans t76)
  have t56 : Same A5 B6 := S6.trans t66
  have t36 : Same B3 B6 := S5.trans t56
  have t46 : Same A4 B6 := U3.trans t36
  have tA3 : Same A3 B6 := U2.trans (S4.trans t46)
  have tA2 : Same A2 B6 := U1.trans (S3.trans tA3)
  have tA1 : Same A1 B6 := S2.trans tA2
  have tG : Same G0 B6 := S1.trans tA1
  have z1 := (x1.same tA1).app (x2.same tA2)
  have z2 := (x3.same tA3).app (x4.same t46)
  have y1 := y1.same t56
  have y2 := y2.same t66
  have y3 := y3.same t76
  have y4 := y4.same t86
  have fk := t36 _ _ f3
  have gg6 := tG _ _ gg
  have gt6 := tG _ _ gt
  have H6 := G.trans tG
  clear x1 x2 x3 x4 cat2 t86 t76 t66 t56 t46 tA3 tA2 tA1 U1 U2 U3 U4 U5 U6 S1 S2 S3 S4 S5 S6 S7 S8 h1 h2 h3 h4 f1 f2 f3 g1 g2 g3 g4 e1 e2
  have ngt : t ≠ g := fun e => by
    rw [e, gg6] at gt6
    cases gt6
  have fk6 : B6 lk = some (.lst (es1 ++ es2 ++ es3 ++ es4)) := fk
  have nk : (es1 ++ es2 ++ es3 ++ es4).length = 136 := by
    simp only [List.length_append]
    omega
  have np : (ps1 ++ ps2 ++ ps3 ++ ps4).length = 16 := by
    simp only [List.length_append]
    omega
  have lkg : lk ≠ g := fun e => by
    rw [e, gg6] at fk6
    have := congrArg (fun o => match o with | some (HO.lst xs) => xs.length | _ => 0) fk6
    simp only [nk] at this
    cases this
  have lpg : lp ≠ g := fun e => by
    rw [e, gg6] at e3
    have := congrArg (fun o => match o with | some (HO.lst xs) => xs.length | _ => 0) e3
    simp only [np] at this
    cases this
  have lkt : lk ≠ t := fun e => by
    rw [e, gt6] at fk6
    cases fk6
  have lpt : lp ≠ t := fun e => by
    rw [e, gt6] at e3
    cases e3
  have pk : putK [((.inr (Str.ofString "a") : Key), V.int d)] (.inr (Str.ofString "more")) (.int 1) = [(.inr (Str.ofString "a"), .int d), (.inr (Str.ofString "more"), .int 1)] := by rfl
  refine ⟨.inl ⟨rfl, _, .of gg6⟩, g, _, _, rfl, rfl, gg6, by rw [sz]; exact Nat.lt_of_lt_of_le (show 1 < 4 by decide) (by decide), ?_⟩
  refine ⟨t, _, rfl, DPut.k (k := .inr (Str.ofString "more")) (kvs := [(.inr (Str.ofString "a"), .int d)]) (by rw [upd_ne ngt]; exact gt6) (by rw [sz]; exact Nat.lt_of_lt_of_le (show 1 < 4 by decide) (by decide)), ?_⟩
  rw [pk]
  have M1 : Same H1 (upd (upd B6 g (.lst ([V.int d] ++ [V.str (Str.ofString "more")]))) t (.dK [(.inr (Str.ofString "a"), .int d), (.inr (Str.ofString "more"), .int 1)])) := fun b o hb => by
    rw [upd_ne (ne_of_none hb tn), upd_ne (ne_of_none hb hg1)]
    exact H6 _ _ hb
  have mg : upd (upd B6 g (.lst ([V.int d] ++ [V.str (Str.ofString "more")]))) t (.dK [(.inr (Str.ofString "a"), .int d), (.inr (Str.ofString "more"), .int 1)]) g = some (.lst [V.int d, V.str (Str.ofString "more")]) := by
    rw [upd_ne (Ne.symm ngt), upd_same]
    rfl
  have mt : upd (upd B6 g (.lst ([V.int d] ++ [V.str (Str.ofString "more")]))) t (.dK [(.inr (Str.ofString "a"), .int d), (.inr (Str.ofString "more"), .int 1)]) t = some (.dK [(.inr (Str.ofString "a"), .int d), (.inr (Str.ofString "more"), .int 1)]) := upd_same
  have mk : upd (upd B6 g (.lst ([V.int d] ++ [V.str (Str.ofString "more")]))) t (.dK [(.inr (Str.ofString "a"), .int d), (.inr (Str.ofString "more"), .int 1)]) lk = some (.lst (es1 ++ es2 ++ es3 ++ es4)) := by
    rw [upd_ne lkt, upd_ne lkg]
    exact fk6
  have mp : upd (upd B6 g (.lst ([V.int d] ++ [V.str (Str.ofString "more")]))) t (.dK [(.inr (Str.ofString "a"), .int d), (.inr (Str.ofString "more"), .int 1)]) lp = some (.lst (ps1 ++ ps2 ++ ps3 ++ ps4)) := by
    rw [upd_ne lpt, upd_ne lpg]
    exact e3
  have mx : ∀ {a C : Addr} {fs : List (Str × V)}, ExF [] B6 a C fs → ExF [] (upd (upd B6 g (.lst ([V.int d] ++ [V.str (Str.ofString "more")]))) t (.dK [(.inr (Str.ofString "a"), .int d), (.inr (Str.ofString "more"), .int 1)])) a C fs := fun x => ExF.grown x gg6 gt6
  generalize upd (upd B6 g (.lst ([V.int d] ++ [V.str (Str.ofString "more")]))) t (.dK [(.inr (Str.ofString "a"), .int d), (.inr (Str.ofString "more"), .int 1)]) = M at M1 mg mt mk mp mx ⊢
  refine ⟨by rw [sz]; decide, fun g' hg' ng' t' ht' => ⟨[(.inr (Str.ofString "a"), .int d), (.inr (Str.ofString "more"), .int 1)], rfl, Nat.le_of_ble_eq_true rfl, by rw [sz]; decide, fun ld hld nld => ?_⟩⟩
  have mer : mergeK [] [((.inr (Str.ofString "a") : Key), V.int d), (.inr (Str.ofString "more"), V.int 1)] = [(.inr (Str.ofString "a"), .int d), (.inr (Str.ofString "more"), .int 1)] := by rfl
  rw [mer] at hld ⊢
  have SW : Same M (upd (upd (upd M g' (.lst [V.int d, V.str (Str.ofString "more")])) t' (.dK [(.inr (Str.ofString "a"), .int d), (.inr (Str.ofString "more"), .int 1)])) ld (.lst [V.ref g', V.ref t'])) := ((Same.new hg').trans (Same.new ht')).trans (Same.new hld)
  have wg : upd (upd (upd M g' (.lst [V.int d, V.str (Str.ofString "more")])) t' (.dK [(.inr (Str.ofString "a"), .int d), (.inr (Str.ofString "more"), .int 1)])) ld (.lst [V.ref g', V.ref t']) g' = some (.lst [V.int d, V.str (Str.ofString "more")]) := Same.new hld _ _ (Same.new ht' _ _ upd_same)
  have wt : upd (upd (upd M g' (.lst [V.int d, V.str (Str.ofString "more")])) t' (.dK [(.inr (Str.ofString "a"), .int d), (.inr (Str.ofString "more"), .int 1)])) ld (.lst [V.ref g', V.ref t']) t' = some (.dK [(.inr (Str.ofString "a"), .int d), (.inr (Str.ofString "more"), .int 1)]) := Same.new hld _ _ upd_same
  have wl : upd (upd (upd M g' (.lst [V.int d, V.str (Str.ofString "more")])) t' (.dK [(.inr (Str.ofString "a"), .int d), (.inr (Str.ofString "more"), .int 1)])) ld (.lst [V.ref g', V.ref t']) ld = some (.lst [V.ref g', V.ref t']) := upd_same
  generalize upd (upd (upd M g' (.lst [V.int d, V.str (Str.ofString "more")])) t' (.dK [(.inr (Str.ofString "a"), .int d), (.inr (Str.ofString "more"), .int 1)])) ld (.lst [V.ref g', V.ref t']) = W at SW wg wt wl ⊢
  have one : ∀ i : Nat, i < 136 → ∃ a C n f w, (es1 ++ es2 ++ es3 ++ es4)[i]? = some (V.ref a) ∧ (cat T)[i % 34]? = some (n, C) ∧ flds[i % 34]? = some f ∧ ExF [] M a C [(f, w)] ∧ ((w = V.ref g ∧ (0 + (i : Int)).fdiv 68 = 0) ∨ (w = V.ref t ∧ (0 + (i : Int)).fdiv 68 = 1)) := by
    intro i hi
    obtain ⟨n, f, C, hn, hf, hF⟩ := onesF_at T (i := i % 34) (Nat.mod_lt _ (by decide))
    rw [List.append_assoc (es1 ++ es2)]
    by_cases h : i < 68
    · obtain ⟨e, he, a, rfl, ex⟩ := paired_at z1 i (f, C) (by rw [twice_at (n := 34) rfl (by omega)]; exact hF)
      refine ⟨a, C, n, f, _, ?_, hn, hf, mx ex, .inl ⟨rfl, ?_⟩⟩
      · rw [List.getElem?_append_left (by rw [List.length_append]; omega)]
        exact he
      · rw [Int.fdiv_eq_ediv_of_nonneg _ (by decide)]
        omega
    · obtain ⟨e, he, a, rfl, ex⟩ := paired_at z2 (i - 68) (f, C) (by
        rw [twice_at (n := 34) rfl (by omega), show (i - 68) % 34 = i % 34 by omega]
        exact hF)
      refine ⟨a, C, n, f, _, ?_, hn, hf, mx ex, .inr ⟨rfl, ?_⟩⟩
      · rw [List.getElem?_append_right (by rw [List.length_append]; omega), List.length_append, n1, n2]
        exact he
      · rw [Int.fdiv_eq_ediv_of_nonneg _ (by decide)]
        omega
  have two : ∀ i : Nat, i < 16 → ∃ a C n f1 f2 w1 w2, (ps1 ++ ps2 ++ ps3 ++ ps4)[i]? = some (V.ref a) ∧ (cat T)[34 + i % 4]? = some (n, C) ∧ pfl[i % 4]? = some (f1, f2) ∧ ExF [] M a C [(f2, w2), (f1, w1)] ∧ ((w1 = V.ref g ∧ w2 = V.ref t ∧ ((0 + (i : Int)).fdiv 4).fmod 2 = 0) ∨ (w1 = V.ref t ∧ w2 = V.ref g ∧ ¬ ((0 + (i : Int)).fdiv 4).fmod 2 = 0)) := by
    intro i hi
    obtain ⟨n, f1, f2, C, hn, hf, hF⟩ := twosF_at T (i := i % 4) (Nat.mod_lt _ (by decide))
    have fm : ((0 + (i : Int)).fdiv 4).fmod 2 = (((i / 4) % 2 : Nat) : Int) := by
      rw [Int.fdiv_eq_ediv_of_nonneg _ (by decide), Int.fmod_eq_emod_of_nonneg _ (by decide)]
      omega
    rw [fm]
    have c : i < 4 ∨ (4 ≤ i ∧ i < 8) ∨ (8 ≤ i ∧ i < 12) ∨ 12 ≤ i := by omega
    rcases c with h | ⟨h, h2⟩ | ⟨h, h2⟩ | h
    · obtain ⟨e, he, a, rfl, ex⟩ := paired_at y1 i ((f1, f2), C) (by rw [← Nat.mod_eq_of_lt h]; exact hF)
      refine ⟨a, C, n, f1, f2, _, _, ?_, hn, hf, mx ex, .inl ⟨rfl, rfl, by omega⟩⟩
      rw [List.getElem?_append_left (by simp only [List.length_append]; omega), List.getElem?_append_left (by simp only [List.length_append]; omega), List.getElem?_append_left (by omega)]
      exact he
    · obtain ⟨e, he, a, rfl, ex⟩ := paired_at y2 (i - 4) ((f1, f2), C) (by rw [show i - 4 = i % 4 by omega]; exact hF)
      refine ⟨a, C, n, f1, f2, _, _, ?_, hn, hf, mx ex, .inr ⟨rfl, rfl, by omega⟩⟩
      rw [List.getElem?_append_left (by simp only [List.length_append]; omega), List.getElem?_append_left (by simp only [List.length_append]; omega), List.getElem?_append_right (by omega), o1]
      exact he
    · obtain ⟨e, he, a, rfl, ex⟩ := paired_at y3 (i - 8) ((f1, f2), C) (by rw [show i - 8 = i % 4 by omega]; exact hF)
      refine ⟨a, C, n, f1, f2, _, _, ?_, hn, hf, mx ex, .inl ⟨rfl, rfl, by omega⟩⟩
      rw [List.getElem?_append_left (by simp only [List.length_append]; omega), List.getElem?_append_right (by simp only [List.length_append]; omega), List.length_append, o1, o2]
      exact he
    · obtain ⟨e, he, a, rfl, ex⟩ := paired_at y4 (i - 12) ((f1, f2), C) (by rw [show i - 12 = i % 4 by omega]; exact hF)
      refine ⟨a, C, n, f1, f2, _, _, ?_, hn, hf, mx ex, .inr ⟨rfl, rfl, by omega⟩⟩
      rw [List.getElem?_append_right (by simp only [List.length_append]; omega), List.length_append, List.length_append, o1, o2, o3]
      exact he
  have H1W := M1.trans SW
  have dkeys : ∀ q ∈ [((.inr (Str.ofString "a") : Key), V.int d), (.inr (Str.ofString "more"), V.int 1)], valV [((.inr (Str.ofString "a") : Key), V.int d), (.inr (Str.ofString "more"), V.int 1)] q.1 = some q.2 ∧ flatB q.2 = true := by
    intro q hq
    rcases List.mem_cons.mp hq with e | hq
    · rw [e]
      exact ⟨by rfl, rfl⟩
    · rcases List.mem_cons.mp hq with e | hq
      · rw [e]
        exact ⟨by rfl, rfl⟩
      · exact absurd hq (by simp)
  refine ⟨136, rfl, by decide, by decide, fun D hD => ?_⟩
  refine lc_pass (n := 136) (fun _ => false) hD (by rw [sz]; decide) ?_ ?_
  · intro i Ha R Rn hi Sa _ kf
    obtain ⟨a, C, n, f, v, he, hn, hf, ex, hv⟩ := one i hi
    refine ⟨by simp [wipe], ?_⟩
    walk_at "rx"
    refine r_ixL (.of (Sa _ _ (SW _ _ mk))) (by rw [Int.zero_add]; exact atI_nat he) ?_
    refine ⟨a, C, n, f, v, i % 34, rfl, hn, hf, ExF.same (ExF.same ex SW) Sa, fun G1 U1 => ⟨⟨by decide, by decide⟩, ?_⟩⟩
    have SG := Sa.trans U1
    rcases hv with ⟨rfl, q⟩ | ⟨rfl, q⟩
    · rw [q]
      refine r_ixL (.of (SG _ _ wl)) (at0 rfl) (.inl ⟨3, g, g', _, _, by decide, rfl, rfl, .of (SG _ _ (SW _ _ mg)), .of (SG _ _ wg), .cons (.inl ⟨rfl, rfl⟩) (.cons (.inl ⟨rfl, rfl⟩) .nil), _, rfl, ?_⟩)
      rw [if_neg (by decide)]
      exact kf rfl _ U1
    · rw [q]
      refine r_ixL (.of (SG _ _ wl)) (at1 rfl) (.inr ⟨t, t', _, _, rfl, rfl, SG _ _ (SW _ _ mt), SG _ _ wt, rfl, dkeys, _, rfl, ?_⟩)
      rw [if_neg (by decide)]
      exact kf rfl _ U1
  · intro W2 S2 hD2
    rw [pass_no] at hD2
    refine ⟨by omega, fun l0 hl0 _ => ?_⟩
    have U0 := Same.new (o := .lst []) hl0
    refine ⟨.list [], .list [], .lst (.of (U0 _ _ hD2)) .nil, .lst (.of upd_same) .nil, rfl, rfl, _, rfl, ?_⟩
    rw [if_neg (by decide)]
    have SW2 := S2.trans U0
    generalize upd W2 l0 (.lst []) = W3 at SW2 ⊢
    refine ⟨16, rfl, by decide, by decide, fun D2 hD3 => ?_⟩
    refine lc_pass (n := 16) (fun _ => false) hD3 (by rw [sz]; decide) ?_ ?_
    · intro i Ha R Rn hi Sa _ kf
      obtain ⟨a, C, n, f1, f2, w1, w2, he, hn, hf, ex, hv⟩ := two i hi
      have SM := SW.trans (SW2.trans Sa)
      refine ⟨by simp [wipe], ?_⟩
      walk_at "rx"
      refine r_ixL (.of (SM _ _ mp)) (by rw [Int.zero_add]; exact atI_nat he) ?_
      refine ⟨a, C, n, f1, f2, w1, w2, i % 4, rfl, hn, hf, ExF.same ex SM, fun q G1 _ hq U1 gq => ?_⟩
      have SG := SM.trans U1
      have SGW := SW2.trans (Sa.trans U1)
      have eg : ∀ F, Same G1 F → EqV K F 2 (V.ref g) (V.ref g') := fun F SF => .inr (.inr (.inl ⟨g, g', _, _, rfl, rfl, .of (SF _ _ (SG _ _ mg)), .of (SF _ _ (SGW _ _ wg)), .cons (.inl ⟨rfl, rfl⟩) (.cons (.inl ⟨rfl, rfl⟩) .nil)⟩))
      have et : ∀ F, Same G1 F → EqV K F 2 (V.ref t) (V.ref t') := fun F SF => .inr (.inr (.inr ⟨t, t', _, _, rfl, rfl, SF _ _ (SG _ _ mt), SF _ _ (SGW _ _ wt), rfl, fun x hx => ⟨x.2, (dkeys x hx).1, .inl ⟨rfl, (dkeys x hx).2⟩⟩⟩))
      refine ⟨⟨by decide, by decide⟩, by decide, by rfl, ?_⟩
      rcases hv with ⟨rfl, rfl, q0⟩ | ⟨rfl, rfl, q0⟩
      · rw [if_pos q0]
        refine .inl ⟨2, q, ld, _, _, by decide, rfl, rfl, .of gq, .of (SGW _ _ wl), .cons (eg _ (Same.refl _)) (.cons (et _ (Same.refl _)) .nil), _, rfl, ?_⟩
        rw [if_neg (by decide)]
        exact kf rfl _ U1
      · rw [if_neg q0]
        refine ⟨_, .of (SGW _ _ wl), fun r hr => .inl ⟨2, q, r, _, _, by decide, rfl, rfl, .of (Same.new hr _ _ gq), .of upd_same, .cons (et _ (Same.new hr)) (.cons (eg _ (Same.new hr)) .nil), _, rfl, ?_⟩⟩
        rw [if_neg (by decide)]
        exact kf rfl _ (U1.trans (Same.new hr))
    · intro W4 S4 hD4
      rw [pass_no] at hD4
      refine ⟨by omega, fun l1 hl1 _ => ?_⟩
      refine ⟨.list [], .list [], .lst (.of (Same.new hl1 _ _ hD4)) .nil, .lst (.of upd_same) .nil, rfl, rfl, ?_⟩
      have S5 := H1W.trans (SW2.trans (S4.trans (Same.new (o := .lst []) hl1)))
      exact k _ (hB1.mono S5) (ext_trans E1 (ext_same S5))
end
end K00



namespace K00
open PySem L2 L2H Nv

def spLaw (K : PySem.W.Frag) : Sp := fun vs H Q _ => ∃ (a : Addr) (ns : List Int), vs = [.ref a] ∧ SqL K H a (ns.map V.int) ∧ ns.length ≤ 63 ∧ ∀ H', Q (.bl true) H'
section
variable {P : Program} {w : World} {K : PySem.W.Frag} {mg : Str → Option Value} {base : Heap}
theorem ok_law (T : Tx K mg) : FnG P w K mg base 5 T.d_law.f T.d_law.fd ["_law_script"] (spLaw K) := by
  refine okG0 T.d_law.F sc_law (fun vs H Q E h => ?_) (fun cdv A outer s H vs Q E hg hr h => ?_)
  · obtain ⟨a, ns, rfl, _⟩ := h
    rfl
  obtain ⟨a, ns, rfl, ha, hn, k⟩ := h
  refine ⟨_, (pss_cons (ps_if (pt_not (pt_val (pe_cG (ok_l_is T) T.d_l_is.b takes0 hg (hr.mono (by decide)) T.d_l_is.m T.d_l_is.F.kp (pa_cons (pe_err0 F.excBase_ValueError T.q_NoStanding T.m_NoStanding T.kc_NoStanding) (pa_cons pe_int pa_nil)))))
      (pss_one (ps_ret pe_bl))
      pss_nil)
    (pss_cons (ps_for PassesOwn.never rfl (pi_range1 (by rfl) T.n_range (pa_cons (pe_callB (call_max2 rfl) (by rfl) T.n_max (by decide +kernel) (pa_cons pe_int (pa_cons (pe_callB (call_min2 rfl) (by rfl) T.n_min (by decide +kernel) (pa_cons pe_int (pa_cons (pe_callB call_len_seq (by rfl) T.n_len (by decide +kernel) (pa_cons (pv 0) pa_nil)) pa_nil))) pa_nil))) pa_nil)) (pg_name (i := 1) sc_law.nd rfl (Or.inl rfl))
      (pss_cons (ps_set (i := 2) sc_law.nd rfl (Or.inl rfl) (pe_cG (ok_l_box T) T.d_l_box.b takes0 hg (hr.mono (by decide)) T.d_l_box.m T.d_l_box.F.kp (pa_cons (pe_cG (ok_l_cell T) T.d_l_cell.b takes0 hg (hr.mono (by decide)) T.d_l_cell.m T.d_l_cell.F.kp (pa_cons (pv 0) (pa_cons (pv 1) pa_nil))) pa_nil)))
      (pss_cons (ps_par (i := 3) (j := 4) rfl sc_law.nd rfl rfl (by decide) rfl rfl (pa_cons (pe_cG (ok_l_thing T) T.d_l_thing.b takes0 hg (hr.mono (by decide)) T.d_l_thing.m T.d_l_thing.F.kp (pa_cons (pv 2) pa_nil)) (pa_cons (pe_cG (ok_l_thing T) T.d_l_thing.b takes0 hg (hr.mono (by decide)) T.d_l_thing.m T.d_l_thing.F.kp (pa_cons (pv 2) pa_nil)) pa_nil)) (by rfl))
      (pss_cons (ps_if (PW.pt (pw_or (pt_not (pt_val (pe_cG (ok_l_ones_right T) T.d_l_ones_right.b takes0 hg (hr.mono (by decide)) T.d_l_ones_right.m T.d_l_ones_right.F.kp (pa_cons (pv 3) (pa_cons (pv 4) pa_nil))))) (pw_or1 (pt_not (pt_val (pe_cG (ok_l_twos_right T) T.d_l_twos_right.b takes0 hg (hr.mono (by decide)) T.d_l_twos_right.m T.d_l_twos_right.F.kp (pa_cons (pv 3) (pa_cons (pv 4) pa_nil))))))))
        (pss_one (ps_ret pe_bl))
        pss_nil)
      (pss_one (ps_if (PW.pt (pw_or (pt_not (pt_val (pe_cG (ok_l_caught T) T.d_l_caught.b takes0 hg (hr.mono (by decide)) T.d_l_caught.m T.d_l_caught.F.kp (pa_cons (pv 2) (pa_cons (pv 4) (pa_cons (pv 3) pa_nil)))))) (pw_or1 (pt_not (pt_val (pe_cG (ok_l_grown_right T) T.d_l_grown_right.b takes0 hg (hr.mono (by decide)) T.d_l_grown_right.m T.d_l_grown_right.F.kp (pa_cons (pv 2) pa_nil)))))))
        (pss_one (ps_ret pe_bl))
        pss_nil))))))
    (pss_one (ps_ret pe_bl)))), ?_⟩
  walk_at "rx"
  intro x hx
  refine ⟨x, T.C_NoStanding, Str.ofString "NoStanding", [], 38, rfl, .inr (.inl ⟨rfl, upd_same⟩), rfl, fun H0 S0 => ⟨true, rfl, ?_⟩⟩
  rw [if_neg (by decide)]
  have T0 := (Same.new (o := exo x T.C_NoStanding none) hx).trans S0
  have lo : ∀ x : Int, 0 ≤ (if (if x < 4 then x else 4) > 2 then (if x < 4 then x else 4) else 2) ∧ (if (if x < 4 then x else 4) > 2 then (if x < 4 then x else 4) else 2) ≤ 4 := fun x => by
    split <;> split <;> omega
  have lo1 := lo ((ns.map V.int).length : Int)
  have ha0 := T0.seq ha
  refine ⟨_, rfl, _, rfl, _, .inl ha0, _, _, rfl, _, _, rfl, _, rfl, Int.le_trans (by decide) lo1.1, Int.lt_of_le_of_lt lo1.2 (by decide), ?_⟩
  refine for_range (fun i σ H' => Same H0 H' ∧ ∃ x y z u, σ = [some (.ref a), x, y, z, u]) ⟨Same.refl _, _, _, _, _, rfl⟩ ?_ ?_
  · rintro i σ H1 hi ⟨S, x, y, z, u, rfl⟩
    have hi' : i < 4 := by
      have h2 := lo1.2
      have h1 := lo1.1
      have h3 : i < (if (if ((ns.map V.int).length : Int) < 4 then ((ns.map V.int).length : Int) else 4) > 2 then (if ((ns.map V.int).length : Int) < 4 then ((ns.map V.int).length : Int) else 4) else 2).toNat := hi
      omega
    walk_at "rx"
    refine ⟨a, ns, _, rfl, L2.Same.seq S ha0, by omega, by omega, fun c H2 S2 => ?_⟩
    refine ⟨c, rfl, fun p H3 hp S3 b3 => ?_⟩
    refine ⟨p, 0, rfl, b3, by decide, fun v1 d1 H4 m1 q1 b4 E4 => ?_⟩
    refine ⟨p, 1, rfl, b4, by decide, fun v2 d2 H5 m2 q2 b5 E5 => ?_⟩
    have q1 := q1.ext E5
    refine ⟨v1, v2, d1, d2, rfl, q1.dv, q2.dv, m1, m2, fun H6 S6 => ⟨true, rfl, ?_⟩⟩
    have back : ∀ F, Ext1 p H3 F → Same H0 F := fun F e b o hb => by
      have z := S2 _ _ (S _ _ hb)
      exact e _ _ (ne_of_none z hp) (S3 _ _ z)
    rw [if_neg (by decide)]
    have q1 := q1.ext (ext_same S6)
    have q2 := q2.ext (ext_same S6)
    refine ⟨v1, v2, d1, d2, rfl, q1.dv, q2.dv, m1, m2, fun H7 S7 => ⟨true, rfl, ?_⟩⟩
    rw [if_neg (by decide)]
    refine ⟨p, v2, v1, d2, d1, 2, rfl, b5.mono (S6.trans S7), by decide, q2.ext (ext_same S7), q1.ext (ext_same S7), m2, m1, fun H8 b8 E8 => ⟨true, rfl, ?_⟩⟩
    rw [if_neg (by decide)]
    refine ⟨p, 3, rfl, b8, by decide, fun H9 b9 E9 => ⟨true, rfl, ?_⟩⟩
    rw [if_neg (by decide)]
    refine ⟨back _ (ext_trans (ext_trans (ext_trans E4 E5) (ext_same (S6.trans S7))) (ext_trans E8 E9)), ?_⟩
    simp
  · rintro σ H1 ⟨S, x, y, z, u, rfl⟩
    walk_at "rx"
    exact k _
end
end K00

namespace K00
open PySem PySem.W PyProof.Rows L2 Nv
theorem all_mk {P : Program} {w : World} {K : PySem.W.Frag} {h : Heap} {mg : Str → Option Value} {fa : Addr} (X : K.In h) (G : h.Ns mainGlobals mg) (hfa : mg "law" = some (.ref fa))
    {C_UnsaidError : Addr} {C_InvalidLine : Addr} {q_E_InvalidLine : Str} {N_E_InvalidLine : Addr} {bs_E_InvalidLine sub_E_InvalidLine : List Value} {sn_E_InvalidLine : List Str} {ab_E_InvalidLine : Bool} {col_E_InvalidLine : Option Bool} {dd_E_InvalidLine : Option Addr} {k0_E_InvalidLine k1_E_InvalidLine k2_E_InvalidLine k3_E_InvalidLine k5_E_InvalidLine : Option Value} {oc_x_InvalidLine : Value} {kV_x_InvalidLine : Value} {dc_x_InvalidLine : Value} {pm_x_InvalidLine : Value} {cd_x_InvalidLine : Value} {ct_x_InvalidLine : Value} {od_x_InvalidLine an_x_InvalidLine : Option Addr} {sl_x_InvalidLine : Array (Option Value)} {f_x_InvalidLine : Addr} {C_InvalidText : Addr} {q_E_InvalidText : Str} {N_E_InvalidText : Addr} {bs_E_InvalidText sub_E_InvalidText : List Value} {sn_E_InvalidText : List Str} {ab_E_InvalidText : Bool} {col_E_InvalidText : Option Bool} {dd_E_InvalidText : Option Addr} {k0_E_InvalidText k1_E_InvalidText k2_E_InvalidText k3_E_InvalidText k5_E_InvalidText : Option Value} {oc_x_InvalidText : Value} {kV_x_InvalidText : Value} {dc_x_InvalidText : Value} {pm_x_InvalidText : Value} {cd_x_InvalidText : Value} {ct_x_InvalidText : Value} {od_x_InvalidText an_x_InvalidText : Option Addr} {sl_x_InvalidText : Array (Option Value)} {f_x_InvalidText : Addr} {C_InvalidCell : Addr} {q_E_InvalidCell : Str} {N_E_InvalidCell : Addr} {bs_E_InvalidCell sub_E_InvalidCell : List Value} {sn_E_InvalidCell : List Str} {ab_E_InvalidCell : Bool} {col_E_InvalidCell : Option Bool} {dd_E_InvalidCell : Option Addr} {k0_E_InvalidCell k1_E_InvalidCell k2_E_InvalidCell k3_E_InvalidCell k5_E_InvalidCell : Option Value} {oc_x_InvalidCell : Value} {kV_x_InvalidCell : Value} {dc_x_InvalidCell : Value} {pm_x_InvalidCell : Value} {cd_x_InvalidCell : Value} {ct_x_InvalidCell : Value} {od_x_InvalidCell an_x_InvalidCell : Option Addr} {sl_x_InvalidCell : Array (Option Value)} {f_x_InvalidCell : Addr} {C_InvalidHouses : Addr} {q_E_InvalidHouses : Str} {N_E_InvalidHouses : Addr} {bs_E_InvalidHouses sub_E_InvalidHouses : List Value} {sn_E_InvalidHouses : List Str} {ab_E_InvalidHouses : Bool} {col_E_InvalidHouses : Option Bool} {dd_E_InvalidHouses : Option Addr} {k0_E_InvalidHouses k1_E_InvalidHouses k2_E_InvalidHouses k3_E_InvalidHouses k5_E_InvalidHouses : Option Value} {oc_x_InvalidHouses : Value} {kV_x_InvalidHouses : Value} {dc_x_InvalidHouses : Value} {pm_x_InvalidHouses : Value} {cd_x_InvalidHouses : Value} {ct_x_InvalidHouses : Value} {od_x_InvalidHouses an_x_InvalidHouses : Option Addr} {sl_x_InvalidHouses : Array (Option Value)} {f_x_InvalidHouses : Addr} {C_InvalidRoads : Addr} {q_E_InvalidRoads : Str} {N_E_InvalidRoads : Addr} {bs_E_InvalidRoads sub_E_InvalidRoads : List Value} {sn_E_InvalidRoads : List Str} {ab_E_InvalidRoads : Bool} {col_E_InvalidRoads : Option Bool} {dd_E_InvalidRoads : Option Addr} {k0_E_InvalidRoads k1_E_InvalidRoads k2_E_InvalidRoads k3_E_InvalidRoads k5_E_InvalidRoads : Option Value} {oc_x_InvalidRoads : Value} {kV_x_InvalidRoads : Value} {dc_x_InvalidRoads : Value} {pm_x_InvalidRoads : Value} {cd_x_InvalidRoads : Value} {ct_x_InvalidRoads : Value} {od_x_InvalidRoads an_x_InvalidRoads : Option Addr} {sl_x_InvalidRoads : Array (Option Value)} {f_x_InvalidRoads : Addr} {C_InvalidHouse : Addr} {q_E_InvalidHouse : Str} {N_E_InvalidHouse : Addr} {bs_E_InvalidHouse sub_E_InvalidHouse : List Value} {sn_E_InvalidHouse : List Str} {ab_E_InvalidHouse : Bool} {col_E_InvalidHouse : Option Bool} {dd_E_InvalidHouse : Option Addr} {k0_E_InvalidHouse k1_E_InvalidHouse k2_E_InvalidHouse k3_E_InvalidHouse k5_E_InvalidHouse : Option Value} {oc_x_InvalidHouse : Value} {kV_x_InvalidHouse : Value} {dc_x_InvalidHouse : Value} {pm_x_InvalidHouse : Value} {cd_x_InvalidHouse : Value} {ct_x_InvalidHouse : Value} {od_x_InvalidHouse an_x_InvalidHouse : Option Addr} {sl_x_InvalidHouse : Array (Option Value)} {f_x_InvalidHouse : Addr} {C_InvalidSigns : Addr} {q_E_InvalidSigns : Str} {N_E_InvalidSigns : Addr} {bs_E_InvalidSigns sub_E_InvalidSigns : List Value} {sn_E_InvalidSigns : List Str} {ab_E_InvalidSigns : Bool} {col_E_InvalidSigns : Option Bool} {dd_E_InvalidSigns : Option Addr} {k0_E_InvalidSigns k1_E_InvalidSigns k2_E_InvalidSigns k3_E_InvalidSigns k5_E_InvalidSigns : Option Value} {oc_x_InvalidSigns : Value} {kV_x_InvalidSigns : Value} {dc_x_InvalidSigns : Value} {pm_x_InvalidSigns : Value} {cd_x_InvalidSigns : Value} {ct_x_InvalidSigns : Value} {od_x_InvalidSigns an_x_InvalidSigns : Option Addr} {sl_x_InvalidSigns : Array (Option Value)} {f_x_InvalidSigns : Addr} {C_InvalidCount : Addr} {q_E_InvalidCount : Str} {N_E_InvalidCount : Addr} {bs_E_InvalidCount sub_E_InvalidCount : List Value} {sn_E_InvalidCount : List Str} {ab_E_InvalidCount : Bool} {col_E_InvalidCount : Option Bool} {dd_E_InvalidCount : Option Addr} {k0_E_InvalidCount k1_E_InvalidCount k2_E_InvalidCount k3_E_InvalidCount k5_E_InvalidCount : Option Value} {oc_x_InvalidCount : Value} {kV_x_InvalidCount : Value} {dc_x_InvalidCount : Value} {pm_x_InvalidCount : Value} {cd_x_InvalidCount : Value} {ct_x_InvalidCount : Value} {od_x_InvalidCount an_x_InvalidCount : Option Addr} {sl_x_InvalidCount : Array (Option Value)} {f_x_InvalidCount : Addr} {C_InvalidLines : Addr} {q_E_InvalidLines : Str} {N_E_InvalidLines : Addr} {bs_E_InvalidLines sub_E_InvalidLines : List Value} {sn_E_InvalidLines : List Str} {ab_E_InvalidLines : Bool} {col_E_InvalidLines : Option Bool} {dd_E_InvalidLines : Option Addr} {k0_E_InvalidLines k1_E_InvalidLines k2_E_InvalidLines k3_E_InvalidLines k5_E_InvalidLines : Option Value} {oc_x_InvalidLines : Value} {kV_x_InvalidLines : Value} {dc_x_InvalidLines : Value} {pm_x_InvalidLines : Value} {cd_x_InvalidLines : Value} {ct_x_InvalidLines : Value} {od_x_InvalidLines an_x_InvalidLines : Option Addr} {sl_x_InvalidLines : Array (Option Value)} {f_x_InvalidLines : Addr} {C_InvalidScript : Addr} {q_E_InvalidScript : Str} {N_E_InvalidScript : Addr} {bs_E_InvalidScript sub_E_InvalidScript : List Value} {sn_E_InvalidScript : List Str} {ab_E_InvalidScript : Bool} {col_E_InvalidScript : Option Bool} {dd_E_InvalidScript : Option Addr} {k0_E_InvalidScript k1_E_InvalidScript k2_E_InvalidScript k3_E_InvalidScript k5_E_InvalidScript : Option Value} {oc_x_InvalidScript : Value} {kV_x_InvalidScript : Value} {dc_x_InvalidScript : Value} {pm_x_InvalidScript : Value} {cd_x_InvalidScript : Value} {ct_x_InvalidScript : Value} {od_x_InvalidScript an_x_InvalidScript : Option Addr} {sl_x_InvalidScript : Array (Option Value)} {f_x_InvalidScript : Addr} {C_InvalidRows : Addr} {q_E_InvalidRows : Str} {N_E_InvalidRows : Addr} {bs_E_InvalidRows sub_E_InvalidRows : List Value} {sn_E_InvalidRows : List Str} {ab_E_InvalidRows : Bool} {col_E_InvalidRows : Option Bool} {dd_E_InvalidRows : Option Addr} {k0_E_InvalidRows k1_E_InvalidRows k2_E_InvalidRows k3_E_InvalidRows k5_E_InvalidRows : Option Value} {oc_x_InvalidRows : Value} {kV_x_InvalidRows : Value} {dc_x_InvalidRows : Value} {pm_x_InvalidRows : Value} {cd_x_InvalidRows : Value} {ct_x_InvalidRows : Value} {od_x_InvalidRows an_x_InvalidRows : Option Addr} {sl_x_InvalidRows : Array (Option Value)} {f_x_InvalidRows : Addr} {C_InvalidLater : Addr} {q_E_InvalidLater : Str} {N_E_InvalidLater : Addr} {bs_E_InvalidLater sub_E_InvalidLater : List Value} {sn_E_InvalidLater : List Str} {ab_E_InvalidLater : Bool} {col_E_InvalidLater : Option Bool} {dd_E_InvalidLater : Option Addr} {k0_E_InvalidLater k1_E_InvalidLater k2_E_InvalidLater k3_E_InvalidLater k5_E_InvalidLater : Option Value} {oc_x_InvalidLater : Value} {kV_x_InvalidLater : Value} {dc_x_InvalidLater : Value} {pm_x_InvalidLater : Value} {cd_x_InvalidLater : Value} {ct_x_InvalidLater : Value} {od_x_InvalidLater an_x_InvalidLater : Option Addr} {sl_x_InvalidLater : Array (Option Value)} {f_x_InvalidLater : Addr} {C_InvalidKey : Addr} {q_E_InvalidKey : Str} {N_E_InvalidKey : Addr} {bs_E_InvalidKey sub_E_InvalidKey : List Value} {sn_E_InvalidKey : List Str} {ab_E_InvalidKey : Bool} {col_E_InvalidKey : Option Bool} {dd_E_InvalidKey : Option Addr} {k0_E_InvalidKey k1_E_InvalidKey k2_E_InvalidKey k3_E_InvalidKey k5_E_InvalidKey : Option Value} {oc_x_InvalidKey : Value} {kV_x_InvalidKey : Value} {dc_x_InvalidKey : Value} {pm_x_InvalidKey : Value} {cd_x_InvalidKey : Value} {ct_x_InvalidKey : Value} {od_x_InvalidKey an_x_InvalidKey : Option Addr} {sl_x_InvalidKey : Array (Option Value)} {f_x_InvalidKey : Addr} {C_InvalidLife : Addr} {q_E_InvalidLife : Str} {N_E_InvalidLife : Addr} {bs_E_InvalidLife sub_E_InvalidLife : List Value} {sn_E_InvalidLife : List Str} {ab_E_InvalidLife : Bool} {col_E_InvalidLife : Option Bool} {dd_E_InvalidLife : Option Addr} {k0_E_InvalidLife k1_E_InvalidLife k2_E_InvalidLife k3_E_InvalidLife k5_E_InvalidLife : Option Value} {oc_x_InvalidLife : Value} {kV_x_InvalidLife : Value} {dc_x_InvalidLife : Value} {pm_x_InvalidLife : Value} {cd_x_InvalidLife : Value} {ct_x_InvalidLife : Value} {od_x_InvalidLife an_x_InvalidLife : Option Addr} {sl_x_InvalidLife : Array (Option Value)} {f_x_InvalidLife : Addr} {C_InvalidLetter : Addr} {q_E_InvalidLetter : Str} {N_E_InvalidLetter : Addr} {bs_E_InvalidLetter sub_E_InvalidLetter : List Value} {sn_E_InvalidLetter : List Str} {ab_E_InvalidLetter : Bool} {col_E_InvalidLetter : Option Bool} {dd_E_InvalidLetter : Option Addr} {k0_E_InvalidLetter k1_E_InvalidLetter k2_E_InvalidLetter k3_E_InvalidLetter k5_E_InvalidLetter : Option Value} {oc_x_InvalidLetter : Value} {kV_x_InvalidLetter : Value} {dc_x_InvalidLetter : Value} {pm_x_InvalidLetter : Value} {cd_x_InvalidLetter : Value} {ct_x_InvalidLetter : Value} {od_x_InvalidLetter an_x_InvalidLetter : Option Addr} {sl_x_InvalidLetter : Array (Option Value)} {f_x_InvalidLetter : Addr} {C_InvalidActs : Addr} {q_E_InvalidActs : Str} {N_E_InvalidActs : Addr} {bs_E_InvalidActs sub_E_InvalidActs : List Value} {sn_E_InvalidActs : List Str} {ab_E_InvalidActs : Bool} {col_E_InvalidActs : Option Bool} {dd_E_InvalidActs : Option Addr} {k0_E_InvalidActs k1_E_InvalidActs k2_E_InvalidActs k3_E_InvalidActs k5_E_InvalidActs : Option Value} {oc_x_InvalidActs : Value} {kV_x_InvalidActs : Value} {dc_x_InvalidActs : Value} {pm_x_InvalidActs : Value} {cd_x_InvalidActs : Value} {ct_x_InvalidActs : Value} {od_x_InvalidActs an_x_InvalidActs : Option Addr} {sl_x_InvalidActs : Array (Option Value)} {f_x_InvalidActs : Addr} {C_InvalidAct : Addr} {q_E_InvalidAct : Str} {N_E_InvalidAct : Addr} {bs_E_InvalidAct sub_E_InvalidAct : List Value} {sn_E_InvalidAct : List Str} {ab_E_InvalidAct : Bool} {col_E_InvalidAct : Option Bool} {dd_E_InvalidAct : Option Addr} {k0_E_InvalidAct k1_E_InvalidAct k2_E_InvalidAct k3_E_InvalidAct k5_E_InvalidAct : Option Value} {oc_x_InvalidAct : Value} {kV_x_InvalidAct : Value} {dc_x_InvalidAct : Value} {pm_x_InvalidAct : Value} {cd_x_InvalidAct : Value} {ct_x_InvalidAct : Value} {od_x_InvalidAct an_x_InvalidAct : Option Addr} {sl_x_InvalidAct : Array (Option Value)} {f_x_InvalidAct : Addr} {C_InvalidKinds : Addr} {q_E_InvalidKinds : Str} {N_E_InvalidKinds : Addr} {bs_E_InvalidKinds sub_E_InvalidKinds : List Value} {sn_E_InvalidKinds : List Str} {ab_E_InvalidKinds : Bool} {col_E_InvalidKinds : Option Bool} {dd_E_InvalidKinds : Option Addr} {k0_E_InvalidKinds k1_E_InvalidKinds k2_E_InvalidKinds k3_E_InvalidKinds k5_E_InvalidKinds : Option Value} {oc_x_InvalidKinds : Value} {kV_x_InvalidKinds : Value} {dc_x_InvalidKinds : Value} {pm_x_InvalidKinds : Value} {cd_x_InvalidKinds : Value} {ct_x_InvalidKinds : Value} {od_x_InvalidKinds an_x_InvalidKinds : Option Addr} {sl_x_InvalidKinds : Array (Option Value)} {f_x_InvalidKinds : Addr} {C_InvalidIndex : Addr} {q_E_InvalidIndex : Str} {N_E_InvalidIndex : Addr} {bs_E_InvalidIndex sub_E_InvalidIndex : List Value} {sn_E_InvalidIndex : List Str} {ab_E_InvalidIndex : Bool} {col_E_InvalidIndex : Option Bool} {dd_E_InvalidIndex : Option Addr} {k0_E_InvalidIndex k1_E_InvalidIndex k2_E_InvalidIndex k3_E_InvalidIndex k5_E_InvalidIndex : Option Value} {oc_x_InvalidIndex : Value} {kV_x_InvalidIndex : Value} {dc_x_InvalidIndex : Value} {pm_x_InvalidIndex : Value} {cd_x_InvalidIndex : Value} {ct_x_InvalidIndex : Value} {od_x_InvalidIndex an_x_InvalidIndex : Option Addr} {sl_x_InvalidIndex : Array (Option Value)} {f_x_InvalidIndex : Addr} {C_NotJoined : Addr} {q_E_NotJoined : Str} {N_E_NotJoined : Addr} {bs_E_NotJoined sub_E_NotJoined : List Value} {sn_E_NotJoined : List Str} {ab_E_NotJoined : Bool} {col_E_NotJoined : Option Bool} {dd_E_NotJoined : Option Addr} {k0_E_NotJoined k1_E_NotJoined k2_E_NotJoined k3_E_NotJoined k5_E_NotJoined : Option Value} {oc_x_NotJoined : Value} {kV_x_NotJoined : Value} {dc_x_NotJoined : Value} {pm_x_NotJoined : Value} {cd_x_NotJoined : Value} {ct_x_NotJoined : Value} {od_x_NotJoined an_x_NotJoined : Option Addr} {sl_x_NotJoined : Array (Option Value)} {f_x_NotJoined : Addr} {C_Stopped : Addr} {q_E_Stopped : Str} {N_E_Stopped : Addr} {bs_E_Stopped sub_E_Stopped : List Value} {sn_E_Stopped : List Str} {ab_E_Stopped : Bool} {col_E_Stopped : Option Bool} {dd_E_Stopped : Option Addr} {k0_E_Stopped k1_E_Stopped k2_E_Stopped k3_E_Stopped k5_E_Stopped : Option Value} {oc_x_Stopped : Value} {kV_x_Stopped : Value} {dc_x_Stopped : Value} {pm_x_Stopped : Value} {cd_x_Stopped : Value} {ct_x_Stopped : Value} {od_x_Stopped an_x_Stopped : Option Addr} {sl_x_Stopped : Array (Option Value)} {f_x_Stopped : Addr} {C_Faulty : Addr} {q_E_Faulty : Str} {N_E_Faulty : Addr} {bs_E_Faulty sub_E_Faulty : List Value} {sn_E_Faulty : List Str} {ab_E_Faulty : Bool} {col_E_Faulty : Option Bool} {dd_E_Faulty : Option Addr} {k0_E_Faulty k1_E_Faulty k2_E_Faulty k3_E_Faulty k5_E_Faulty : Option Value} {oc_x_Faulty : Value} {kV_x_Faulty : Value} {dc_x_Faulty : Value} {pm_x_Faulty : Value} {cd_x_Faulty : Value} {ct_x_Faulty : Value} {od_x_Faulty an_x_Faulty : Option Addr} {sl_x_Faulty : Array (Option Value)} {f_x_Faulty : Addr} {C_DoNotFit : Addr} {q_E_DoNotFit : Str} {N_E_DoNotFit : Addr} {bs_E_DoNotFit sub_E_DoNotFit : List Value} {sn_E_DoNotFit : List Str} {ab_E_DoNotFit : Bool} {col_E_DoNotFit : Option Bool} {dd_E_DoNotFit : Option Addr} {k0_E_DoNotFit k1_E_DoNotFit k2_E_DoNotFit k3_E_DoNotFit k5_E_DoNotFit : Option Value} {oc_x_DoNotFit : Value} {kV_x_DoNotFit : Value} {dc_x_DoNotFit : Value} {pm_x_DoNotFit : Value} {cd_x_DoNotFit : Value} {ct_x_DoNotFit : Value} {od_x_DoNotFit an_x_DoNotFit : Option Addr} {sl_x_DoNotFit : Array (Option Value)} {f_x_DoNotFit : Addr} {C_SameKey : Addr} {q_E_SameKey : Str} {N_E_SameKey : Addr} {bs_E_SameKey sub_E_SameKey : List Value} {sn_E_SameKey : List Str} {ab_E_SameKey : Bool} {col_E_SameKey : Option Bool} {dd_E_SameKey : Option Addr} {k0_E_SameKey k1_E_SameKey k2_E_SameKey k3_E_SameKey k5_E_SameKey : Option Value} {oc_x_SameKey : Value} {kV_x_SameKey : Value} {dc_x_SameKey : Value} {pm_x_SameKey : Value} {cd_x_SameKey : Value} {ct_x_SameKey : Value} {od_x_SameKey an_x_SameKey : Option Addr} {sl_x_SameKey : Array (Option Value)} {f_x_SameKey : Addr} {C_NotHeld : Addr} {q_E_NotHeld : Str} {N_E_NotHeld : Addr} {bs_E_NotHeld sub_E_NotHeld : List Value} {sn_E_NotHeld : List Str} {ab_E_NotHeld : Bool} {col_E_NotHeld : Option Bool} {dd_E_NotHeld : Option Addr} {k0_E_NotHeld k1_E_NotHeld k2_E_NotHeld k3_E_NotHeld k5_E_NotHeld : Option Value} {oc_x_NotHeld : Value} {kV_x_NotHeld : Value} {dc_x_NotHeld : Value} {pm_x_NotHeld : Value} {cd_x_NotHeld : Value} {ct_x_NotHeld : Value} {od_x_NotHeld an_x_NotHeld : Option Addr} {sl_x_NotHeld : Array (Option Value)} {f_x_NotHeld : Addr} {C_Held : Addr} {q_E_Held : Str} {N_E_Held : Addr} {bs_E_Held sub_E_Held : List Value} {sn_E_Held : List Str} {ab_E_Held : Bool} {col_E_Held : Option Bool} {dd_E_Held : Option Addr} {k0_E_Held k1_E_Held k2_E_Held k3_E_Held k5_E_Held : Option Value} {oc_x_Held : Value} {kV_x_Held : Value} {dc_x_Held : Value} {pm_x_Held : Value} {cd_x_Held : Value} {ct_x_Held : Value} {od_x_Held an_x_Held : Option Addr} {sl_x_Held : Array (Option Value)} {f_x_Held : Addr} {C_TooMany : Addr} {q_E_TooMany : Str} {N_E_TooMany : Addr} {bs_E_TooMany sub_E_TooMany : List Value} {sn_E_TooMany : List Str} {ab_E_TooMany : Bool} {col_E_TooMany : Option Bool} {dd_E_TooMany : Option Addr} {k0_E_TooMany k1_E_TooMany k2_E_TooMany k3_E_TooMany k5_E_TooMany : Option Value} {oc_x_TooMany : Value} {kV_x_TooMany : Value} {dc_x_TooMany : Value} {pm_x_TooMany : Value} {cd_x_TooMany : Value} {ct_x_TooMany : Value} {od_x_TooMany an_x_TooMany : Option Addr} {sl_x_TooMany : Array (Option Value)} {f_x_TooMany : Addr} {C_NotStanding : Addr} {q_E_NotStanding : Str} {N_E_NotStanding : Addr} {bs_E_NotStanding sub_E_NotStanding : List Value} {sn_E_NotStanding : List Str} {ab_E_NotStanding : Bool} {col_E_NotStanding : Option Bool} {dd_E_NotStanding : Option Addr} {k0_E_NotStanding k1_E_NotStanding k2_E_NotStanding k3_E_NotStanding k5_E_NotStanding : Option Value} {oc_x_NotStanding : Value} {kV_x_NotStanding : Value} {dc_x_NotStanding : Value} {pm_x_NotStanding : Value} {cd_x_NotStanding : Value} {ct_x_NotStanding : Value} {od_x_NotStanding an_x_NotStanding : Option Addr} {sl_x_NotStanding : Array (Option Value)} {f_x_NotStanding : Addr} {C_Down : Addr} {q_E_Down : Str} {N_E_Down : Addr} {bs_E_Down sub_E_Down : List Value} {sn_E_Down : List Str} {ab_E_Down : Bool} {col_E_Down : Option Bool} {dd_E_Down : Option Addr} {k0_E_Down k1_E_Down k2_E_Down k3_E_Down k5_E_Down : Option Value} {oc_x_Down : Value} {kV_x_Down : Value} {dc_x_Down : Value} {pm_x_Down : Value} {cd_x_Down : Value} {ct_x_Down : Value} {od_x_Down an_x_Down : Option Addr} {sl_x_Down : Array (Option Value)} {f_x_Down : Addr} {C_Up : Addr} {q_E_Up : Str} {N_E_Up : Addr} {bs_E_Up sub_E_Up : List Value} {sn_E_Up : List Str} {ab_E_Up : Bool} {col_E_Up : Option Bool} {dd_E_Up : Option Addr} {k0_E_Up k1_E_Up k2_E_Up k3_E_Up k5_E_Up : Option Value} {oc_x_Up : Value} {kV_x_Up : Value} {dc_x_Up : Value} {pm_x_Up : Value} {cd_x_Up : Value} {ct_x_Up : Value} {od_x_Up an_x_Up : Option Addr} {sl_x_Up : Array (Option Value)} {f_x_Up : Addr} {C_NoLetter : Addr} {q_E_NoLetter : Str} {N_E_NoLetter : Addr} {bs_E_NoLetter sub_E_NoLetter : List Value} {sn_E_NoLetter : List Str} {ab_E_NoLetter : Bool} {col_E_NoLetter : Option Bool} {dd_E_NoLetter : Option Addr} {k0_E_NoLetter k1_E_NoLetter k2_E_NoLetter k3_E_NoLetter k5_E_NoLetter : Option Value} {oc_x_NoLetter : Value} {kV_x_NoLetter : Value} {dc_x_NoLetter : Value} {pm_x_NoLetter : Value} {cd_x_NoLetter : Value} {ct_x_NoLetter : Value} {od_x_NoLetter an_x_NoLetter : Option Addr} {sl_x_NoLetter : Array (Option Value)} {f_x_NoLetter : Addr} {C_Refused : Addr} {q_E_Refused : Str} {N_E_Refused : Addr} {bs_E_Refused sub_E_Refused : List Value} {sn_E_Refused : List Str} {ab_E_Refused : Bool} {col_E_Refused : Option Bool} {dd_E_Refused : Option Addr} {k0_E_Refused k1_E_Refused k2_E_Refused k3_E_Refused k5_E_Refused : Option Value} {oc_x_Refused : Value} {kV_x_Refused : Value} {dc_x_Refused : Value} {pm_x_Refused : Value} {cd_x_Refused : Value} {ct_x_Refused : Value} {od_x_Refused an_x_Refused : Option Addr} {sl_x_Refused : Array (Option Value)} {f_x_Refused : Addr} {C_NotWhole : Addr} {q_E_NotWhole : Str} {N_E_NotWhole : Addr} {bs_E_NotWhole sub_E_NotWhole : List Value} {sn_E_NotWhole : List Str} {ab_E_NotWhole : Bool} {col_E_NotWhole : Option Bool} {dd_E_NotWhole : Option Addr} {k0_E_NotWhole k1_E_NotWhole k2_E_NotWhole k3_E_NotWhole k5_E_NotWhole : Option Value} {oc_x_NotWhole : Value} {kV_x_NotWhole : Value} {dc_x_NotWhole : Value} {pm_x_NotWhole : Value} {cd_x_NotWhole : Value} {ct_x_NotWhole : Value} {od_x_NotWhole an_x_NotWhole : Option Addr} {sl_x_NotWhole : Array (Option Value)} {f_x_NotWhole : Addr} {C_Turned : Addr} {q_E_Turned : Str} {N_E_Turned : Addr} {bs_E_Turned sub_E_Turned : List Value} {sn_E_Turned : List Str} {ab_E_Turned : Bool} {col_E_Turned : Option Bool} {dd_E_Turned : Option Addr} {k0_E_Turned k1_E_Turned k2_E_Turned k3_E_Turned k5_E_Turned : Option Value} {oc_x_Turned : Value} {kV_x_Turned : Value} {dc_x_Turned : Value} {pm_x_Turned : Value} {cd_x_Turned : Value} {ct_x_Turned : Value} {od_x_Turned an_x_Turned : Option Addr} {sl_x_Turned : Array (Option Value)} {f_x_Turned : Addr} {C_NotARoad : Addr} {q_E_NotARoad : Str} {N_E_NotARoad : Addr} {bs_E_NotARoad sub_E_NotARoad : List Value} {sn_E_NotARoad : List Str} {ab_E_NotARoad : Bool} {col_E_NotARoad : Option Bool} {dd_E_NotARoad : Option Addr} {k0_E_NotARoad k1_E_NotARoad k2_E_NotARoad k3_E_NotARoad k5_E_NotARoad : Option Value} {oc_x_NotARoad : Value} {kV_x_NotARoad : Value} {dc_x_NotARoad : Value} {pm_x_NotARoad : Value} {cd_x_NotARoad : Value} {ct_x_NotARoad : Value} {od_x_NotARoad an_x_NotARoad : Option Addr} {sl_x_NotARoad : Array (Option Value)} {f_x_NotARoad : Addr} {C_NothingUnderWay : Addr} {q_E_NothingUnderWay : Str} {N_E_NothingUnderWay : Addr} {bs_E_NothingUnderWay sub_E_NothingUnderWay : List Value} {sn_E_NothingUnderWay : List Str} {ab_E_NothingUnderWay : Bool} {col_E_NothingUnderWay : Option Bool} {dd_E_NothingUnderWay : Option Addr} {k0_E_NothingUnderWay k1_E_NothingUnderWay k2_E_NothingUnderWay k3_E_NothingUnderWay k5_E_NothingUnderWay : Option Value} {oc_x_NothingUnderWay : Value} {kV_x_NothingUnderWay : Value} {dc_x_NothingUnderWay : Value} {pm_x_NothingUnderWay : Value} {cd_x_NothingUnderWay : Value} {ct_x_NothingUnderWay : Value} {od_x_NothingUnderWay an_x_NothingUnderWay : Option Addr} {sl_x_NothingUnderWay : Array (Option Value)} {f_x_NothingUnderWay : Addr} {C_NotAhead : Addr} {q_E_NotAhead : Str} {N_E_NotAhead : Addr} {bs_E_NotAhead sub_E_NotAhead : List Value} {sn_E_NotAhead : List Str} {ab_E_NotAhead : Bool} {col_E_NotAhead : Option Bool} {dd_E_NotAhead : Option Addr} {k0_E_NotAhead k1_E_NotAhead k2_E_NotAhead k3_E_NotAhead k5_E_NotAhead : Option Value} {oc_x_NotAhead : Value} {kV_x_NotAhead : Value} {dc_x_NotAhead : Value} {pm_x_NotAhead : Value} {cd_x_NotAhead : Value} {ct_x_NotAhead : Value} {od_x_NotAhead an_x_NotAhead : Option Addr} {sl_x_NotAhead : Array (Option Value)} {f_x_NotAhead : Addr} {C_SurelyAhead : Addr} {q_E_SurelyAhead : Str} {N_E_SurelyAhead : Addr} {bs_E_SurelyAhead sub_E_SurelyAhead : List Value} {sn_E_SurelyAhead : List Str} {ab_E_SurelyAhead : Bool} {col_E_SurelyAhead : Option Bool} {dd_E_SurelyAhead : Option Addr} {k0_E_SurelyAhead k1_E_SurelyAhead k2_E_SurelyAhead k3_E_SurelyAhead k5_E_SurelyAhead : Option Value} {oc_x_SurelyAhead : Value} {kV_x_SurelyAhead : Value} {dc_x_SurelyAhead : Value} {pm_x_SurelyAhead : Value} {cd_x_SurelyAhead : Value} {ct_x_SurelyAhead : Value} {od_x_SurelyAhead an_x_SurelyAhead : Option Addr} {sl_x_SurelyAhead : Array (Option Value)} {f_x_SurelyAhead : Addr} {C_NoStanding : Addr} {q_n_NoStanding : Str} {N_n_NoStanding : Addr} {bs_n_NoStanding sub_n_NoStanding : List Value} {sn_n_NoStanding : List Str} {ab_n_NoStanding : Bool} {col_n_NoStanding : Option Bool} {dd_n_NoStanding : Option Addr} {k0_n_NoStanding k1_n_NoStanding k2_n_NoStanding k3_n_NoStanding k5_n_NoStanding : Option Value} {nm_u_UnsaidError q_u_UnsaidError : Str} {N_u_UnsaidError : Addr} {bs_u_UnsaidError sub_u_UnsaidError : List Value} {sn_u_UnsaidError : List Str} {ab_u_UnsaidError : Bool} {col_u_UnsaidError : Option Bool} {dd_u_UnsaidError : Option Addr} {k0_u_UnsaidError k1_u_UnsaidError k2_u_UnsaidError k3_u_UnsaidError k5_u_UnsaidError : Option Value} {oc_d_l_cell : Value} {kV_d_l_cell : Value} {dc_d_l_cell : Value} {pm_d_l_cell : Value} {cd_d_l_cell : Value} {ct_d_l_cell : Value} {od_d_l_cell an_d_l_cell : Option Addr} {sl_d_l_cell : Array (Option Value)} {f_d_l_cell : Addr} {oc_d_l_box : Value} {kV_d_l_box : Value} {dc_d_l_box : Value} {pm_d_l_box : Value} {cd_d_l_box : Value} {ct_d_l_box : Value} {od_d_l_box an_d_l_box : Option Addr} {sl_d_l_box : Array (Option Value)} {f_d_l_box : Addr} {oc_d_l_take : Value} {kV_d_l_take : Value} {dc_d_l_take : Value} {pm_d_l_take : Value} {cd_d_l_take : Value} {ct_d_l_take : Value} {od_d_l_take an_d_l_take : Option Addr} {sl_d_l_take : Array (Option Value)} {f_d_l_take : Addr} {oc_d_l_by_place : Value} {kV_d_l_by_place : Value} {dc_d_l_by_place : Value} {pm_d_l_by_place : Value} {cd_d_l_by_place : Value} {ct_d_l_by_place : Value} {od_d_l_by_place an_d_l_by_place : Option Addr} {sl_d_l_by_place : Array (Option Value)} {f_d_l_by_place : Addr} {oc_d_l_by_name : Value} {kV_d_l_by_name : Value} {dc_d_l_by_name : Value} {pm_d_l_by_name : Value} {cd_d_l_by_name : Value} {ct_d_l_by_name : Value} {od_d_l_by_name an_d_l_by_name : Option Addr} {sl_d_l_by_name : Array (Option Value)} {f_d_l_by_name : Addr} {oc_d_l_pairs : Value} {kV_d_l_pairs : Value} {dc_d_l_pairs : Value} {pm_d_l_pairs : Value} {cd_d_l_pairs : Value} {ct_d_l_pairs : Value} {od_d_l_pairs an_d_l_pairs : Option Addr} {sl_d_l_pairs : Array (Option Value)} {f_d_l_pairs : Addr} {oc_d_l_sorts : Value} {kV_d_l_sorts : Value} {dc_d_l_sorts : Value} {pm_d_l_sorts : Value} {cd_d_l_sorts : Value} {ct_d_l_sorts : Value} {od_d_l_sorts an_d_l_sorts : Option Addr} {sl_d_l_sorts : Array (Option Value)} {f_d_l_sorts : Addr} {oc_d_l_is : Value} {kV_d_l_is : Value} {dc_d_l_is : Value} {pm_d_l_is : Value} {cd_d_l_is : Value} {ct_d_l_is : Value} {od_d_l_is an_d_l_is : Option Addr} {sl_d_l_is : Array (Option Value)} {f_d_l_is : Addr} {oc_d_l_kept : Value} {kV_d_l_kept : Value} {dc_d_l_kept : Value} {pm_d_l_kept : Value} {cd_d_l_kept : Value} {ct_d_l_kept : Value} {od_d_l_kept an_d_l_kept : Option Addr} {sl_d_l_kept : Array (Option Value)} {f_d_l_kept : Addr} {oc_d_l_two_kept : Value} {kV_d_l_two_kept : Value} {dc_d_l_two_kept : Value} {pm_d_l_two_kept : Value} {cd_d_l_two_kept : Value} {ct_d_l_two_kept : Value} {od_d_l_two_kept an_d_l_two_kept : Option Addr} {sl_d_l_two_kept : Array (Option Value)} {f_d_l_two_kept : Addr} {oc_d_l_thing : Value} {kV_d_l_thing : Value} {dc_d_l_thing : Value} {pm_d_l_thing : Value} {cd_d_l_thing : Value} {ct_d_l_thing : Value} {od_d_l_thing an_d_l_thing : Option Addr} {sl_d_l_thing : Array (Option Value)} {f_d_l_thing : Addr} {oc_d_l_caught : Value} {kV_d_l_caught : Value} {dc_d_l_caught : Value} {pm_d_l_caught : Value} {cd_d_l_caught : Value} {ct_d_l_caught : Value} {od_d_l_caught an_d_l_caught : Option Addr} {sl_d_l_caught : Array (Option Value)} {f_d_l_caught : Addr} {oc_d_l_ones_right : Value} {kV_d_l_ones_right : Value} {dc_d_l_ones_right : Value} {pm_d_l_ones_right : Value} {cd_d_l_ones_right : Value} {ct_d_l_ones_right : Value} {od_d_l_ones_right an_d_l_ones_right : Option Addr} {sl_d_l_ones_right : Array (Option Value)} {f_d_l_ones_right : Addr} {oc_d_l_twos_right : Value} {kV_d_l_twos_right : Value} {dc_d_l_twos_right : Value} {pm_d_l_twos_right : Value} {cd_d_l_twos_right : Value} {ct_d_l_twos_right : Value} {od_d_l_twos_right an_d_l_twos_right : Option Addr} {sl_d_l_twos_right : Array (Option Value)} {f_d_l_twos_right : Addr} {oc_d_l_grown_right : Value} {kV_d_l_grown_right : Value} {dc_d_l_grown_right : Value} {pm_d_l_grown_right : Value} {cd_d_l_grown_right : Value} {ct_d_l_grown_right : Value} {od_d_l_grown_right an_d_l_grown_right : Option Addr} {sl_d_l_grown_right : Array (Option Value)} {f_d_l_grown_right : Addr} {oc_d_law : Value} {kV_d_law : Value} {dc_d_law : Value} {pm_d_law : Value} {cd_d_law : Value} {ct_d_law : Value} {od_d_law an_d_law : Option Addr} {sl_d_law : Array (Option Value)} {f_d_law : Addr}
    (g_E_InvalidLine : PySem.W.nsIn K mainGlobals "InvalidLine" = some (some (.ref C_InvalidLine)))
    (g_E_InvalidText : PySem.W.nsIn K mainGlobals "InvalidText" = some (some (.ref C_InvalidText)))
    (g_E_InvalidCell : PySem.W.nsIn K mainGlobals "InvalidCell" = some (some (.ref C_InvalidCell)))
    (g_E_InvalidHouses : PySem.W.nsIn K mainGlobals "InvalidHouses" = some (some (.ref C_InvalidHouses)))
    (g_E_InvalidRoads : PySem.W.nsIn K mainGlobals "InvalidRoads" = some (some (.ref C_InvalidRoads)))
    (g_E_InvalidHouse : PySem.W.nsIn K mainGlobals "InvalidHouse" = some (some (.ref C_InvalidHouse)))
    (g_E_InvalidSigns : PySem.W.nsIn K mainGlobals "InvalidSigns" = some (some (.ref C_InvalidSigns)))
    (g_E_InvalidCount : PySem.W.nsIn K mainGlobals "InvalidCount" = some (some (.ref C_InvalidCount)))
    (g_E_InvalidLines : PySem.W.nsIn K mainGlobals "InvalidLines" = some (some (.ref C_InvalidLines)))
    (g_E_InvalidScript : PySem.W.nsIn K mainGlobals "InvalidScript" = some (some (.ref C_InvalidScript)))
    (g_E_InvalidRows : PySem.W.nsIn K mainGlobals "InvalidRows" = some (some (.ref C_InvalidRows)))
    (g_E_InvalidLater : PySem.W.nsIn K mainGlobals "InvalidLater" = some (some (.ref C_InvalidLater)))
    (g_E_InvalidKey : PySem.W.nsIn K mainGlobals "InvalidKey" = some (some (.ref C_InvalidKey)))
    (g_E_InvalidLife : PySem.W.nsIn K mainGlobals "InvalidLife" = some (some (.ref C_InvalidLife)))
    (g_E_InvalidLetter : PySem.W.nsIn K mainGlobals "InvalidLetter" = some (some (.ref C_InvalidLetter)))
    (g_E_InvalidActs : PySem.W.nsIn K mainGlobals "InvalidActs" = some (some (.ref C_InvalidActs)))
    (g_E_InvalidAct : PySem.W.nsIn K mainGlobals "InvalidAct" = some (some (.ref C_InvalidAct)))
    (g_E_InvalidKinds : PySem.W.nsIn K mainGlobals "InvalidKinds" = some (some (.ref C_InvalidKinds)))
    (g_E_InvalidIndex : PySem.W.nsIn K mainGlobals "InvalidIndex" = some (some (.ref C_InvalidIndex)))
    (g_E_NotJoined : PySem.W.nsIn K mainGlobals "NotJoined" = some (some (.ref C_NotJoined)))
    (g_E_Stopped : PySem.W.nsIn K mainGlobals "Stopped" = some (some (.ref C_Stopped)))
    (g_E_Faulty : PySem.W.nsIn K mainGlobals "Faulty" = some (some (.ref C_Faulty)))
    (g_E_DoNotFit : PySem.W.nsIn K mainGlobals "DoNotFit" = some (some (.ref C_DoNotFit)))
    (g_E_SameKey : PySem.W.nsIn K mainGlobals "SameKey" = some (some (.ref C_SameKey)))
    (g_E_NotHeld : PySem.W.nsIn K mainGlobals "NotHeld" = some (some (.ref C_NotHeld)))
    (g_E_Held : PySem.W.nsIn K mainGlobals "Held" = some (some (.ref C_Held)))
    (g_E_TooMany : PySem.W.nsIn K mainGlobals "TooMany" = some (some (.ref C_TooMany)))
    (g_E_NotStanding : PySem.W.nsIn K mainGlobals "NotStanding" = some (some (.ref C_NotStanding)))
    (g_E_Down : PySem.W.nsIn K mainGlobals "Down" = some (some (.ref C_Down)))
    (g_E_Up : PySem.W.nsIn K mainGlobals "Up" = some (some (.ref C_Up)))
    (g_E_NoLetter : PySem.W.nsIn K mainGlobals "NoLetter" = some (some (.ref C_NoLetter)))
    (g_E_Refused : PySem.W.nsIn K mainGlobals "Refused" = some (some (.ref C_Refused)))
    (g_E_NotWhole : PySem.W.nsIn K mainGlobals "NotWhole" = some (some (.ref C_NotWhole)))
    (g_E_Turned : PySem.W.nsIn K mainGlobals "Turned" = some (some (.ref C_Turned)))
    (g_E_NotARoad : PySem.W.nsIn K mainGlobals "NotARoad" = some (some (.ref C_NotARoad)))
    (g_E_NothingUnderWay : PySem.W.nsIn K mainGlobals "NothingUnderWay" = some (some (.ref C_NothingUnderWay)))
    (g_E_NotAhead : PySem.W.nsIn K mainGlobals "NotAhead" = some (some (.ref C_NotAhead)))
    (g_E_SurelyAhead : PySem.W.nsIn K mainGlobals "SurelyAhead" = some (some (.ref C_SurelyAhead)))
    (g_m_NoStanding : PySem.W.nsIn K mainGlobals "NoStanding" = some (some (.ref C_NoStanding)))
    (g_m_UnsaidError : PySem.W.nsIn K mainGlobals "UnsaidError" = some (some (.ref C_UnsaidError)))
    (a_x_InvalidLine : PySem.W.findIn K (.ref C_InvalidLine) "__init__" = some (some (.ref f_x_InvalidLine)))
    (a_x_InvalidText : PySem.W.findIn K (.ref C_InvalidText) "__init__" = some (some (.ref f_x_InvalidText)))
    (a_x_InvalidCell : PySem.W.findIn K (.ref C_InvalidCell) "__init__" = some (some (.ref f_x_InvalidCell)))
    (a_x_InvalidHouses : PySem.W.findIn K (.ref C_InvalidHouses) "__init__" = some (some (.ref f_x_InvalidHouses)))
    (a_x_InvalidRoads : PySem.W.findIn K (.ref C_InvalidRoads) "__init__" = some (some (.ref f_x_InvalidRoads)))
    (a_x_InvalidHouse : PySem.W.findIn K (.ref C_InvalidHouse) "__init__" = some (some (.ref f_x_InvalidHouse)))
    (a_x_InvalidSigns : PySem.W.findIn K (.ref C_InvalidSigns) "__init__" = some (some (.ref f_x_InvalidSigns)))
    (a_x_InvalidCount : PySem.W.findIn K (.ref C_InvalidCount) "__init__" = some (some (.ref f_x_InvalidCount)))
    (a_x_InvalidLines : PySem.W.findIn K (.ref C_InvalidLines) "__init__" = some (some (.ref f_x_InvalidLines)))
    (a_x_InvalidScript : PySem.W.findIn K (.ref C_InvalidScript) "__init__" = some (some (.ref f_x_InvalidScript)))
    (a_x_InvalidRows : PySem.W.findIn K (.ref C_InvalidRows) "__init__" = some (some (.ref f_x_InvalidRows)))
    (a_x_InvalidLater : PySem.W.findIn K (.ref C_InvalidLater) "__init__" = some (some (.ref f_x_InvalidLater)))
    (a_x_InvalidKey : PySem.W.findIn K (.ref C_InvalidKey) "__init__" = some (some (.ref f_x_InvalidKey)))
    (a_x_InvalidLife : PySem.W.findIn K (.ref C_InvalidLife) "__init__" = some (some (.ref f_x_InvalidLife)))
    (a_x_InvalidLetter : PySem.W.findIn K (.ref C_InvalidLetter) "__init__" = some (some (.ref f_x_InvalidLetter)))
    (a_x_InvalidActs : PySem.W.findIn K (.ref C_InvalidActs) "__init__" = some (some (.ref f_x_InvalidActs)))
    (a_x_InvalidAct : PySem.W.findIn K (.ref C_InvalidAct) "__init__" = some (some (.ref f_x_InvalidAct)))
    (a_x_InvalidKinds : PySem.W.findIn K (.ref C_InvalidKinds) "__init__" = some (some (.ref f_x_InvalidKinds)))
    (a_x_InvalidIndex : PySem.W.findIn K (.ref C_InvalidIndex) "__init__" = some (some (.ref f_x_InvalidIndex)))
    (a_x_NotJoined : PySem.W.findIn K (.ref C_NotJoined) "__init__" = some (some (.ref f_x_NotJoined)))
    (a_x_Stopped : PySem.W.findIn K (.ref C_Stopped) "__init__" = some (some (.ref f_x_Stopped)))
    (a_x_Faulty : PySem.W.findIn K (.ref C_Faulty) "__init__" = some (some (.ref f_x_Faulty)))
    (a_x_DoNotFit : PySem.W.findIn K (.ref C_DoNotFit) "__init__" = some (some (.ref f_x_DoNotFit)))
    (a_x_SameKey : PySem.W.findIn K (.ref C_SameKey) "__init__" = some (some (.ref f_x_SameKey)))
    (a_x_NotHeld : PySem.W.findIn K (.ref C_NotHeld) "__init__" = some (some (.ref f_x_NotHeld)))
    (a_x_Held : PySem.W.findIn K (.ref C_Held) "__init__" = some (some (.ref f_x_Held)))
    (a_x_TooMany : PySem.W.findIn K (.ref C_TooMany) "__init__" = some (some (.ref f_x_TooMany)))
    (a_x_NotStanding : PySem.W.findIn K (.ref C_NotStanding) "__init__" = some (some (.ref f_x_NotStanding)))
    (a_x_Down : PySem.W.findIn K (.ref C_Down) "__init__" = some (some (.ref f_x_Down)))
    (a_x_Up : PySem.W.findIn K (.ref C_Up) "__init__" = some (some (.ref f_x_Up)))
    (a_x_NoLetter : PySem.W.findIn K (.ref C_NoLetter) "__init__" = some (some (.ref f_x_NoLetter)))
    (a_x_Refused : PySem.W.findIn K (.ref C_Refused) "__init__" = some (some (.ref f_x_Refused)))
    (a_x_NotWhole : PySem.W.findIn K (.ref C_NotWhole) "__init__" = some (some (.ref f_x_NotWhole)))
    (a_x_Turned : PySem.W.findIn K (.ref C_Turned) "__init__" = some (some (.ref f_x_Turned)))
    (a_x_NotARoad : PySem.W.findIn K (.ref C_NotARoad) "__init__" = some (some (.ref f_x_NotARoad)))
    (a_x_NothingUnderWay : PySem.W.findIn K (.ref C_NothingUnderWay) "__init__" = some (some (.ref f_x_NothingUnderWay)))
    (a_x_NotAhead : PySem.W.findIn K (.ref C_NotAhead) "__init__" = some (some (.ref f_x_NotAhead)))
    (a_x_SurelyAhead : PySem.W.findIn K (.ref C_SurelyAhead) "__init__" = some (some (.ref f_x_SurelyAhead)))
    (a_d_l_cell : PySem.W.nsIn K mainGlobals "_law_cell" = some (some (.ref f_d_l_cell)))
    (a_d_l_box : PySem.W.nsIn K mainGlobals "_law_box" = some (some (.ref f_d_l_box)))
    (a_d_l_take : PySem.W.nsIn K mainGlobals "_law_take" = some (some (.ref f_d_l_take)))
    (a_d_l_by_place : PySem.W.nsIn K mainGlobals "_law_by_place" = some (some (.ref f_d_l_by_place)))
    (a_d_l_by_name : PySem.W.nsIn K mainGlobals "_law_by_name" = some (some (.ref f_d_l_by_name)))
    (a_d_l_pairs : PySem.W.nsIn K mainGlobals "_law_pairs" = some (some (.ref f_d_l_pairs)))
    (a_d_l_sorts : PySem.W.nsIn K mainGlobals "_law_sorts" = some (some (.ref f_d_l_sorts)))
    (a_d_l_is : PySem.W.nsIn K mainGlobals "_law_is" = some (some (.ref f_d_l_is)))
    (a_d_l_kept : PySem.W.nsIn K mainGlobals "_law_kept" = some (some (.ref f_d_l_kept)))
    (a_d_l_two_kept : PySem.W.nsIn K mainGlobals "_law_two_kept" = some (some (.ref f_d_l_two_kept)))
    (a_d_l_thing : PySem.W.nsIn K mainGlobals "_law_thing" = some (some (.ref f_d_l_thing)))
    (a_d_l_caught : PySem.W.nsIn K mainGlobals "_law_caught" = some (some (.ref f_d_l_caught)))
    (a_d_l_ones_right : PySem.W.nsIn K mainGlobals "_law_ones_right" = some (some (.ref f_d_l_ones_right)))
    (a_d_l_twos_right : PySem.W.nsIn K mainGlobals "_law_twos_right" = some (some (.ref f_d_l_twos_right)))
    (a_d_l_grown_right : PySem.W.nsIn K mainGlobals "_law_grown_right" = some (some (.ref f_d_l_grown_right)))
    (a_d_law : PySem.W.nsIn K mainGlobals "law" = some (some (.ref f_d_law)))
    (l_x_InvalidLine : K.lookup f_x_InvalidLine = some ⟨oc_x_InvalidLine, od_x_InvalidLine, .func (PySem.W.fnOf "__init__" "InvalidLine.__init__" (defArgs s_InvalidLine_init) (defBody s_InvalidLine_init) (defScope s_InvalidLine_init) .none kV_x_InvalidLine dc_x_InvalidLine pm_x_InvalidLine an_x_InvalidLine cd_x_InvalidLine ct_x_InvalidLine), sl_x_InvalidLine⟩)
    (l_x_InvalidText : K.lookup f_x_InvalidText = some ⟨oc_x_InvalidText, od_x_InvalidText, .func (PySem.W.fnOf "__init__" "InvalidText.__init__" (defArgs s_InvalidText_init) (defBody s_InvalidText_init) (defScope s_InvalidText_init) .none kV_x_InvalidText dc_x_InvalidText pm_x_InvalidText an_x_InvalidText cd_x_InvalidText ct_x_InvalidText), sl_x_InvalidText⟩)
    (l_x_InvalidCell : K.lookup f_x_InvalidCell = some ⟨oc_x_InvalidCell, od_x_InvalidCell, .func (PySem.W.fnOf "__init__" "InvalidCell.__init__" (defArgs s_InvalidCell_init) (defBody s_InvalidCell_init) (defScope s_InvalidCell_init) .none kV_x_InvalidCell dc_x_InvalidCell pm_x_InvalidCell an_x_InvalidCell cd_x_InvalidCell ct_x_InvalidCell), sl_x_InvalidCell⟩)
    (l_x_InvalidHouses : K.lookup f_x_InvalidHouses = some ⟨oc_x_InvalidHouses, od_x_InvalidHouses, .func (PySem.W.fnOf "__init__" "InvalidHouses.__init__" (defArgs s_InvalidHouses_init) (defBody s_InvalidHouses_init) (defScope s_InvalidHouses_init) .none kV_x_InvalidHouses dc_x_InvalidHouses pm_x_InvalidHouses an_x_InvalidHouses cd_x_InvalidHouses ct_x_InvalidHouses), sl_x_InvalidHouses⟩)
    (l_x_InvalidRoads : K.lookup f_x_InvalidRoads = some ⟨oc_x_InvalidRoads, od_x_InvalidRoads, .func (PySem.W.fnOf "__init__" "InvalidRoads.__init__" (defArgs s_InvalidRoads_init) (defBody s_InvalidRoads_init) (defScope s_InvalidRoads_init) .none kV_x_InvalidRoads dc_x_InvalidRoads pm_x_InvalidRoads an_x_InvalidRoads cd_x_InvalidRoads ct_x_InvalidRoads), sl_x_InvalidRoads⟩)
    (l_x_InvalidHouse : K.lookup f_x_InvalidHouse = some ⟨oc_x_InvalidHouse, od_x_InvalidHouse, .func (PySem.W.fnOf "__init__" "InvalidHouse.__init__" (defArgs s_InvalidHouse_init) (defBody s_InvalidHouse_init) (defScope s_InvalidHouse_init) .none kV_x_InvalidHouse dc_x_InvalidHouse pm_x_InvalidHouse an_x_InvalidHouse cd_x_InvalidHouse ct_x_InvalidHouse), sl_x_InvalidHouse⟩)
    (l_x_InvalidSigns : K.lookup f_x_InvalidSigns = some ⟨oc_x_InvalidSigns, od_x_InvalidSigns, .func (PySem.W.fnOf "__init__" "InvalidSigns.__init__" (defArgs s_InvalidSigns_init) (defBody s_InvalidSigns_init) (defScope s_InvalidSigns_init) .none kV_x_InvalidSigns dc_x_InvalidSigns pm_x_InvalidSigns an_x_InvalidSigns cd_x_InvalidSigns ct_x_InvalidSigns), sl_x_InvalidSigns⟩)
    (l_x_InvalidCount : K.lookup f_x_InvalidCount = some ⟨oc_x_InvalidCount, od_x_InvalidCount, .func (PySem.W.fnOf "__init__" "InvalidCount.__init__" (defArgs s_InvalidCount_init) (defBody s_InvalidCount_init) (defScope s_InvalidCount_init) .none kV_x_InvalidCount dc_x_InvalidCount pm_x_InvalidCount an_x_InvalidCount cd_x_InvalidCount ct_x_InvalidCount), sl_x_InvalidCount⟩)
    (l_x_InvalidLines : K.lookup f_x_InvalidLines = some ⟨oc_x_InvalidLines, od_x_InvalidLines, .func (PySem.W.fnOf "__init__" "InvalidLines.__init__" (defArgs s_InvalidLines_init) (defBody s_InvalidLines_init) (defScope s_InvalidLines_init) .none kV_x_InvalidLines dc_x_InvalidLines pm_x_InvalidLines an_x_InvalidLines cd_x_InvalidLines ct_x_InvalidLines), sl_x_InvalidLines⟩)
    (l_x_InvalidScript : K.lookup f_x_InvalidScript = some ⟨oc_x_InvalidScript, od_x_InvalidScript, .func (PySem.W.fnOf "__init__" "InvalidScript.__init__" (defArgs s_InvalidScript_init) (defBody s_InvalidScript_init) (defScope s_InvalidScript_init) .none kV_x_InvalidScript dc_x_InvalidScript pm_x_InvalidScript an_x_InvalidScript cd_x_InvalidScript ct_x_InvalidScript), sl_x_InvalidScript⟩)
    (l_x_InvalidRows : K.lookup f_x_InvalidRows = some ⟨oc_x_InvalidRows, od_x_InvalidRows, .func (PySem.W.fnOf "__init__" "InvalidRows.__init__" (defArgs s_InvalidRows_init) (defBody s_InvalidRows_init) (defScope s_InvalidRows_init) .none kV_x_InvalidRows dc_x_InvalidRows pm_x_InvalidRows an_x_InvalidRows cd_x_InvalidRows ct_x_InvalidRows), sl_x_InvalidRows⟩)
    (l_x_InvalidLater : K.lookup f_x_InvalidLater = some ⟨oc_x_InvalidLater, od_x_InvalidLater, .func (PySem.W.fnOf "__init__" "InvalidLater.__init__" (defArgs s_InvalidLater_init) (defBody s_InvalidLater_init) (defScope s_InvalidLater_init) .none kV_x_InvalidLater dc_x_InvalidLater pm_x_InvalidLater an_x_InvalidLater cd_x_InvalidLater ct_x_InvalidLater), sl_x_InvalidLater⟩)
    (l_x_InvalidKey : K.lookup f_x_InvalidKey = some ⟨oc_x_InvalidKey, od_x_InvalidKey, .func (PySem.W.fnOf "__init__" "InvalidKey.__init__" (defArgs s_InvalidKey_init) (defBody s_InvalidKey_init) (defScope s_InvalidKey_init) .none kV_x_InvalidKey dc_x_InvalidKey pm_x_InvalidKey an_x_InvalidKey cd_x_InvalidKey ct_x_InvalidKey), sl_x_InvalidKey⟩)
    (l_x_InvalidLife : K.lookup f_x_InvalidLife = some ⟨oc_x_InvalidLife, od_x_InvalidLife, .func (PySem.W.fnOf "__init__" "InvalidLife.__init__" (defArgs s_InvalidLife_init) (defBody s_InvalidLife_init) (defScope s_InvalidLife_init) .none kV_x_InvalidLife dc_x_InvalidLife pm_x_InvalidLife an_x_InvalidLife cd_x_InvalidLife ct_x_InvalidLife), sl_x_InvalidLife⟩)
    (l_x_InvalidLetter : K.lookup f_x_InvalidLetter = some ⟨oc_x_InvalidLetter, od_x_InvalidLetter, .func (PySem.W.fnOf "__init__" "InvalidLetter.__init__" (defArgs s_InvalidLetter_init) (defBody s_InvalidLetter_init) (defScope s_InvalidLetter_init) .none kV_x_InvalidLetter dc_x_InvalidLetter pm_x_InvalidLetter an_x_InvalidLetter cd_x_InvalidLetter ct_x_InvalidLetter), sl_x_InvalidLetter⟩)
    (l_x_InvalidActs : K.lookup f_x_InvalidActs = some ⟨oc_x_InvalidActs, od_x_InvalidActs, .func (PySem.W.fnOf "__init__" "InvalidActs.__init__" (defArgs s_InvalidActs_init) (defBody s_InvalidActs_init) (defScope s_InvalidActs_init) .none kV_x_InvalidActs dc_x_InvalidActs pm_x_InvalidActs an_x_InvalidActs cd_x_InvalidActs ct_x_InvalidActs), sl_x_InvalidActs⟩)
    (l_x_InvalidAct : K.lookup f_x_InvalidAct = some ⟨oc_x_InvalidAct, od_x_InvalidAct, .func (PySem.W.fnOf "__init__" "InvalidAct.__init__" (defArgs s_InvalidAct_init) (defBody s_InvalidAct_init) (defScope s_InvalidAct_init) .none kV_x_InvalidAct dc_x_InvalidAct pm_x_InvalidAct an_x_InvalidAct cd_x_InvalidAct ct_x_InvalidAct), sl_x_InvalidAct⟩)
    (l_x_InvalidKinds : K.lookup f_x_InvalidKinds = some ⟨oc_x_InvalidKinds, od_x_InvalidKinds, .func (PySem.W.fnOf "__init__" "InvalidKinds.__init__" (defArgs s_InvalidKinds_init) (defBody s_InvalidKinds_init) (defScope s_InvalidKinds_init) .none kV_x_InvalidKinds dc_x_InvalidKinds pm_x_InvalidKinds an_x_InvalidKinds cd_x_InvalidKinds ct_x_InvalidKinds), sl_x_InvalidKinds⟩)
    (l_x_InvalidIndex : K.lookup f_x_InvalidIndex = some ⟨oc_x_InvalidIndex, od_x_InvalidIndex, .func (PySem.W.fnOf "__init__" "InvalidIndex.__init__" (defArgs s_InvalidIndex_init) (defBody s_InvalidIndex_init) (defScope s_InvalidIndex_init) .none kV_x_InvalidIndex dc_x_InvalidIndex pm_x_InvalidIndex an_x_InvalidIndex cd_x_InvalidIndex ct_x_InvalidIndex), sl_x_InvalidIndex⟩)
    (l_x_NotJoined : K.lookup f_x_NotJoined = some ⟨oc_x_NotJoined, od_x_NotJoined, .func (PySem.W.fnOf "__init__" "NotJoined.__init__" (defArgs s_NotJoined_init) (defBody s_NotJoined_init) (defScope s_NotJoined_init) .none kV_x_NotJoined dc_x_NotJoined pm_x_NotJoined an_x_NotJoined cd_x_NotJoined ct_x_NotJoined), sl_x_NotJoined⟩)
    (l_x_Stopped : K.lookup f_x_Stopped = some ⟨oc_x_Stopped, od_x_Stopped, .func (PySem.W.fnOf "__init__" "Stopped.__init__" (defArgs s_Stopped_init) (defBody s_Stopped_init) (defScope s_Stopped_init) .none kV_x_Stopped dc_x_Stopped pm_x_Stopped an_x_Stopped cd_x_Stopped ct_x_Stopped), sl_x_Stopped⟩)
    (l_x_Faulty : K.lookup f_x_Faulty = some ⟨oc_x_Faulty, od_x_Faulty, .func (PySem.W.fnOf "__init__" "Faulty.__init__" (defArgs s_Faulty_init) (defBody s_Faulty_init) (defScope s_Faulty_init) .none kV_x_Faulty dc_x_Faulty pm_x_Faulty an_x_Faulty cd_x_Faulty ct_x_Faulty), sl_x_Faulty⟩)
    (l_x_DoNotFit : K.lookup f_x_DoNotFit = some ⟨oc_x_DoNotFit, od_x_DoNotFit, .func (PySem.W.fnOf "__init__" "DoNotFit.__init__" (defArgs s_DoNotFit_init) (defBody s_DoNotFit_init) (defScope s_DoNotFit_init) .none kV_x_DoNotFit dc_x_DoNotFit pm_x_DoNotFit an_x_DoNotFit cd_x_DoNotFit ct_x_DoNotFit), sl_x_DoNotFit⟩)
    (l_x_SameKey : K.lookup f_x_SameKey = some ⟨oc_x_SameKey, od_x_SameKey, .func (PySem.W.fnOf "__init__" "SameKey.__init__" (defArgs s_SameKey_init) (defBody s_SameKey_init) (defScope s_SameKey_init) .none kV_x_SameKey dc_x_SameKey pm_x_SameKey an_x_SameKey cd_x_SameKey ct_x_SameKey), sl_x_SameKey⟩)
    (l_x_NotHeld : K.lookup f_x_NotHeld = some ⟨oc_x_NotHeld, od_x_NotHeld, .func (PySem.W.fnOf "__init__" "NotHeld.__init__" (defArgs s_NotHeld_init) (defBody s_NotHeld_init) (defScope s_NotHeld_init) .none kV_x_NotHeld dc_x_NotHeld pm_x_NotHeld an_x_NotHeld cd_x_NotHeld ct_x_NotHeld), sl_x_NotHeld⟩)
    (l_x_Held : K.lookup f_x_Held = some ⟨oc_x_Held, od_x_Held, .func (PySem.W.fnOf "__init__" "Held.__init__" (defArgs s_Held_init) (defBody s_Held_init) (defScope s_Held_init) .none kV_x_Held dc_x_Held pm_x_Held an_x_Held cd_x_Held ct_x_Held), sl_x_Held⟩)
    (l_x_TooMany : K.lookup f_x_TooMany = some ⟨oc_x_TooMany, od_x_TooMany, .func (PySem.W.fnOf "__init__" "TooMany.__init__" (defArgs s_TooMany_init) (defBody s_TooMany_init) (defScope s_TooMany_init) .none kV_x_TooMany dc_x_TooMany pm_x_TooMany an_x_TooMany cd_x_TooMany ct_x_TooMany), sl_x_TooMany⟩)
    (l_x_NotStanding : K.lookup f_x_NotStanding = some ⟨oc_x_NotStanding, od_x_NotStanding, .func (PySem.W.fnOf "__init__" "NotStanding.__init__" (defArgs s_NotStanding_init) (defBody s_NotStanding_init) (defScope s_NotStanding_init) .none kV_x_NotStanding dc_x_NotStanding pm_x_NotStanding an_x_NotStanding cd_x_NotStanding ct_x_NotStanding), sl_x_NotStanding⟩)
    (l_x_Down : K.lookup f_x_Down = some ⟨oc_x_Down, od_x_Down, .func (PySem.W.fnOf "__init__" "Down.__init__" (defArgs s_Down_init) (defBody s_Down_init) (defScope s_Down_init) .none kV_x_Down dc_x_Down pm_x_Down an_x_Down cd_x_Down ct_x_Down), sl_x_Down⟩)
    (l_x_Up : K.lookup f_x_Up = some ⟨oc_x_Up, od_x_Up, .func (PySem.W.fnOf "__init__" "Up.__init__" (defArgs s_Up_init) (defBody s_Up_init) (defScope s_Up_init) .none kV_x_Up dc_x_Up pm_x_Up an_x_Up cd_x_Up ct_x_Up), sl_x_Up⟩)
    (l_x_NoLetter : K.lookup f_x_NoLetter = some ⟨oc_x_NoLetter, od_x_NoLetter, .func (PySem.W.fnOf "__init__" "NoLetter.__init__" (defArgs s_NoLetter_init) (defBody s_NoLetter_init) (defScope s_NoLetter_init) .none kV_x_NoLetter dc_x_NoLetter pm_x_NoLetter an_x_NoLetter cd_x_NoLetter ct_x_NoLetter), sl_x_NoLetter⟩)
    (l_x_Refused : K.lookup f_x_Refused = some ⟨oc_x_Refused, od_x_Refused, .func (PySem.W.fnOf "__init__" "Refused.__init__" (defArgs s_Refused_init) (defBody s_Refused_init) (defScope s_Refused_init) .none kV_x_Refused dc_x_Refused pm_x_Refused an_x_Refused cd_x_Refused ct_x_Refused), sl_x_Refused⟩)
    (l_x_NotWhole : K.lookup f_x_NotWhole = some ⟨oc_x_NotWhole, od_x_NotWhole, .func (PySem.W.fnOf "__init__" "NotWhole.__init__" (defArgs s_NotWhole_init) (defBody s_NotWhole_init) (defScope s_NotWhole_init) .none kV_x_NotWhole dc_x_NotWhole pm_x_NotWhole an_x_NotWhole cd_x_NotWhole ct_x_NotWhole), sl_x_NotWhole⟩)
    (l_x_Turned : K.lookup f_x_Turned = some ⟨oc_x_Turned, od_x_Turned, .func (PySem.W.fnOf "__init__" "Turned.__init__" (defArgs s_Turned_init) (defBody s_Turned_init) (defScope s_Turned_init) .none kV_x_Turned dc_x_Turned pm_x_Turned an_x_Turned cd_x_Turned ct_x_Turned), sl_x_Turned⟩)
    (l_x_NotARoad : K.lookup f_x_NotARoad = some ⟨oc_x_NotARoad, od_x_NotARoad, .func (PySem.W.fnOf "__init__" "NotARoad.__init__" (defArgs s_NotARoad_init) (defBody s_NotARoad_init) (defScope s_NotARoad_init) .none kV_x_NotARoad dc_x_NotARoad pm_x_NotARoad an_x_NotARoad cd_x_NotARoad ct_x_NotARoad), sl_x_NotARoad⟩)
    (l_x_NothingUnderWay : K.lookup f_x_NothingUnderWay = some ⟨oc_x_NothingUnderWay, od_x_NothingUnderWay, .func (PySem.W.fnOf "__init__" "NothingUnderWay.__init__" (defArgs s_NothingUnderWay_init) (defBody s_NothingUnderWay_init) (defScope s_NothingUnderWay_init) .none kV_x_NothingUnderWay dc_x_NothingUnderWay pm_x_NothingUnderWay an_x_NothingUnderWay cd_x_NothingUnderWay ct_x_NothingUnderWay), sl_x_NothingUnderWay⟩)
    (l_x_NotAhead : K.lookup f_x_NotAhead = some ⟨oc_x_NotAhead, od_x_NotAhead, .func (PySem.W.fnOf "__init__" "NotAhead.__init__" (defArgs s_NotAhead_init) (defBody s_NotAhead_init) (defScope s_NotAhead_init) .none kV_x_NotAhead dc_x_NotAhead pm_x_NotAhead an_x_NotAhead cd_x_NotAhead ct_x_NotAhead), sl_x_NotAhead⟩)
    (l_x_SurelyAhead : K.lookup f_x_SurelyAhead = some ⟨oc_x_SurelyAhead, od_x_SurelyAhead, .func (PySem.W.fnOf "__init__" "SurelyAhead.__init__" (defArgs s_SurelyAhead_init) (defBody s_SurelyAhead_init) (defScope s_SurelyAhead_init) .none kV_x_SurelyAhead dc_x_SurelyAhead pm_x_SurelyAhead an_x_SurelyAhead cd_x_SurelyAhead ct_x_SurelyAhead), sl_x_SurelyAhead⟩)
    (l_d_l_cell : K.lookup f_d_l_cell = some ⟨oc_d_l_cell, od_d_l_cell, .func (PySem.W.fnOf "_law_cell" "_law_cell" (defArgs s_l_cell) (defBody s_l_cell) (defScope s_l_cell) .none kV_d_l_cell dc_d_l_cell pm_d_l_cell an_d_l_cell cd_d_l_cell ct_d_l_cell), sl_d_l_cell⟩)
    (l_d_l_box : K.lookup f_d_l_box = some ⟨oc_d_l_box, od_d_l_box, .func (PySem.W.fnOf "_law_box" "_law_box" (defArgs s_l_box) (defBody s_l_box) (defScope s_l_box) .none kV_d_l_box dc_d_l_box pm_d_l_box an_d_l_box cd_d_l_box ct_d_l_box), sl_d_l_box⟩)
    (l_d_l_take : K.lookup f_d_l_take = some ⟨oc_d_l_take, od_d_l_take, .func (PySem.W.fnOf "_law_take" "_law_take" (defArgs s_l_take) (defBody s_l_take) (defScope s_l_take) .none kV_d_l_take dc_d_l_take pm_d_l_take an_d_l_take cd_d_l_take ct_d_l_take), sl_d_l_take⟩)
    (l_d_l_by_place : K.lookup f_d_l_by_place = some ⟨oc_d_l_by_place, od_d_l_by_place, .func (PySem.W.fnOf "_law_by_place" "_law_by_place" (defArgs s_l_by_place) (defBody s_l_by_place) (defScope s_l_by_place) .none kV_d_l_by_place dc_d_l_by_place pm_d_l_by_place an_d_l_by_place cd_d_l_by_place ct_d_l_by_place), sl_d_l_by_place⟩)
    (l_d_l_by_name : K.lookup f_d_l_by_name = some ⟨oc_d_l_by_name, od_d_l_by_name, .func (PySem.W.fnOf "_law_by_name" "_law_by_name" (defArgs s_l_by_name) (defBody s_l_by_name) (defScope s_l_by_name) .none kV_d_l_by_name dc_d_l_by_name pm_d_l_by_name an_d_l_by_name cd_d_l_by_name ct_d_l_by_name), sl_d_l_by_name⟩)
    (l_d_l_pairs : K.lookup f_d_l_pairs = some ⟨oc_d_l_pairs, od_d_l_pairs, .func (PySem.W.fnOf "_law_pairs" "_law_pairs" (defArgs s_l_pairs) (defBody s_l_pairs) (defScope s_l_pairs) .none kV_d_l_pairs dc_d_l_pairs pm_d_l_pairs an_d_l_pairs cd_d_l_pairs ct_d_l_pairs), sl_d_l_pairs⟩)
    (l_d_l_sorts : K.lookup f_d_l_sorts = some ⟨oc_d_l_sorts, od_d_l_sorts, .func (PySem.W.fnOf "_law_sorts" "_law_sorts" (defArgs s_l_sorts) (defBody s_l_sorts) (defScope s_l_sorts) .none kV_d_l_sorts dc_d_l_sorts pm_d_l_sorts an_d_l_sorts cd_d_l_sorts ct_d_l_sorts), sl_d_l_sorts⟩)
    (l_d_l_is : K.lookup f_d_l_is = some ⟨oc_d_l_is, od_d_l_is, .func (PySem.W.fnOf "_law_is" "_law_is" (defArgs s_l_is) (defBody s_l_is) (defScope s_l_is) .none kV_d_l_is dc_d_l_is pm_d_l_is an_d_l_is cd_d_l_is ct_d_l_is), sl_d_l_is⟩)
    (l_d_l_kept : K.lookup f_d_l_kept = some ⟨oc_d_l_kept, od_d_l_kept, .func (PySem.W.fnOf "_law_kept" "_law_kept" (defArgs s_l_kept) (defBody s_l_kept) (defScope s_l_kept) .none kV_d_l_kept dc_d_l_kept pm_d_l_kept an_d_l_kept cd_d_l_kept ct_d_l_kept), sl_d_l_kept⟩)
    (l_d_l_two_kept : K.lookup f_d_l_two_kept = some ⟨oc_d_l_two_kept, od_d_l_two_kept, .func (PySem.W.fnOf "_law_two_kept" "_law_two_kept" (defArgs s_l_two_kept) (defBody s_l_two_kept) (defScope s_l_two_kept) .none kV_d_l_two_kept dc_d_l_two_kept pm_d_l_two_kept an_d_l_two_kept cd_d_l_two_kept ct_d_l_two_kept), sl_d_l_two_kept⟩)
    (l_d_l_thing : K.lookup f_d_l_thing = some ⟨oc_d_l_thing, od_d_l_thing, .func (PySem.W.fnOf "_law_thing" "_law_thing" (defArgs s_l_thing) (defBody s_l_thing) (defScope s_l_thing) .none kV_d_l_thing dc_d_l_thing pm_d_l_thing an_d_l_thing cd_d_l_thing ct_d_l_thing), sl_d_l_thing⟩)
    (l_d_l_caught : K.lookup f_d_l_caught = some ⟨oc_d_l_caught, od_d_l_caught, .func (PySem.W.fnOf "_law_caught" "_law_caught" (defArgs s_l_caught) (defBody s_l_caught) (defScope s_l_caught) .none kV_d_l_caught dc_d_l_caught pm_d_l_caught an_d_l_caught cd_d_l_caught ct_d_l_caught), sl_d_l_caught⟩)
    (l_d_l_ones_right : K.lookup f_d_l_ones_right = some ⟨oc_d_l_ones_right, od_d_l_ones_right, .func (PySem.W.fnOf "_law_ones_right" "_law_ones_right" (defArgs s_l_ones_right) (defBody s_l_ones_right) (defScope s_l_ones_right) .none kV_d_l_ones_right dc_d_l_ones_right pm_d_l_ones_right an_d_l_ones_right cd_d_l_ones_right ct_d_l_ones_right), sl_d_l_ones_right⟩)
    (l_d_l_twos_right : K.lookup f_d_l_twos_right = some ⟨oc_d_l_twos_right, od_d_l_twos_right, .func (PySem.W.fnOf "_law_twos_right" "_law_twos_right" (defArgs s_l_twos_right) (defBody s_l_twos_right) (defScope s_l_twos_right) .none kV_d_l_twos_right dc_d_l_twos_right pm_d_l_twos_right an_d_l_twos_right cd_d_l_twos_right ct_d_l_twos_right), sl_d_l_twos_right⟩)
    (l_d_l_grown_right : K.lookup f_d_l_grown_right = some ⟨oc_d_l_grown_right, od_d_l_grown_right, .func (PySem.W.fnOf "_law_grown_right" "_law_grown_right" (defArgs s_l_grown_right) (defBody s_l_grown_right) (defScope s_l_grown_right) .none kV_d_l_grown_right dc_d_l_grown_right pm_d_l_grown_right an_d_l_grown_right cd_d_l_grown_right ct_d_l_grown_right), sl_d_l_grown_right⟩)
    (l_d_law : K.lookup f_d_law = some ⟨oc_d_law, od_d_law, .func (PySem.W.fnOf "law" "law" (defArgs s_law) (defBody s_law) (defScope s_law) .none kV_d_law dc_d_law pm_d_law an_d_law cd_d_law ct_d_law), sl_d_law⟩)
    (xl_E_InvalidLine : K.lookup C_InvalidLine = some (excClassObj "InvalidLine" q_E_InvalidLine C_InvalidLine N_E_InvalidLine bs_E_InvalidLine [.ref C_UnsaidError, .type "ValueError", .type "Exception", .type "BaseException", .type "object"] true sn_E_InvalidLine sub_E_InvalidLine ab_E_InvalidLine col_E_InvalidLine dd_E_InvalidLine k0_E_InvalidLine k1_E_InvalidLine k2_E_InvalidLine k3_E_InvalidLine k5_E_InvalidLine "ValueError.__new__"))
    (xl_E_InvalidText : K.lookup C_InvalidText = some (excClassObj "InvalidText" q_E_InvalidText C_InvalidText N_E_InvalidText bs_E_InvalidText [.ref C_UnsaidError, .type "ValueError", .type "Exception", .type "BaseException", .type "object"] true sn_E_InvalidText sub_E_InvalidText ab_E_InvalidText col_E_InvalidText dd_E_InvalidText k0_E_InvalidText k1_E_InvalidText k2_E_InvalidText k3_E_InvalidText k5_E_InvalidText "ValueError.__new__"))
    (xl_E_InvalidCell : K.lookup C_InvalidCell = some (excClassObj "InvalidCell" q_E_InvalidCell C_InvalidCell N_E_InvalidCell bs_E_InvalidCell [.ref C_UnsaidError, .type "ValueError", .type "Exception", .type "BaseException", .type "object"] true sn_E_InvalidCell sub_E_InvalidCell ab_E_InvalidCell col_E_InvalidCell dd_E_InvalidCell k0_E_InvalidCell k1_E_InvalidCell k2_E_InvalidCell k3_E_InvalidCell k5_E_InvalidCell "ValueError.__new__"))
    (xl_E_InvalidHouses : K.lookup C_InvalidHouses = some (excClassObj "InvalidHouses" q_E_InvalidHouses C_InvalidHouses N_E_InvalidHouses bs_E_InvalidHouses [.ref C_UnsaidError, .type "ValueError", .type "Exception", .type "BaseException", .type "object"] true sn_E_InvalidHouses sub_E_InvalidHouses ab_E_InvalidHouses col_E_InvalidHouses dd_E_InvalidHouses k0_E_InvalidHouses k1_E_InvalidHouses k2_E_InvalidHouses k3_E_InvalidHouses k5_E_InvalidHouses "ValueError.__new__"))
    (xl_E_InvalidRoads : K.lookup C_InvalidRoads = some (excClassObj "InvalidRoads" q_E_InvalidRoads C_InvalidRoads N_E_InvalidRoads bs_E_InvalidRoads [.ref C_UnsaidError, .type "ValueError", .type "Exception", .type "BaseException", .type "object"] true sn_E_InvalidRoads sub_E_InvalidRoads ab_E_InvalidRoads col_E_InvalidRoads dd_E_InvalidRoads k0_E_InvalidRoads k1_E_InvalidRoads k2_E_InvalidRoads k3_E_InvalidRoads k5_E_InvalidRoads "ValueError.__new__"))
    (xl_E_InvalidHouse : K.lookup C_InvalidHouse = some (excClassObj "InvalidHouse" q_E_InvalidHouse C_InvalidHouse N_E_InvalidHouse bs_E_InvalidHouse [.ref C_UnsaidError, .type "ValueError", .type "Exception", .type "BaseException", .type "object"] true sn_E_InvalidHouse sub_E_InvalidHouse ab_E_InvalidHouse col_E_InvalidHouse dd_E_InvalidHouse k0_E_InvalidHouse k1_E_InvalidHouse k2_E_InvalidHouse k3_E_InvalidHouse k5_E_InvalidHouse "ValueError.__new__"))
    (xl_E_InvalidSigns : K.lookup C_InvalidSigns = some (excClassObj "InvalidSigns" q_E_InvalidSigns C_InvalidSigns N_E_InvalidSigns bs_E_InvalidSigns [.ref C_UnsaidError, .type "ValueError", .type "Exception", .type "BaseException", .type "object"] true sn_E_InvalidSigns sub_E_InvalidSigns ab_E_InvalidSigns col_E_InvalidSigns dd_E_InvalidSigns k0_E_InvalidSigns k1_E_InvalidSigns k2_E_InvalidSigns k3_E_InvalidSigns k5_E_InvalidSigns "ValueError.__new__"))
    (xl_E_InvalidCount : K.lookup C_InvalidCount = some (excClassObj "InvalidCount" q_E_InvalidCount C_InvalidCount N_E_InvalidCount bs_E_InvalidCount [.ref C_UnsaidError, .type "ValueError", .type "Exception", .type "BaseException", .type "object"] true sn_E_InvalidCount sub_E_InvalidCount ab_E_InvalidCount col_E_InvalidCount dd_E_InvalidCount k0_E_InvalidCount k1_E_InvalidCount k2_E_InvalidCount k3_E_InvalidCount k5_E_InvalidCount "ValueError.__new__"))
    (xl_E_InvalidLines : K.lookup C_InvalidLines = some (excClassObj "InvalidLines" q_E_InvalidLines C_InvalidLines N_E_InvalidLines bs_E_InvalidLines [.ref C_UnsaidError, .type "ValueError", .type "Exception", .type "BaseException", .type "object"] true sn_E_InvalidLines sub_E_InvalidLines ab_E_InvalidLines col_E_InvalidLines dd_E_InvalidLines k0_E_InvalidLines k1_E_InvalidLines k2_E_InvalidLines k3_E_InvalidLines k5_E_InvalidLines "ValueError.__new__"))
    (xl_E_InvalidScript : K.lookup C_InvalidScript = some (excClassObj "InvalidScript" q_E_InvalidScript C_InvalidScript N_E_InvalidScript bs_E_InvalidScript [.ref C_UnsaidError, .type "ValueError", .type "Exception", .type "BaseException", .type "object"] true sn_E_InvalidScript sub_E_InvalidScript ab_E_InvalidScript col_E_InvalidScript dd_E_InvalidScript k0_E_InvalidScript k1_E_InvalidScript k2_E_InvalidScript k3_E_InvalidScript k5_E_InvalidScript "ValueError.__new__"))
    (xl_E_InvalidRows : K.lookup C_InvalidRows = some (excClassObj "InvalidRows" q_E_InvalidRows C_InvalidRows N_E_InvalidRows bs_E_InvalidRows [.ref C_UnsaidError, .type "ValueError", .type "Exception", .type "BaseException", .type "object"] true sn_E_InvalidRows sub_E_InvalidRows ab_E_InvalidRows col_E_InvalidRows dd_E_InvalidRows k0_E_InvalidRows k1_E_InvalidRows k2_E_InvalidRows k3_E_InvalidRows k5_E_InvalidRows "ValueError.__new__"))
    (xl_E_InvalidLater : K.lookup C_InvalidLater = some (excClassObj "InvalidLater" q_E_InvalidLater C_InvalidLater N_E_InvalidLater bs_E_InvalidLater [.ref C_UnsaidError, .type "ValueError", .type "Exception", .type "BaseException", .type "object"] true sn_E_InvalidLater sub_E_InvalidLater ab_E_InvalidLater col_E_InvalidLater dd_E_InvalidLater k0_E_InvalidLater k1_E_InvalidLater k2_E_InvalidLater k3_E_InvalidLater k5_E_InvalidLater "ValueError.__new__"))
    (xl_E_InvalidKey : K.lookup C_InvalidKey = some (excClassObj "InvalidKey" q_E_InvalidKey C_InvalidKey N_E_InvalidKey bs_E_InvalidKey [.ref C_UnsaidError, .type "ValueError", .type "Exception", .type "BaseException", .type "object"] true sn_E_InvalidKey sub_E_InvalidKey ab_E_InvalidKey col_E_InvalidKey dd_E_InvalidKey k0_E_InvalidKey k1_E_InvalidKey k2_E_InvalidKey k3_E_InvalidKey k5_E_InvalidKey "ValueError.__new__"))
    (xl_E_InvalidLife : K.lookup C_InvalidLife = some (excClassObj "InvalidLife" q_E_InvalidLife C_InvalidLife N_E_InvalidLife bs_E_InvalidLife [.ref C_UnsaidError, .type "ValueError", .type "Exception", .type "BaseException", .type "object"] true sn_E_InvalidLife sub_E_InvalidLife ab_E_InvalidLife col_E_InvalidLife dd_E_InvalidLife k0_E_InvalidLife k1_E_InvalidLife k2_E_InvalidLife k3_E_InvalidLife k5_E_InvalidLife "ValueError.__new__"))
    (xl_E_InvalidLetter : K.lookup C_InvalidLetter = some (excClassObj "InvalidLetter" q_E_InvalidLetter C_InvalidLetter N_E_InvalidLetter bs_E_InvalidLetter [.ref C_UnsaidError, .type "ValueError", .type "Exception", .type "BaseException", .type "object"] true sn_E_InvalidLetter sub_E_InvalidLetter ab_E_InvalidLetter col_E_InvalidLetter dd_E_InvalidLetter k0_E_InvalidLetter k1_E_InvalidLetter k2_E_InvalidLetter k3_E_InvalidLetter k5_E_InvalidLetter "ValueError.__new__"))
    (xl_E_InvalidActs : K.lookup C_InvalidActs = some (excClassObj "InvalidActs" q_E_InvalidActs C_InvalidActs N_E_InvalidActs bs_E_InvalidActs [.ref C_UnsaidError, .type "ValueError", .type "Exception", .type "BaseException", .type "object"] true sn_E_InvalidActs sub_E_InvalidActs ab_E_InvalidActs col_E_InvalidActs dd_E_InvalidActs k0_E_InvalidActs k1_E_InvalidActs k2_E_InvalidActs k3_E_InvalidActs k5_E_InvalidActs "ValueError.__new__"))
    (xl_E_InvalidAct : K.lookup C_InvalidAct = some (excClassObj "InvalidAct" q_E_InvalidAct C_InvalidAct N_E_InvalidAct bs_E_InvalidAct [.ref C_UnsaidError, .type "ValueError", .type "Exception", .type "BaseException", .type "object"] true sn_E_InvalidAct sub_E_InvalidAct ab_E_InvalidAct col_E_InvalidAct dd_E_InvalidAct k0_E_InvalidAct k1_E_InvalidAct k2_E_InvalidAct k3_E_InvalidAct k5_E_InvalidAct "ValueError.__new__"))
    (xl_E_InvalidKinds : K.lookup C_InvalidKinds = some (excClassObj "InvalidKinds" q_E_InvalidKinds C_InvalidKinds N_E_InvalidKinds bs_E_InvalidKinds [.ref C_UnsaidError, .type "ValueError", .type "Exception", .type "BaseException", .type "object"] true sn_E_InvalidKinds sub_E_InvalidKinds ab_E_InvalidKinds col_E_InvalidKinds dd_E_InvalidKinds k0_E_InvalidKinds k1_E_InvalidKinds k2_E_InvalidKinds k3_E_InvalidKinds k5_E_InvalidKinds "ValueError.__new__"))
    (xl_E_InvalidIndex : K.lookup C_InvalidIndex = some (excClassObj "InvalidIndex" q_E_InvalidIndex C_InvalidIndex N_E_InvalidIndex bs_E_InvalidIndex [.ref C_UnsaidError, .type "ValueError", .type "Exception", .type "BaseException", .type "object"] true sn_E_InvalidIndex sub_E_InvalidIndex ab_E_InvalidIndex col_E_InvalidIndex dd_E_InvalidIndex k0_E_InvalidIndex k1_E_InvalidIndex k2_E_InvalidIndex k3_E_InvalidIndex k5_E_InvalidIndex "ValueError.__new__"))
    (xl_E_NotJoined : K.lookup C_NotJoined = some (excClassObj "NotJoined" q_E_NotJoined C_NotJoined N_E_NotJoined bs_E_NotJoined [.ref C_UnsaidError, .type "ValueError", .type "Exception", .type "BaseException", .type "object"] true sn_E_NotJoined sub_E_NotJoined ab_E_NotJoined col_E_NotJoined dd_E_NotJoined k0_E_NotJoined k1_E_NotJoined k2_E_NotJoined k3_E_NotJoined k5_E_NotJoined "ValueError.__new__"))
    (xl_E_Stopped : K.lookup C_Stopped = some (excClassObj "Stopped" q_E_Stopped C_Stopped N_E_Stopped bs_E_Stopped [.ref C_UnsaidError, .type "ValueError", .type "Exception", .type "BaseException", .type "object"] true sn_E_Stopped sub_E_Stopped ab_E_Stopped col_E_Stopped dd_E_Stopped k0_E_Stopped k1_E_Stopped k2_E_Stopped k3_E_Stopped k5_E_Stopped "ValueError.__new__"))
    (xl_E_Faulty : K.lookup C_Faulty = some (excClassObj "Faulty" q_E_Faulty C_Faulty N_E_Faulty bs_E_Faulty [.ref C_UnsaidError, .type "ValueError", .type "Exception", .type "BaseException", .type "object"] true sn_E_Faulty sub_E_Faulty ab_E_Faulty col_E_Faulty dd_E_Faulty k0_E_Faulty k1_E_Faulty k2_E_Faulty k3_E_Faulty k5_E_Faulty "ValueError.__new__"))
    (xl_E_DoNotFit : K.lookup C_DoNotFit = some (excClassObj "DoNotFit" q_E_DoNotFit C_DoNotFit N_E_DoNotFit bs_E_DoNotFit [.ref C_UnsaidError, .type "ValueError", .type "Exception", .type "BaseException", .type "object"] true sn_E_DoNotFit sub_E_DoNotFit ab_E_DoNotFit col_E_DoNotFit dd_E_DoNotFit k0_E_DoNotFit k1_E_DoNotFit k2_E_DoNotFit k3_E_DoNotFit k5_E_DoNotFit "ValueError.__new__"))
    (xl_E_SameKey : K.lookup C_SameKey = some (excClassObj "SameKey" q_E_SameKey C_SameKey N_E_SameKey bs_E_SameKey [.ref C_UnsaidError, .type "ValueError", .type "Exception", .type "BaseException", .type "object"] true sn_E_SameKey sub_E_SameKey ab_E_SameKey col_E_SameKey dd_E_SameKey k0_E_SameKey k1_E_SameKey k2_E_SameKey k3_E_SameKey k5_E_SameKey "ValueError.__new__"))
    (xl_E_NotHeld : K.lookup C_NotHeld = some (excClassObj "NotHeld" q_E_NotHeld C_NotHeld N_E_NotHeld bs_E_NotHeld [.ref C_UnsaidError, .type "ValueError", .type "Exception", .type "BaseException", .type "object"] true sn_E_NotHeld sub_E_NotHeld ab_E_NotHeld col_E_NotHeld dd_E_NotHeld k0_E_NotHeld k1_E_NotHeld k2_E_NotHeld k3_E_NotHeld k5_E_NotHeld "ValueError.__new__"))
    (xl_E_Held : K.lookup C_Held = some (excClassObj "Held" q_E_Held C_Held N_E_Held bs_E_Held [.ref C_UnsaidError, .type "ValueError", .type "Exception", .type "BaseException", .type "object"] true sn_E_Held sub_E_Held ab_E_Held col_E_Held dd_E_Held k0_E_Held k1_E_Held k2_E_Held k3_E_Held k5_E_Held "ValueError.__new__"))
    (xl_E_TooMany : K.lookup C_TooMany = some (excClassObj "TooMany" q_E_TooMany C_TooMany N_E_TooMany bs_E_TooMany [.ref C_UnsaidError, .type "ValueError", .type "Exception", .type "BaseException", .type "object"] true sn_E_TooMany sub_E_TooMany ab_E_TooMany col_E_TooMany dd_E_TooMany k0_E_TooMany k1_E_TooMany k2_E_TooMany k3_E_TooMany k5_E_TooMany "ValueError.__new__"))
    (xl_E_NotStanding : K.lookup C_NotStanding = some (excClassObj "NotStanding" q_E_NotStanding C_NotStanding N_E_NotStanding bs_E_NotStanding [.ref C_UnsaidError, .type "ValueError", .type "Exception", .type "BaseException", .type "object"] true sn_E_NotStanding sub_E_NotStanding ab_E_NotStanding col_E_NotStanding dd_E_NotStanding k0_E_NotStanding k1_E_NotStanding k2_E_NotStanding k3_E_NotStanding k5_E_NotStanding "ValueError.__new__"))
    (xl_E_Down : K.lookup C_Down = some (excClassObj "Down" q_E_Down C_Down N_E_Down bs_E_Down [.ref C_UnsaidError, .type "ValueError", .type "Exception", .type "BaseException", .type "object"] true sn_E_Down sub_E_Down ab_E_Down col_E_Down dd_E_Down k0_E_Down k1_E_Down k2_E_Down k3_E_Down k5_E_Down "ValueError.__new__"))
    (xl_E_Up : K.lookup C_Up = some (excClassObj "Up" q_E_Up C_Up N_E_Up bs_E_Up [.ref C_UnsaidError, .type "ValueError", .type "Exception", .type "BaseException", .type "object"] true sn_E_Up sub_E_Up ab_E_Up col_E_Up dd_E_Up k0_E_Up k1_E_Up k2_E_Up k3_E_Up k5_E_Up "ValueError.__new__"))
    (xl_E_NoLetter : K.lookup C_NoLetter = some (excClassObj "NoLetter" q_E_NoLetter C_NoLetter N_E_NoLetter bs_E_NoLetter [.ref C_UnsaidError, .type "ValueError", .type "Exception", .type "BaseException", .type "object"] true sn_E_NoLetter sub_E_NoLetter ab_E_NoLetter col_E_NoLetter dd_E_NoLetter k0_E_NoLetter k1_E_NoLetter k2_E_NoLetter k3_E_NoLetter k5_E_NoLetter "ValueError.__new__"))
    (xl_E_Refused : K.lookup C_Refused = some (excClassObj "Refused" q_E_Refused C_Refused N_E_Refused bs_E_Refused [.ref C_UnsaidError, .type "ValueError", .type "Exception", .type "BaseException", .type "object"] true sn_E_Refused sub_E_Refused ab_E_Refused col_E_Refused dd_E_Refused k0_E_Refused k1_E_Refused k2_E_Refused k3_E_Refused k5_E_Refused "ValueError.__new__"))
    (xl_E_NotWhole : K.lookup C_NotWhole = some (excClassObj "NotWhole" q_E_NotWhole C_NotWhole N_E_NotWhole bs_E_NotWhole [.ref C_UnsaidError, .type "ValueError", .type "Exception", .type "BaseException", .type "object"] true sn_E_NotWhole sub_E_NotWhole ab_E_NotWhole col_E_NotWhole dd_E_NotWhole k0_E_NotWhole k1_E_NotWhole k2_E_NotWhole k3_E_NotWhole k5_E_NotWhole "ValueError.__new__"))
    (xl_E_Turned : K.lookup C_Turned = some (excClassObj "Turned" q_E_Turned C_Turned N_E_Turned bs_E_Turned [.ref C_UnsaidError, .type "ValueError", .type "Exception", .type "BaseException", .type "object"] true sn_E_Turned sub_E_Turned ab_E_Turned col_E_Turned dd_E_Turned k0_E_Turned k1_E_Turned k2_E_Turned k3_E_Turned k5_E_Turned "ValueError.__new__"))
    (xl_E_NotARoad : K.lookup C_NotARoad = some (excClassObj "NotARoad" q_E_NotARoad C_NotARoad N_E_NotARoad bs_E_NotARoad [.ref C_UnsaidError, .type "ValueError", .type "Exception", .type "BaseException", .type "object"] true sn_E_NotARoad sub_E_NotARoad ab_E_NotARoad col_E_NotARoad dd_E_NotARoad k0_E_NotARoad k1_E_NotARoad k2_E_NotARoad k3_E_NotARoad k5_E_NotARoad "ValueError.__new__"))
    (xl_E_NothingUnderWay : K.lookup C_NothingUnderWay = some (excClassObj "NothingUnderWay" q_E_NothingUnderWay C_NothingUnderWay N_E_NothingUnderWay bs_E_NothingUnderWay [.ref C_UnsaidError, .type "ValueError", .type "Exception", .type "BaseException", .type "object"] true sn_E_NothingUnderWay sub_E_NothingUnderWay ab_E_NothingUnderWay col_E_NothingUnderWay dd_E_NothingUnderWay k0_E_NothingUnderWay k1_E_NothingUnderWay k2_E_NothingUnderWay k3_E_NothingUnderWay k5_E_NothingUnderWay "ValueError.__new__"))
    (xl_E_NotAhead : K.lookup C_NotAhead = some (excClassObj "NotAhead" q_E_NotAhead C_NotAhead N_E_NotAhead bs_E_NotAhead [.ref C_UnsaidError, .type "ValueError", .type "Exception", .type "BaseException", .type "object"] true sn_E_NotAhead sub_E_NotAhead ab_E_NotAhead col_E_NotAhead dd_E_NotAhead k0_E_NotAhead k1_E_NotAhead k2_E_NotAhead k3_E_NotAhead k5_E_NotAhead "ValueError.__new__"))
    (xl_E_SurelyAhead : K.lookup C_SurelyAhead = some (excClassObj "SurelyAhead" q_E_SurelyAhead C_SurelyAhead N_E_SurelyAhead bs_E_SurelyAhead [.ref C_UnsaidError, .type "ValueError", .type "Exception", .type "BaseException", .type "object"] true sn_E_SurelyAhead sub_E_SurelyAhead ab_E_SurelyAhead col_E_SurelyAhead dd_E_SurelyAhead k0_E_SurelyAhead k1_E_SurelyAhead k2_E_SurelyAhead k3_E_SurelyAhead k5_E_SurelyAhead "ValueError.__new__"))
    (xl_n_NoStanding : K.lookup C_NoStanding = some (excClassObj "NoStanding" q_n_NoStanding C_NoStanding N_n_NoStanding bs_n_NoStanding [.ref C_UnsaidError, .type "ValueError", .type "Exception", .type "BaseException", .type "object"] true sn_n_NoStanding sub_n_NoStanding ab_n_NoStanding col_n_NoStanding dd_n_NoStanding k0_n_NoStanding k1_n_NoStanding k2_n_NoStanding k3_n_NoStanding k5_n_NoStanding "ValueError.__new__"))
    (xl_u_UnsaidError : K.lookup C_UnsaidError = some (excClassObj nm_u_UnsaidError q_u_UnsaidError C_UnsaidError N_u_UnsaidError bs_u_UnsaidError [.type "ValueError", .type "Exception", .type "BaseException", .type "object"] true sn_u_UnsaidError sub_u_UnsaidError ab_u_UnsaidError col_u_UnsaidError dd_u_UnsaidError k0_u_UnsaidError k1_u_UnsaidError k2_u_UnsaidError k3_u_UnsaidError k5_u_UnsaidError "ValueError.__new__"))
    (c_x_InvalidLine : PySem.W.codeIn K cd_x_InvalidLine "InvalidLine.__init__" = true)
    (kp_x_InvalidLine : PySem.W.keepIn K (.ref f_x_InvalidLine) = true)
    (ty_C_InvalidLine : PySem.W.typeIn K (.ref C_InvalidLine) = some (.type "type"))
    (sa_E_InvalidLine : PySem.W.findIn K (.ref C_InvalidLine) "__setattr__" = some (some (.builtin "object.__setattr__")))
    (kc_C_InvalidLine : PySem.W.keepIn K (.ref C_InvalidLine) = true)
    (ti_E_InvalidLine : PySem.W.typeIn K (.ref f_x_InvalidLine) = some (.type "function"))
    (nf_E_InvalidLine_given : PySem.W.findIn K (.ref C_InvalidLine) "given" = some none)
    (ga_E_InvalidLine : PySem.W.findIn K (.ref C_InvalidLine) "__getattribute__" = some (some (.builtin "BaseException.__getattribute__")))
    (gt_E_InvalidLine : PySem.W.findIn K (.ref C_InvalidLine) "__getattr__" = some none)
    (hd_C_InvalidLine : PySem.W.hasDictIn K C_InvalidLine = true)
    (ncl_E_InvalidLine : PySem.W.findIn K (.ref C_InvalidLine) "__class__" = some (some (.builtin "object.__class__")))
    (nsp : PySem.W.specialIn K (.builtin "object.__class__") "__get__" = some (some (.builtin "getset_descriptor.__get__")))
    (ntk : PySem.W.takesIn K (.builtin "object.__class__") = some true)
    (c_x_InvalidText : PySem.W.codeIn K cd_x_InvalidText "InvalidText.__init__" = true)
    (kp_x_InvalidText : PySem.W.keepIn K (.ref f_x_InvalidText) = true)
    (ty_C_InvalidText : PySem.W.typeIn K (.ref C_InvalidText) = some (.type "type"))
    (sa_E_InvalidText : PySem.W.findIn K (.ref C_InvalidText) "__setattr__" = some (some (.builtin "object.__setattr__")))
    (kc_C_InvalidText : PySem.W.keepIn K (.ref C_InvalidText) = true)
    (ti_E_InvalidText : PySem.W.typeIn K (.ref f_x_InvalidText) = some (.type "function"))
    (nf_E_InvalidText_given : PySem.W.findIn K (.ref C_InvalidText) "given" = some none)
    (ga_E_InvalidText : PySem.W.findIn K (.ref C_InvalidText) "__getattribute__" = some (some (.builtin "BaseException.__getattribute__")))
    (gt_E_InvalidText : PySem.W.findIn K (.ref C_InvalidText) "__getattr__" = some none)
    (hd_C_InvalidText : PySem.W.hasDictIn K C_InvalidText = true)
    (ncl_E_InvalidText : PySem.W.findIn K (.ref C_InvalidText) "__class__" = some (some (.builtin "object.__class__")))
    (c_x_InvalidCell : PySem.W.codeIn K cd_x_InvalidCell "InvalidCell.__init__" = true)
    (kp_x_InvalidCell : PySem.W.keepIn K (.ref f_x_InvalidCell) = true)
    (ty_C_InvalidCell : PySem.W.typeIn K (.ref C_InvalidCell) = some (.type "type"))
    (sa_E_InvalidCell : PySem.W.findIn K (.ref C_InvalidCell) "__setattr__" = some (some (.builtin "object.__setattr__")))
    (kc_C_InvalidCell : PySem.W.keepIn K (.ref C_InvalidCell) = true)
    (ti_E_InvalidCell : PySem.W.typeIn K (.ref f_x_InvalidCell) = some (.type "function"))
    (nf_E_InvalidCell_given : PySem.W.findIn K (.ref C_InvalidCell) "given" = some none)
    (ga_E_InvalidCell : PySem.W.findIn K (.ref C_InvalidCell) "__getattribute__" = some (some (.builtin "BaseException.__getattribute__")))
    (gt_E_InvalidCell : PySem.W.findIn K (.ref C_InvalidCell) "__getattr__" = some none)
    (hd_C_InvalidCell : PySem.W.hasDictIn K C_InvalidCell = true)
    (ncl_E_InvalidCell : PySem.W.findIn K (.ref C_InvalidCell) "__class__" = some (some (.builtin "object.__class__")))
    (c_x_InvalidHouses : PySem.W.codeIn K cd_x_InvalidHouses "InvalidHouses.__init__" = true)
    (kp_x_InvalidHouses : PySem.W.keepIn K (.ref f_x_InvalidHouses) = true)
    (ty_C_InvalidHouses : PySem.W.typeIn K (.ref C_InvalidHouses) = some (.type "type"))
    (sa_E_InvalidHouses : PySem.W.findIn K (.ref C_InvalidHouses) "__setattr__" = some (some (.builtin "object.__setattr__")))
    (kc_C_InvalidHouses : PySem.W.keepIn K (.ref C_InvalidHouses) = true)
    (ti_E_InvalidHouses : PySem.W.typeIn K (.ref f_x_InvalidHouses) = some (.type "function"))
    (nf_E_InvalidHouses_given : PySem.W.findIn K (.ref C_InvalidHouses) "given" = some none)
    (ga_E_InvalidHouses : PySem.W.findIn K (.ref C_InvalidHouses) "__getattribute__" = some (some (.builtin "BaseException.__getattribute__")))
    (gt_E_InvalidHouses : PySem.W.findIn K (.ref C_InvalidHouses) "__getattr__" = some none)
    (hd_C_InvalidHouses : PySem.W.hasDictIn K C_InvalidHouses = true)
    (ncl_E_InvalidHouses : PySem.W.findIn K (.ref C_InvalidHouses) "__class__" = some (some (.builtin "object.__class__")))
    (c_x_InvalidRoads : PySem.W.codeIn K cd_x_InvalidRoads "InvalidRoads.__init__" = true)
    (kp_x_InvalidRoads : PySem.W.keepIn K (.ref f_x_InvalidRoads) = true)
    (ty_C_InvalidRoads : PySem.W.typeIn K (.ref C_InvalidRoads) = some (.type "type"))
    (sa_E_InvalidRoads : PySem.W.findIn K (.ref C_InvalidRoads) "__setattr__" = some (some (.builtin "object.__setattr__")))
    (kc_C_InvalidRoads : PySem.W.keepIn K (.ref C_InvalidRoads) = true)
    (ti_E_InvalidRoads : PySem.W.typeIn K (.ref f_x_InvalidRoads) = some (.type "function"))
    (nf_E_InvalidRoads_given : PySem.W.findIn K (.ref C_InvalidRoads) "given" = some none)
    (ga_E_InvalidRoads : PySem.W.findIn K (.ref C_InvalidRoads) "__getattribute__" = some (some (.builtin "BaseException.__getattribute__")))
    (gt_E_InvalidRoads : PySem.W.findIn K (.ref C_InvalidRoads) "__getattr__" = some none)
    (hd_C_InvalidRoads : PySem.W.hasDictIn K C_InvalidRoads = true)
    (ncl_E_InvalidRoads : PySem.W.findIn K (.ref C_InvalidRoads) "__class__" = some (some (.builtin "object.__class__")))
    (c_x_InvalidHouse : PySem.W.codeIn K cd_x_InvalidHouse "InvalidHouse.__init__" = true)
    (kp_x_InvalidHouse : PySem.W.keepIn K (.ref f_x_InvalidHouse) = true)
    (ty_C_InvalidHouse : PySem.W.typeIn K (.ref C_InvalidHouse) = some (.type "type"))
    (sa_E_InvalidHouse : PySem.W.findIn K (.ref C_InvalidHouse) "__setattr__" = some (some (.builtin "object.__setattr__")))
    (kc_C_InvalidHouse : PySem.W.keepIn K (.ref C_InvalidHouse) = true)
    (ti_E_InvalidHouse : PySem.W.typeIn K (.ref f_x_InvalidHouse) = some (.type "function"))
    (nf_E_InvalidHouse_given : PySem.W.findIn K (.ref C_InvalidHouse) "given" = some none)
    (ga_E_InvalidHouse : PySem.W.findIn K (.ref C_InvalidHouse) "__getattribute__" = some (some (.builtin "BaseException.__getattribute__")))
    (gt_E_InvalidHouse : PySem.W.findIn K (.ref C_InvalidHouse) "__getattr__" = some none)
    (hd_C_InvalidHouse : PySem.W.hasDictIn K C_InvalidHouse = true)
    (ncl_E_InvalidHouse : PySem.W.findIn K (.ref C_InvalidHouse) "__class__" = some (some (.builtin "object.__class__")))
    (c_x_InvalidSigns : PySem.W.codeIn K cd_x_InvalidSigns "InvalidSigns.__init__" = true)
    (kp_x_InvalidSigns : PySem.W.keepIn K (.ref f_x_InvalidSigns) = true)
    (ty_C_InvalidSigns : PySem.W.typeIn K (.ref C_InvalidSigns) = some (.type "type"))
    (sa_E_InvalidSigns : PySem.W.findIn K (.ref C_InvalidSigns) "__setattr__" = some (some (.builtin "object.__setattr__")))
    (kc_C_InvalidSigns : PySem.W.keepIn K (.ref C_InvalidSigns) = true)
    (ti_E_InvalidSigns : PySem.W.typeIn K (.ref f_x_InvalidSigns) = some (.type "function"))
    (nf_E_InvalidSigns_given : PySem.W.findIn K (.ref C_InvalidSigns) "given" = some none)
    (ga_E_InvalidSigns : PySem.W.findIn K (.ref C_InvalidSigns) "__getattribute__" = some (some (.builtin "BaseException.__getattribute__")))
    (gt_E_InvalidSigns : PySem.W.findIn K (.ref C_InvalidSigns) "__getattr__" = some none)
    (hd_C_InvalidSigns : PySem.W.hasDictIn K C_InvalidSigns = true)
    (ncl_E_InvalidSigns : PySem.W.findIn K (.ref C_InvalidSigns) "__class__" = some (some (.builtin "object.__class__")))
    (c_x_InvalidCount : PySem.W.codeIn K cd_x_InvalidCount "InvalidCount.__init__" = true)
    (kp_x_InvalidCount : PySem.W.keepIn K (.ref f_x_InvalidCount) = true)
    (ty_C_InvalidCount : PySem.W.typeIn K (.ref C_InvalidCount) = some (.type "type"))
    (sa_E_InvalidCount : PySem.W.findIn K (.ref C_InvalidCount) "__setattr__" = some (some (.builtin "object.__setattr__")))
    (kc_C_InvalidCount : PySem.W.keepIn K (.ref C_InvalidCount) = true)
    (ti_E_InvalidCount : PySem.W.typeIn K (.ref f_x_InvalidCount) = some (.type "function"))
    (nf_E_InvalidCount_given : PySem.W.findIn K (.ref C_InvalidCount) "given" = some none)
    (ga_E_InvalidCount : PySem.W.findIn K (.ref C_InvalidCount) "__getattribute__" = some (some (.builtin "BaseException.__getattribute__")))
    (gt_E_InvalidCount : PySem.W.findIn K (.ref C_InvalidCount) "__getattr__" = some none)
    (hd_C_InvalidCount : PySem.W.hasDictIn K C_InvalidCount = true)
    (ncl_E_InvalidCount : PySem.W.findIn K (.ref C_InvalidCount) "__class__" = some (some (.builtin "object.__class__")))
    (c_x_InvalidLines : PySem.W.codeIn K cd_x_InvalidLines "InvalidLines.__init__" = true)
    (kp_x_InvalidLines : PySem.W.keepIn K (.ref f_x_InvalidLines) = true)
    (ty_C_InvalidLines : PySem.W.typeIn K (.ref C_InvalidLines) = some (.type "type"))
    (sa_E_InvalidLines : PySem.W.findIn K (.ref C_InvalidLines) "__setattr__" = some (some (.builtin "object.__setattr__")))
    (kc_C_InvalidLines : PySem.W.keepIn K (.ref C_InvalidLines) = true)
    (ti_E_InvalidLines : PySem.W.typeIn K (.ref f_x_InvalidLines) = some (.type "function"))
    (nf_E_InvalidLines_given : PySem.W.findIn K (.ref C_InvalidLines) "given" = some none)
    (ga_E_InvalidLines : PySem.W.findIn K (.ref C_InvalidLines) "__getattribute__" = some (some (.builtin "BaseException.__getattribute__")))
    (gt_E_InvalidLines : PySem.W.findIn K (.ref C_InvalidLines) "__getattr__" = some none)
    (hd_C_InvalidLines : PySem.W.hasDictIn K C_InvalidLines = true)
    (ncl_E_InvalidLines : PySem.W.findIn K (.ref C_InvalidLines) "__class__" = some (some (.builtin "object.__class__")))
    (c_x_InvalidScript : PySem.W.codeIn K cd_x_InvalidScript "InvalidScript.__init__" = true)
    (kp_x_InvalidScript : PySem.W.keepIn K (.ref f_x_InvalidScript) = true)
    (ty_C_InvalidScript : PySem.W.typeIn K (.ref C_InvalidScript) = some (.type "type"))
    (sa_E_InvalidScript : PySem.W.findIn K (.ref C_InvalidScript) "__setattr__" = some (some (.builtin "object.__setattr__")))
    (kc_C_InvalidScript : PySem.W.keepIn K (.ref C_InvalidScript) = true)
    (ti_E_InvalidScript : PySem.W.typeIn K (.ref f_x_InvalidScript) = some (.type "function"))
    (nf_E_InvalidScript_given : PySem.W.findIn K (.ref C_InvalidScript) "given" = some none)
    (ga_E_InvalidScript : PySem.W.findIn K (.ref C_InvalidScript) "__getattribute__" = some (some (.builtin "BaseException.__getattribute__")))
    (gt_E_InvalidScript : PySem.W.findIn K (.ref C_InvalidScript) "__getattr__" = some none)
    (hd_C_InvalidScript : PySem.W.hasDictIn K C_InvalidScript = true)
    (ncl_E_InvalidScript : PySem.W.findIn K (.ref C_InvalidScript) "__class__" = some (some (.builtin "object.__class__")))
    (c_x_InvalidRows : PySem.W.codeIn K cd_x_InvalidRows "InvalidRows.__init__" = true)
    (kp_x_InvalidRows : PySem.W.keepIn K (.ref f_x_InvalidRows) = true)
    (ty_C_InvalidRows : PySem.W.typeIn K (.ref C_InvalidRows) = some (.type "type"))
    (sa_E_InvalidRows : PySem.W.findIn K (.ref C_InvalidRows) "__setattr__" = some (some (.builtin "object.__setattr__")))
    (kc_C_InvalidRows : PySem.W.keepIn K (.ref C_InvalidRows) = true)
    (ti_E_InvalidRows : PySem.W.typeIn K (.ref f_x_InvalidRows) = some (.type "function"))
    (nf_E_InvalidRows_given : PySem.W.findIn K (.ref C_InvalidRows) "given" = some none)
    (ga_E_InvalidRows : PySem.W.findIn K (.ref C_InvalidRows) "__getattribute__" = some (some (.builtin "BaseException.__getattribute__")))
    (gt_E_InvalidRows : PySem.W.findIn K (.ref C_InvalidRows) "__getattr__" = some none)
    (hd_C_InvalidRows : PySem.W.hasDictIn K C_InvalidRows = true)
    (ncl_E_InvalidRows : PySem.W.findIn K (.ref C_InvalidRows) "__class__" = some (some (.builtin "object.__class__")))
    (c_x_InvalidLater : PySem.W.codeIn K cd_x_InvalidLater "InvalidLater.__init__" = true)
    (kp_x_InvalidLater : PySem.W.keepIn K (.ref f_x_InvalidLater) = true)
    (ty_C_InvalidLater : PySem.W.typeIn K (.ref C_InvalidLater) = some (.type "type"))
    (sa_E_InvalidLater : PySem.W.findIn K (.ref C_InvalidLater) "__setattr__" = some (some (.builtin "object.__setattr__")))
    (kc_C_InvalidLater : PySem.W.keepIn K (.ref C_InvalidLater) = true)
    (ti_E_InvalidLater : PySem.W.typeIn K (.ref f_x_InvalidLater) = some (.type "function"))
    (nf_E_InvalidLater_given : PySem.W.findIn K (.ref C_InvalidLater) "given" = some none)
    (ga_E_InvalidLater : PySem.W.findIn K (.ref C_InvalidLater) "__getattribute__" = some (some (.builtin "BaseException.__getattribute__")))
    (gt_E_InvalidLater : PySem.W.findIn K (.ref C_InvalidLater) "__getattr__" = some none)
    (hd_C_InvalidLater : PySem.W.hasDictIn K C_InvalidLater = true)
    (ncl_E_InvalidLater : PySem.W.findIn K (.ref C_InvalidLater) "__class__" = some (some (.builtin "object.__class__")))
    (c_x_InvalidKey : PySem.W.codeIn K cd_x_InvalidKey "InvalidKey.__init__" = true)
    (kp_x_InvalidKey : PySem.W.keepIn K (.ref f_x_InvalidKey) = true)
    (ty_C_InvalidKey : PySem.W.typeIn K (.ref C_InvalidKey) = some (.type "type"))
    (sa_E_InvalidKey : PySem.W.findIn K (.ref C_InvalidKey) "__setattr__" = some (some (.builtin "object.__setattr__")))
    (kc_C_InvalidKey : PySem.W.keepIn K (.ref C_InvalidKey) = true)
    (ti_E_InvalidKey : PySem.W.typeIn K (.ref f_x_InvalidKey) = some (.type "function"))
    (nf_E_InvalidKey_given : PySem.W.findIn K (.ref C_InvalidKey) "given" = some none)
    (ga_E_InvalidKey : PySem.W.findIn K (.ref C_InvalidKey) "__getattribute__" = some (some (.builtin "BaseException.__getattribute__")))
    (gt_E_InvalidKey : PySem.W.findIn K (.ref C_InvalidKey) "__getattr__" = some none)
    (hd_C_InvalidKey : PySem.W.hasDictIn K C_InvalidKey = true)
    (ncl_E_InvalidKey : PySem.W.findIn K (.ref C_InvalidKey) "__class__" = some (some (.builtin "object.__class__")))
    (c_x_InvalidLife : PySem.W.codeIn K cd_x_InvalidLife "InvalidLife.__init__" = true)
    (kp_x_InvalidLife : PySem.W.keepIn K (.ref f_x_InvalidLife) = true)
    (ty_C_InvalidLife : PySem.W.typeIn K (.ref C_InvalidLife) = some (.type "type"))
    (sa_E_InvalidLife : PySem.W.findIn K (.ref C_InvalidLife) "__setattr__" = some (some (.builtin "object.__setattr__")))
    (kc_C_InvalidLife : PySem.W.keepIn K (.ref C_InvalidLife) = true)
    (ti_E_InvalidLife : PySem.W.typeIn K (.ref f_x_InvalidLife) = some (.type "function"))
    (nf_E_InvalidLife_given : PySem.W.findIn K (.ref C_InvalidLife) "given" = some none)
    (ga_E_InvalidLife : PySem.W.findIn K (.ref C_InvalidLife) "__getattribute__" = some (some (.builtin "BaseException.__getattribute__")))
    (gt_E_InvalidLife : PySem.W.findIn K (.ref C_InvalidLife) "__getattr__" = some none)
    (hd_C_InvalidLife : PySem.W.hasDictIn K C_InvalidLife = true)
    (ncl_E_InvalidLife : PySem.W.findIn K (.ref C_InvalidLife) "__class__" = some (some (.builtin "object.__class__")))
    (c_x_InvalidLetter : PySem.W.codeIn K cd_x_InvalidLetter "InvalidLetter.__init__" = true)
    (kp_x_InvalidLetter : PySem.W.keepIn K (.ref f_x_InvalidLetter) = true)
    (ty_C_InvalidLetter : PySem.W.typeIn K (.ref C_InvalidLetter) = some (.type "type"))
    (sa_E_InvalidLetter : PySem.W.findIn K (.ref C_InvalidLetter) "__setattr__" = some (some (.builtin "object.__setattr__")))
    (kc_C_InvalidLetter : PySem.W.keepIn K (.ref C_InvalidLetter) = true)
    (ti_E_InvalidLetter : PySem.W.typeIn K (.ref f_x_InvalidLetter) = some (.type "function"))
    (nf_E_InvalidLetter_given : PySem.W.findIn K (.ref C_InvalidLetter) "given" = some none)
    (ga_E_InvalidLetter : PySem.W.findIn K (.ref C_InvalidLetter) "__getattribute__" = some (some (.builtin "BaseException.__getattribute__")))
    (gt_E_InvalidLetter : PySem.W.findIn K (.ref C_InvalidLetter) "__getattr__" = some none)
    (hd_C_InvalidLetter : PySem.W.hasDictIn K C_InvalidLetter = true)
    (ncl_E_InvalidLetter : PySem.W.findIn K (.ref C_InvalidLetter) "__class__" = some (some (.builtin "object.__class__")))
    (c_x_InvalidActs : PySem.W.codeIn K cd_x_InvalidActs "InvalidActs.__init__" = true)
    (kp_x_InvalidActs : PySem.W.keepIn K (.ref f_x_InvalidActs) = true)
    (ty_C_InvalidActs : PySem.W.typeIn K (.ref C_InvalidActs) = some (.type "type"))
    (sa_E_InvalidActs : PySem.W.findIn K (.ref C_InvalidActs) "__setattr__" = some (some (.builtin "object.__setattr__")))
    (kc_C_InvalidActs : PySem.W.keepIn K (.ref C_InvalidActs) = true)
    (ti_E_InvalidActs : PySem.W.typeIn K (.ref f_x_InvalidActs) = some (.type "function"))
    (nf_E_InvalidActs_given : PySem.W.findIn K (.ref C_InvalidActs) "given" = some none)
    (ga_E_InvalidActs : PySem.W.findIn K (.ref C_InvalidActs) "__getattribute__" = some (some (.builtin "BaseException.__getattribute__")))
    (gt_E_InvalidActs : PySem.W.findIn K (.ref C_InvalidActs) "__getattr__" = some none)
    (hd_C_InvalidActs : PySem.W.hasDictIn K C_InvalidActs = true)
    (ncl_E_InvalidActs : PySem.W.findIn K (.ref C_InvalidActs) "__class__" = some (some (.builtin "object.__class__")))
    (c_x_InvalidAct : PySem.W.codeIn K cd_x_InvalidAct "InvalidAct.__init__" = true)
    (kp_x_InvalidAct : PySem.W.keepIn K (.ref f_x_InvalidAct) = true)
    (ty_C_InvalidAct : PySem.W.typeIn K (.ref C_InvalidAct) = some (.type "type"))
    (sa_E_InvalidAct : PySem.W.findIn K (.ref C_InvalidAct) "__setattr__" = some (some (.builtin "object.__setattr__")))
    (kc_C_InvalidAct : PySem.W.keepIn K (.ref C_InvalidAct) = true)
    (ti_E_InvalidAct : PySem.W.typeIn K (.ref f_x_InvalidAct) = some (.type "function"))
    (nf_E_InvalidAct_given : PySem.W.findIn K (.ref C_InvalidAct) "given" = some none)
    (ga_E_InvalidAct : PySem.W.findIn K (.ref C_InvalidAct) "__getattribute__" = some (some (.builtin "BaseException.__getattribute__")))
    (gt_E_InvalidAct : PySem.W.findIn K (.ref C_InvalidAct) "__getattr__" = some none)
    (hd_C_InvalidAct : PySem.W.hasDictIn K C_InvalidAct = true)
    (ncl_E_InvalidAct : PySem.W.findIn K (.ref C_InvalidAct) "__class__" = some (some (.builtin "object.__class__")))
    (c_x_InvalidKinds : PySem.W.codeIn K cd_x_InvalidKinds "InvalidKinds.__init__" = true)
    (kp_x_InvalidKinds : PySem.W.keepIn K (.ref f_x_InvalidKinds) = true)
    (ty_C_InvalidKinds : PySem.W.typeIn K (.ref C_InvalidKinds) = some (.type "type"))
    (sa_E_InvalidKinds : PySem.W.findIn K (.ref C_InvalidKinds) "__setattr__" = some (some (.builtin "object.__setattr__")))
    (kc_C_InvalidKinds : PySem.W.keepIn K (.ref C_InvalidKinds) = true)
    (ti_E_InvalidKinds : PySem.W.typeIn K (.ref f_x_InvalidKinds) = some (.type "function"))
    (nf_E_InvalidKinds_given : PySem.W.findIn K (.ref C_InvalidKinds) "given" = some none)
    (ga_E_InvalidKinds : PySem.W.findIn K (.ref C_InvalidKinds) "__getattribute__" = some (some (.builtin "BaseException.__getattribute__")))
    (gt_E_InvalidKinds : PySem.W.findIn K (.ref C_InvalidKinds) "__getattr__" = some none)
    (hd_C_InvalidKinds : PySem.W.hasDictIn K C_InvalidKinds = true)
    (ncl_E_InvalidKinds : PySem.W.findIn K (.ref C_InvalidKinds) "__class__" = some (some (.builtin "object.__class__")))
    (c_x_InvalidIndex : PySem.W.codeIn K cd_x_InvalidIndex "InvalidIndex.__init__" = true)
    (kp_x_InvalidIndex : PySem.W.keepIn K (.ref f_x_InvalidIndex) = true)
    (ty_C_InvalidIndex : PySem.W.typeIn K (.ref C_InvalidIndex) = some (.type "type"))
    (sa_E_InvalidIndex : PySem.W.findIn K (.ref C_InvalidIndex) "__setattr__" = some (some (.builtin "object.__setattr__")))
    (kc_C_InvalidIndex : PySem.W.keepIn K (.ref C_InvalidIndex) = true)
    (ti_E_InvalidIndex : PySem.W.typeIn K (.ref f_x_InvalidIndex) = some (.type "function"))
    (nf_E_InvalidIndex_given : PySem.W.findIn K (.ref C_InvalidIndex) "given" = some none)
    (ga_E_InvalidIndex : PySem.W.findIn K (.ref C_InvalidIndex) "__getattribute__" = some (some (.builtin "BaseException.__getattribute__")))
    (gt_E_InvalidIndex : PySem.W.findIn K (.ref C_InvalidIndex) "__getattr__" = some none)
    (hd_C_InvalidIndex : PySem.W.hasDictIn K C_InvalidIndex = true)
    (ncl_E_InvalidIndex : PySem.W.findIn K (.ref C_InvalidIndex) "__class__" = some (some (.builtin "object.__class__")))
    (c_x_NotJoined : PySem.W.codeIn K cd_x_NotJoined "NotJoined.__init__" = true)
    (kp_x_NotJoined : PySem.W.keepIn K (.ref f_x_NotJoined) = true)
    (ty_C_NotJoined : PySem.W.typeIn K (.ref C_NotJoined) = some (.type "type"))
    (sa_E_NotJoined : PySem.W.findIn K (.ref C_NotJoined) "__setattr__" = some (some (.builtin "object.__setattr__")))
    (kc_C_NotJoined : PySem.W.keepIn K (.ref C_NotJoined) = true)
    (ti_E_NotJoined : PySem.W.typeIn K (.ref f_x_NotJoined) = some (.type "function"))
    (nf_E_NotJoined_house : PySem.W.findIn K (.ref C_NotJoined) "house" = some none)
    (ga_E_NotJoined : PySem.W.findIn K (.ref C_NotJoined) "__getattribute__" = some (some (.builtin "BaseException.__getattribute__")))
    (gt_E_NotJoined : PySem.W.findIn K (.ref C_NotJoined) "__getattr__" = some none)
    (hd_C_NotJoined : PySem.W.hasDictIn K C_NotJoined = true)
    (ncl_E_NotJoined : PySem.W.findIn K (.ref C_NotJoined) "__class__" = some (some (.builtin "object.__class__")))
    (c_x_Stopped : PySem.W.codeIn K cd_x_Stopped "Stopped.__init__" = true)
    (kp_x_Stopped : PySem.W.keepIn K (.ref f_x_Stopped) = true)
    (ty_C_Stopped : PySem.W.typeIn K (.ref C_Stopped) = some (.type "type"))
    (sa_E_Stopped : PySem.W.findIn K (.ref C_Stopped) "__setattr__" = some (some (.builtin "object.__setattr__")))
    (kc_C_Stopped : PySem.W.keepIn K (.ref C_Stopped) = true)
    (ti_E_Stopped : PySem.W.typeIn K (.ref f_x_Stopped) = some (.type "function"))
    (nf_E_Stopped_at : PySem.W.findIn K (.ref C_Stopped) "at" = some none)
    (ga_E_Stopped : PySem.W.findIn K (.ref C_Stopped) "__getattribute__" = some (some (.builtin "BaseException.__getattribute__")))
    (gt_E_Stopped : PySem.W.findIn K (.ref C_Stopped) "__getattr__" = some none)
    (hd_C_Stopped : PySem.W.hasDictIn K C_Stopped = true)
    (ncl_E_Stopped : PySem.W.findIn K (.ref C_Stopped) "__class__" = some (some (.builtin "object.__class__")))
    (c_x_Faulty : PySem.W.codeIn K cd_x_Faulty "Faulty.__init__" = true)
    (kp_x_Faulty : PySem.W.keepIn K (.ref f_x_Faulty) = true)
    (ty_C_Faulty : PySem.W.typeIn K (.ref C_Faulty) = some (.type "type"))
    (sa_E_Faulty : PySem.W.findIn K (.ref C_Faulty) "__setattr__" = some (some (.builtin "object.__setattr__")))
    (kc_C_Faulty : PySem.W.keepIn K (.ref C_Faulty) = true)
    (ti_E_Faulty : PySem.W.typeIn K (.ref f_x_Faulty) = some (.type "function"))
    (nf_E_Faulty_fault : PySem.W.findIn K (.ref C_Faulty) "fault" = some none)
    (ga_E_Faulty : PySem.W.findIn K (.ref C_Faulty) "__getattribute__" = some (some (.builtin "BaseException.__getattribute__")))
    (gt_E_Faulty : PySem.W.findIn K (.ref C_Faulty) "__getattr__" = some none)
    (hd_C_Faulty : PySem.W.hasDictIn K C_Faulty = true)
    (ncl_E_Faulty : PySem.W.findIn K (.ref C_Faulty) "__class__" = some (some (.builtin "object.__class__")))
    (c_x_DoNotFit : PySem.W.codeIn K cd_x_DoNotFit "DoNotFit.__init__" = true)
    (kp_x_DoNotFit : PySem.W.keepIn K (.ref f_x_DoNotFit) = true)
    (ty_C_DoNotFit : PySem.W.typeIn K (.ref C_DoNotFit) = some (.type "type"))
    (sa_E_DoNotFit : PySem.W.findIn K (.ref C_DoNotFit) "__setattr__" = some (some (.builtin "object.__setattr__")))
    (kc_C_DoNotFit : PySem.W.keepIn K (.ref C_DoNotFit) = true)
    (ti_E_DoNotFit : PySem.W.typeIn K (.ref f_x_DoNotFit) = some (.type "function"))
    (nf_E_DoNotFit_picture : PySem.W.findIn K (.ref C_DoNotFit) "picture" = some none)
    (ga_E_DoNotFit : PySem.W.findIn K (.ref C_DoNotFit) "__getattribute__" = some (some (.builtin "BaseException.__getattribute__")))
    (gt_E_DoNotFit : PySem.W.findIn K (.ref C_DoNotFit) "__getattr__" = some none)
    (hd_C_DoNotFit : PySem.W.hasDictIn K C_DoNotFit = true)
    (ncl_E_DoNotFit : PySem.W.findIn K (.ref C_DoNotFit) "__class__" = some (some (.builtin "object.__class__")))
    (c_x_SameKey : PySem.W.codeIn K cd_x_SameKey "SameKey.__init__" = true)
    (kp_x_SameKey : PySem.W.keepIn K (.ref f_x_SameKey) = true)
    (ty_C_SameKey : PySem.W.typeIn K (.ref C_SameKey) = some (.type "type"))
    (sa_E_SameKey : PySem.W.findIn K (.ref C_SameKey) "__setattr__" = some (some (.builtin "object.__setattr__")))
    (kc_C_SameKey : PySem.W.keepIn K (.ref C_SameKey) = true)
    (ti_E_SameKey : PySem.W.typeIn K (.ref f_x_SameKey) = some (.type "function"))
    (nf_E_SameKey_key : PySem.W.findIn K (.ref C_SameKey) "key" = some none)
    (ga_E_SameKey : PySem.W.findIn K (.ref C_SameKey) "__getattribute__" = some (some (.builtin "BaseException.__getattribute__")))
    (gt_E_SameKey : PySem.W.findIn K (.ref C_SameKey) "__getattr__" = some none)
    (hd_C_SameKey : PySem.W.hasDictIn K C_SameKey = true)
    (ncl_E_SameKey : PySem.W.findIn K (.ref C_SameKey) "__class__" = some (some (.builtin "object.__class__")))
    (c_x_NotHeld : PySem.W.codeIn K cd_x_NotHeld "NotHeld.__init__" = true)
    (kp_x_NotHeld : PySem.W.keepIn K (.ref f_x_NotHeld) = true)
    (ty_C_NotHeld : PySem.W.typeIn K (.ref C_NotHeld) = some (.type "type"))
    (sa_E_NotHeld : PySem.W.findIn K (.ref C_NotHeld) "__setattr__" = some (some (.builtin "object.__setattr__")))
    (kc_C_NotHeld : PySem.W.keepIn K (.ref C_NotHeld) = true)
    (ti_E_NotHeld : PySem.W.typeIn K (.ref f_x_NotHeld) = some (.type "function"))
    (nf_E_NotHeld_key : PySem.W.findIn K (.ref C_NotHeld) "key" = some none)
    (ga_E_NotHeld : PySem.W.findIn K (.ref C_NotHeld) "__getattribute__" = some (some (.builtin "BaseException.__getattribute__")))
    (gt_E_NotHeld : PySem.W.findIn K (.ref C_NotHeld) "__getattr__" = some none)
    (hd_C_NotHeld : PySem.W.hasDictIn K C_NotHeld = true)
    (ncl_E_NotHeld : PySem.W.findIn K (.ref C_NotHeld) "__class__" = some (some (.builtin "object.__class__")))
    (c_x_Held : PySem.W.codeIn K cd_x_Held "Held.__init__" = true)
    (kp_x_Held : PySem.W.keepIn K (.ref f_x_Held) = true)
    (ty_C_Held : PySem.W.typeIn K (.ref C_Held) = some (.type "type"))
    (sa_E_Held : PySem.W.findIn K (.ref C_Held) "__setattr__" = some (some (.builtin "object.__setattr__")))
    (kc_C_Held : PySem.W.keepIn K (.ref C_Held) = true)
    (ti_E_Held : PySem.W.typeIn K (.ref f_x_Held) = some (.type "function"))
    (nf_E_Held_key : PySem.W.findIn K (.ref C_Held) "key" = some none)
    (ga_E_Held : PySem.W.findIn K (.ref C_Held) "__getattribute__" = some (some (.builtin "BaseException.__getattribute__")))
    (gt_E_Held : PySem.W.findIn K (.ref C_Held) "__getattr__" = some none)
    (hd_C_Held : PySem.W.hasDictIn K C_Held = true)
    (ncl_E_Held : PySem.W.findIn K (.ref C_Held) "__class__" = some (some (.builtin "object.__class__")))
    (c_x_TooMany : PySem.W.codeIn K cd_x_TooMany "TooMany.__init__" = true)
    (kp_x_TooMany : PySem.W.keepIn K (.ref f_x_TooMany) = true)
    (ty_C_TooMany : PySem.W.typeIn K (.ref C_TooMany) = some (.type "type"))
    (sa_E_TooMany : PySem.W.findIn K (.ref C_TooMany) "__setattr__" = some (some (.builtin "object.__setattr__")))
    (kc_C_TooMany : PySem.W.keepIn K (.ref C_TooMany) = true)
    (ti_E_TooMany : PySem.W.typeIn K (.ref f_x_TooMany) = some (.type "function"))
    (nf_E_TooMany_count : PySem.W.findIn K (.ref C_TooMany) "count" = some none)
    (ga_E_TooMany : PySem.W.findIn K (.ref C_TooMany) "__getattribute__" = some (some (.builtin "BaseException.__getattribute__")))
    (gt_E_TooMany : PySem.W.findIn K (.ref C_TooMany) "__getattr__" = some none)
    (hd_C_TooMany : PySem.W.hasDictIn K C_TooMany = true)
    (ncl_E_TooMany : PySem.W.findIn K (.ref C_TooMany) "__class__" = some (some (.builtin "object.__class__")))
    (c_x_NotStanding : PySem.W.codeIn K cd_x_NotStanding "NotStanding.__init__" = true)
    (kp_x_NotStanding : PySem.W.keepIn K (.ref f_x_NotStanding) = true)
    (ty_C_NotStanding : PySem.W.typeIn K (.ref C_NotStanding) = some (.type "type"))
    (sa_E_NotStanding : PySem.W.findIn K (.ref C_NotStanding) "__setattr__" = some (some (.builtin "object.__setattr__")))
    (kc_C_NotStanding : PySem.W.keepIn K (.ref C_NotStanding) = true)
    (ti_E_NotStanding : PySem.W.typeIn K (.ref f_x_NotStanding) = some (.type "function"))
    (nf_E_NotStanding_now : PySem.W.findIn K (.ref C_NotStanding) "now" = some none)
    (ga_E_NotStanding : PySem.W.findIn K (.ref C_NotStanding) "__getattribute__" = some (some (.builtin "BaseException.__getattribute__")))
    (gt_E_NotStanding : PySem.W.findIn K (.ref C_NotStanding) "__getattr__" = some none)
    (hd_C_NotStanding : PySem.W.hasDictIn K C_NotStanding = true)
    (ncl_E_NotStanding : PySem.W.findIn K (.ref C_NotStanding) "__class__" = some (some (.builtin "object.__class__")))
    (c_x_Down : PySem.W.codeIn K cd_x_Down "Down.__init__" = true)
    (kp_x_Down : PySem.W.keepIn K (.ref f_x_Down) = true)
    (ty_C_Down : PySem.W.typeIn K (.ref C_Down) = some (.type "type"))
    (sa_E_Down : PySem.W.findIn K (.ref C_Down) "__setattr__" = some (some (.builtin "object.__setattr__")))
    (kc_C_Down : PySem.W.keepIn K (.ref C_Down) = true)
    (ti_E_Down : PySem.W.typeIn K (.ref f_x_Down) = some (.type "function"))
    (nf_E_Down_house : PySem.W.findIn K (.ref C_Down) "house" = some none)
    (ga_E_Down : PySem.W.findIn K (.ref C_Down) "__getattribute__" = some (some (.builtin "BaseException.__getattribute__")))
    (gt_E_Down : PySem.W.findIn K (.ref C_Down) "__getattr__" = some none)
    (hd_C_Down : PySem.W.hasDictIn K C_Down = true)
    (ncl_E_Down : PySem.W.findIn K (.ref C_Down) "__class__" = some (some (.builtin "object.__class__")))
    (c_x_Up : PySem.W.codeIn K cd_x_Up "Up.__init__" = true)
    (kp_x_Up : PySem.W.keepIn K (.ref f_x_Up) = true)
    (ty_C_Up : PySem.W.typeIn K (.ref C_Up) = some (.type "type"))
    (sa_E_Up : PySem.W.findIn K (.ref C_Up) "__setattr__" = some (some (.builtin "object.__setattr__")))
    (kc_C_Up : PySem.W.keepIn K (.ref C_Up) = true)
    (ti_E_Up : PySem.W.typeIn K (.ref f_x_Up) = some (.type "function"))
    (nf_E_Up_house : PySem.W.findIn K (.ref C_Up) "house" = some none)
    (ga_E_Up : PySem.W.findIn K (.ref C_Up) "__getattribute__" = some (some (.builtin "BaseException.__getattribute__")))
    (gt_E_Up : PySem.W.findIn K (.ref C_Up) "__getattr__" = some none)
    (hd_C_Up : PySem.W.hasDictIn K C_Up = true)
    (ncl_E_Up : PySem.W.findIn K (.ref C_Up) "__class__" = some (some (.builtin "object.__class__")))
    (c_x_NoLetter : PySem.W.codeIn K cd_x_NoLetter "NoLetter.__init__" = true)
    (kp_x_NoLetter : PySem.W.keepIn K (.ref f_x_NoLetter) = true)
    (ty_C_NoLetter : PySem.W.typeIn K (.ref C_NoLetter) = some (.type "type"))
    (sa_E_NoLetter : PySem.W.findIn K (.ref C_NoLetter) "__setattr__" = some (some (.builtin "object.__setattr__")))
    (kc_C_NoLetter : PySem.W.keepIn K (.ref C_NoLetter) = true)
    (ti_E_NoLetter : PySem.W.typeIn K (.ref f_x_NoLetter) = some (.type "function"))
    (nf_E_NoLetter_k : PySem.W.findIn K (.ref C_NoLetter) "k" = some none)
    (ga_E_NoLetter : PySem.W.findIn K (.ref C_NoLetter) "__getattribute__" = some (some (.builtin "BaseException.__getattribute__")))
    (gt_E_NoLetter : PySem.W.findIn K (.ref C_NoLetter) "__getattr__" = some none)
    (hd_C_NoLetter : PySem.W.hasDictIn K C_NoLetter = true)
    (ncl_E_NoLetter : PySem.W.findIn K (.ref C_NoLetter) "__class__" = some (some (.builtin "object.__class__")))
    (c_x_Refused : PySem.W.codeIn K cd_x_Refused "Refused.__init__" = true)
    (kp_x_Refused : PySem.W.keepIn K (.ref f_x_Refused) = true)
    (ty_C_Refused : PySem.W.typeIn K (.ref C_Refused) = some (.type "type"))
    (sa_E_Refused : PySem.W.findIn K (.ref C_Refused) "__setattr__" = some (some (.builtin "object.__setattr__")))
    (kc_C_Refused : PySem.W.keepIn K (.ref C_Refused) = true)
    (ti_E_Refused : PySem.W.typeIn K (.ref f_x_Refused) = some (.type "function"))
    (nf_E_Refused_at : PySem.W.findIn K (.ref C_Refused) "at" = some none)
    (ga_E_Refused : PySem.W.findIn K (.ref C_Refused) "__getattribute__" = some (some (.builtin "BaseException.__getattribute__")))
    (gt_E_Refused : PySem.W.findIn K (.ref C_Refused) "__getattr__" = some none)
    (hd_C_Refused : PySem.W.hasDictIn K C_Refused = true)
    (ncl_E_Refused : PySem.W.findIn K (.ref C_Refused) "__class__" = some (some (.builtin "object.__class__")))
    (c_x_NotWhole : PySem.W.codeIn K cd_x_NotWhole "NotWhole.__init__" = true)
    (kp_x_NotWhole : PySem.W.keepIn K (.ref f_x_NotWhole) = true)
    (ty_C_NotWhole : PySem.W.typeIn K (.ref C_NotWhole) = some (.type "type"))
    (sa_E_NotWhole : PySem.W.findIn K (.ref C_NotWhole) "__setattr__" = some (some (.builtin "object.__setattr__")))
    (kc_C_NotWhole : PySem.W.keepIn K (.ref C_NotWhole) = true)
    (ti_E_NotWhole : PySem.W.typeIn K (.ref f_x_NotWhole) = some (.type "function"))
    (nf_E_NotWhole_house : PySem.W.findIn K (.ref C_NotWhole) "house" = some none)
    (ga_E_NotWhole : PySem.W.findIn K (.ref C_NotWhole) "__getattribute__" = some (some (.builtin "BaseException.__getattribute__")))
    (gt_E_NotWhole : PySem.W.findIn K (.ref C_NotWhole) "__getattr__" = some none)
    (hd_C_NotWhole : PySem.W.hasDictIn K C_NotWhole = true)
    (ncl_E_NotWhole : PySem.W.findIn K (.ref C_NotWhole) "__class__" = some (some (.builtin "object.__class__")))
    (c_x_Turned : PySem.W.codeIn K cd_x_Turned "Turned.__init__" = true)
    (kp_x_Turned : PySem.W.keepIn K (.ref f_x_Turned) = true)
    (ty_C_Turned : PySem.W.typeIn K (.ref C_Turned) = some (.type "type"))
    (sa_E_Turned : PySem.W.findIn K (.ref C_Turned) "__setattr__" = some (some (.builtin "object.__setattr__")))
    (kc_C_Turned : PySem.W.keepIn K (.ref C_Turned) = true)
    (ti_E_Turned : PySem.W.typeIn K (.ref f_x_Turned) = some (.type "function"))
    (nf_E_Turned_at : PySem.W.findIn K (.ref C_Turned) "at" = some none)
    (ga_E_Turned : PySem.W.findIn K (.ref C_Turned) "__getattribute__" = some (some (.builtin "BaseException.__getattribute__")))
    (gt_E_Turned : PySem.W.findIn K (.ref C_Turned) "__getattr__" = some none)
    (hd_C_Turned : PySem.W.hasDictIn K C_Turned = true)
    (ncl_E_Turned : PySem.W.findIn K (.ref C_Turned) "__class__" = some (some (.builtin "object.__class__")))
    (c_x_NotARoad : PySem.W.codeIn K cd_x_NotARoad "NotARoad.__init__" = true)
    (kp_x_NotARoad : PySem.W.keepIn K (.ref f_x_NotARoad) = true)
    (ty_C_NotARoad : PySem.W.typeIn K (.ref C_NotARoad) = some (.type "type"))
    (sa_E_NotARoad : PySem.W.findIn K (.ref C_NotARoad) "__setattr__" = some (some (.builtin "object.__setattr__")))
    (kc_C_NotARoad : PySem.W.keepIn K (.ref C_NotARoad) = true)
    (ti_E_NotARoad : PySem.W.typeIn K (.ref f_x_NotARoad) = some (.type "function"))
    (nf_E_NotARoad_u : PySem.W.findIn K (.ref C_NotARoad) "u" = some none)
    (nf_E_NotARoad_v : PySem.W.findIn K (.ref C_NotARoad) "v" = some none)
    (ga_E_NotARoad : PySem.W.findIn K (.ref C_NotARoad) "__getattribute__" = some (some (.builtin "BaseException.__getattribute__")))
    (gt_E_NotARoad : PySem.W.findIn K (.ref C_NotARoad) "__getattr__" = some none)
    (hd_C_NotARoad : PySem.W.hasDictIn K C_NotARoad = true)
    (ncl_E_NotARoad : PySem.W.findIn K (.ref C_NotARoad) "__class__" = some (some (.builtin "object.__class__")))
    (c_x_NothingUnderWay : PySem.W.codeIn K cd_x_NothingUnderWay "NothingUnderWay.__init__" = true)
    (kp_x_NothingUnderWay : PySem.W.keepIn K (.ref f_x_NothingUnderWay) = true)
    (ty_C_NothingUnderWay : PySem.W.typeIn K (.ref C_NothingUnderWay) = some (.type "type"))
    (sa_E_NothingUnderWay : PySem.W.findIn K (.ref C_NothingUnderWay) "__setattr__" = some (some (.builtin "object.__setattr__")))
    (kc_C_NothingUnderWay : PySem.W.keepIn K (.ref C_NothingUnderWay) = true)
    (ti_E_NothingUnderWay : PySem.W.typeIn K (.ref f_x_NothingUnderWay) = some (.type "function"))
    (nf_E_NothingUnderWay_u : PySem.W.findIn K (.ref C_NothingUnderWay) "u" = some none)
    (nf_E_NothingUnderWay_v : PySem.W.findIn K (.ref C_NothingUnderWay) "v" = some none)
    (ga_E_NothingUnderWay : PySem.W.findIn K (.ref C_NothingUnderWay) "__getattribute__" = some (some (.builtin "BaseException.__getattribute__")))
    (gt_E_NothingUnderWay : PySem.W.findIn K (.ref C_NothingUnderWay) "__getattr__" = some none)
    (hd_C_NothingUnderWay : PySem.W.hasDictIn K C_NothingUnderWay = true)
    (ncl_E_NothingUnderWay : PySem.W.findIn K (.ref C_NothingUnderWay) "__class__" = some (some (.builtin "object.__class__")))
    (c_x_NotAhead : PySem.W.codeIn K cd_x_NotAhead "NotAhead.__init__" = true)
    (kp_x_NotAhead : PySem.W.keepIn K (.ref f_x_NotAhead) = true)
    (ty_C_NotAhead : PySem.W.typeIn K (.ref C_NotAhead) = some (.type "type"))
    (sa_E_NotAhead : PySem.W.findIn K (.ref C_NotAhead) "__setattr__" = some (some (.builtin "object.__setattr__")))
    (kc_C_NotAhead : PySem.W.keepIn K (.ref C_NotAhead) = true)
    (ti_E_NotAhead : PySem.W.typeIn K (.ref f_x_NotAhead) = some (.type "function"))
    (nf_E_NotAhead_x : PySem.W.findIn K (.ref C_NotAhead) "x" = some none)
    (nf_E_NotAhead_z : PySem.W.findIn K (.ref C_NotAhead) "z" = some none)
    (ga_E_NotAhead : PySem.W.findIn K (.ref C_NotAhead) "__getattribute__" = some (some (.builtin "BaseException.__getattribute__")))
    (gt_E_NotAhead : PySem.W.findIn K (.ref C_NotAhead) "__getattr__" = some none)
    (hd_C_NotAhead : PySem.W.hasDictIn K C_NotAhead = true)
    (ncl_E_NotAhead : PySem.W.findIn K (.ref C_NotAhead) "__class__" = some (some (.builtin "object.__class__")))
    (c_x_SurelyAhead : PySem.W.codeIn K cd_x_SurelyAhead "SurelyAhead.__init__" = true)
    (kp_x_SurelyAhead : PySem.W.keepIn K (.ref f_x_SurelyAhead) = true)
    (ty_C_SurelyAhead : PySem.W.typeIn K (.ref C_SurelyAhead) = some (.type "type"))
    (sa_E_SurelyAhead : PySem.W.findIn K (.ref C_SurelyAhead) "__setattr__" = some (some (.builtin "object.__setattr__")))
    (kc_C_SurelyAhead : PySem.W.keepIn K (.ref C_SurelyAhead) = true)
    (ti_E_SurelyAhead : PySem.W.typeIn K (.ref f_x_SurelyAhead) = some (.type "function"))
    (nf_E_SurelyAhead_x : PySem.W.findIn K (.ref C_SurelyAhead) "x" = some none)
    (nf_E_SurelyAhead_z : PySem.W.findIn K (.ref C_SurelyAhead) "z" = some none)
    (ga_E_SurelyAhead : PySem.W.findIn K (.ref C_SurelyAhead) "__getattribute__" = some (some (.builtin "BaseException.__getattribute__")))
    (gt_E_SurelyAhead : PySem.W.findIn K (.ref C_SurelyAhead) "__getattr__" = some none)
    (hd_C_SurelyAhead : PySem.W.hasDictIn K C_SurelyAhead = true)
    (ncl_E_SurelyAhead : PySem.W.findIn K (.ref C_SurelyAhead) "__class__" = some (some (.builtin "object.__class__")))
    (r_q_NoStanding : PySem.W.excIn K C_NoStanding [.type "ValueError", .type "Exception", .type "BaseException", .type "object"] "ValueError.__new__" = true)
    (r_kc_NoStanding : PySem.W.keepIn K (.ref C_NoStanding) = true)
    (r_rb_NoStanding : PySem.W.subIn K (.ref C_NoStanding) (.type "BaseException") = some true)
    (r_rt_NoStanding : PySem.W.typeIn K (.ref C_NoStanding) = some (.type "type"))
    (ga_nv_NoStanding : PySem.W.findIn K (.ref C_NoStanding) "__getattribute__" = some (some (.builtin "BaseException.__getattribute__")))
    (gt_nv_NoStanding : PySem.W.findIn K (.ref C_NoStanding) "__getattr__" = some none)
    (hd_C_NoStanding : PySem.W.hasDictIn K C_NoStanding = true)
    (ncl_nv_NoStanding : PySem.W.findIn K (.ref C_NoStanding) "__class__" = some (some (.builtin "object.__class__")))
    (nmo_nv_NoStanding : PySem.W.mroIn K C_NoStanding (.type "object") = some true)
    (ty_C_UnsaidError : PySem.W.typeIn K (.ref C_UnsaidError) = some (.type "type"))
    (eb_C_UnsaidError : PySem.W.subIn K (.ref C_UnsaidError) (.type "BaseException") = some true)
    (hd_C_UnsaidError : PySem.W.hasDictIn K C_UnsaidError = true)
    (z_n_ValueError : PySem.W.nsIn K mainGlobals "ValueError" = some none)
    (z_n_abs : PySem.W.nsIn K mainGlobals "abs" = some none)
    (z_n_dict : PySem.W.nsIn K mainGlobals "dict" = some none)
    (z_n_int : PySem.W.nsIn K mainGlobals "int" = some none)
    (z_n_isinstance : PySem.W.nsIn K mainGlobals "isinstance" = some none)
    (z_n_len : PySem.W.nsIn K mainGlobals "len" = some none)
    (z_n_max : PySem.W.nsIn K mainGlobals "max" = some none)
    (z_n_min : PySem.W.nsIn K mainGlobals "min" = some none)
    (z_n_range : PySem.W.nsIn K mainGlobals "range" = some none)
    (z_n_repr : PySem.W.nsIn K mainGlobals "repr" = some none)
    (z_n_sum : PySem.W.nsIn K mainGlobals "sum" = some none)
    (c_d_l_cell : PySem.W.codeIn K cd_d_l_cell "_law_cell" = true)
    (kp_d_l_cell : PySem.W.keepIn K (.ref f_d_l_cell) = true)
    (c_d_l_box : PySem.W.codeIn K cd_d_l_box "_law_box" = true)
    (kp_d_l_box : PySem.W.keepIn K (.ref f_d_l_box) = true)
    (c_d_l_take : PySem.W.codeIn K cd_d_l_take "_law_take" = true)
    (kp_d_l_take : PySem.W.keepIn K (.ref f_d_l_take) = true)
    (c_d_l_by_place : PySem.W.codeIn K cd_d_l_by_place "_law_by_place" = true)
    (kp_d_l_by_place : PySem.W.keepIn K (.ref f_d_l_by_place) = true)
    (c_d_l_by_name : PySem.W.codeIn K cd_d_l_by_name "_law_by_name" = true)
    (kp_d_l_by_name : PySem.W.keepIn K (.ref f_d_l_by_name) = true)
    (c_d_l_pairs : PySem.W.codeIn K cd_d_l_pairs "_law_pairs" = true)
    (kp_d_l_pairs : PySem.W.keepIn K (.ref f_d_l_pairs) = true)
    (c_d_l_sorts : PySem.W.codeIn K cd_d_l_sorts "_law_sorts" = true)
    (kp_d_l_sorts : PySem.W.keepIn K (.ref f_d_l_sorts) = true)
    (c_d_l_is : PySem.W.codeIn K cd_d_l_is "_law_is" = true)
    (kp_d_l_is : PySem.W.keepIn K (.ref f_d_l_is) = true)
    (c_d_l_kept : PySem.W.codeIn K cd_d_l_kept "_law_kept" = true)
    (kp_d_l_kept : PySem.W.keepIn K (.ref f_d_l_kept) = true)
    (c_d_l_two_kept : PySem.W.codeIn K cd_d_l_two_kept "_law_two_kept" = true)
    (kp_d_l_two_kept : PySem.W.keepIn K (.ref f_d_l_two_kept) = true)
    (c_d_l_thing : PySem.W.codeIn K cd_d_l_thing "_law_thing" = true)
    (kp_d_l_thing : PySem.W.keepIn K (.ref f_d_l_thing) = true)
    (c_d_l_caught : PySem.W.codeIn K cd_d_l_caught "_law_caught" = true)
    (kp_d_l_caught : PySem.W.keepIn K (.ref f_d_l_caught) = true)
    (c_d_l_ones_right : PySem.W.codeIn K cd_d_l_ones_right "_law_ones_right" = true)
    (kp_d_l_ones_right : PySem.W.keepIn K (.ref f_d_l_ones_right) = true)
    (c_d_l_twos_right : PySem.W.codeIn K cd_d_l_twos_right "_law_twos_right" = true)
    (kp_d_l_twos_right : PySem.W.keepIn K (.ref f_d_l_twos_right) = true)
    (c_d_l_grown_right : PySem.W.codeIn K cd_d_l_grown_right "_law_grown_right" = true)
    (kp_d_l_grown_right : PySem.W.keepIn K (.ref f_d_l_grown_right) = true)
    (c_d_law : PySem.W.codeIn K cd_d_law "law" = true)
    (kp_d_law : PySem.W.keepIn K (.ref f_d_law) = true) :
    ∃ fd : FuncData, (∀ (s : Shared) (v : Value), BindsTo s fd ⟨[v], []⟩ [("_law_script", v)]) ∧ ∀ base : Heap, K.In base → base.Ns mainGlobals mg → FnG P w K mg base 5 fa fd ["_law_script"] (spLaw K) := by
  have e := hfa.symm.trans (mg_of X G a_d_law)
  cases e
  have F_x_InvalidLine := fun_mk (st := s_InvalidLine_init) l_x_InvalidLine c_x_InvalidLine kp_x_InvalidLine
  have b_x_InvalidLine := F_x_InvalidLine.binds (ps := ["self", "given"]) fun _ _ _ _ _ _ us hl => match us, hl with | [_, _], _ => rfl
  have n_E_InvalidLine : ErrN K C_UnsaidError C_InvalidLine "InvalidLine" := ⟨⟨_, _, _, _, _, _, _, _, _, _, _, _, _, xl_E_InvalidLine⟩, ty_C_InvalidLine⟩
  have F_x_InvalidText := fun_mk (st := s_InvalidText_init) l_x_InvalidText c_x_InvalidText kp_x_InvalidText
  have b_x_InvalidText := F_x_InvalidText.binds (ps := ["self", "given"]) fun _ _ _ _ _ _ us hl => match us, hl with | [_, _], _ => rfl
  have n_E_InvalidText : ErrN K C_UnsaidError C_InvalidText "InvalidText" := ⟨⟨_, _, _, _, _, _, _, _, _, _, _, _, _, xl_E_InvalidText⟩, ty_C_InvalidText⟩
  have F_x_InvalidCell := fun_mk (st := s_InvalidCell_init) l_x_InvalidCell c_x_InvalidCell kp_x_InvalidCell
  have b_x_InvalidCell := F_x_InvalidCell.binds (ps := ["self", "given"]) fun _ _ _ _ _ _ us hl => match us, hl with | [_, _], _ => rfl
  have n_E_InvalidCell : ErrN K C_UnsaidError C_InvalidCell "InvalidCell" := ⟨⟨_, _, _, _, _, _, _, _, _, _, _, _, _, xl_E_InvalidCell⟩, ty_C_InvalidCell⟩
  have F_x_InvalidHouses := fun_mk (st := s_InvalidHouses_init) l_x_InvalidHouses c_x_InvalidHouses kp_x_InvalidHouses
  have b_x_InvalidHouses := F_x_InvalidHouses.binds (ps := ["self", "given"]) fun _ _ _ _ _ _ us hl => match us, hl with | [_, _], _ => rfl
  have n_E_InvalidHouses : ErrN K C_UnsaidError C_InvalidHouses "InvalidHouses" := ⟨⟨_, _, _, _, _, _, _, _, _, _, _, _, _, xl_E_InvalidHouses⟩, ty_C_InvalidHouses⟩
  have F_x_InvalidRoads := fun_mk (st := s_InvalidRoads_init) l_x_InvalidRoads c_x_InvalidRoads kp_x_InvalidRoads
  have b_x_InvalidRoads := F_x_InvalidRoads.binds (ps := ["self", "given"]) fun _ _ _ _ _ _ us hl => match us, hl with | [_, _], _ => rfl
  have n_E_InvalidRoads : ErrN K C_UnsaidError C_InvalidRoads "InvalidRoads" := ⟨⟨_, _, _, _, _, _, _, _, _, _, _, _, _, xl_E_InvalidRoads⟩, ty_C_InvalidRoads⟩
  have F_x_InvalidHouse := fun_mk (st := s_InvalidHouse_init) l_x_InvalidHouse c_x_InvalidHouse kp_x_InvalidHouse
  have b_x_InvalidHouse := F_x_InvalidHouse.binds (ps := ["self", "given"]) fun _ _ _ _ _ _ us hl => match us, hl with | [_, _], _ => rfl
  have n_E_InvalidHouse : ErrN K C_UnsaidError C_InvalidHouse "InvalidHouse" := ⟨⟨_, _, _, _, _, _, _, _, _, _, _, _, _, xl_E_InvalidHouse⟩, ty_C_InvalidHouse⟩
  have F_x_InvalidSigns := fun_mk (st := s_InvalidSigns_init) l_x_InvalidSigns c_x_InvalidSigns kp_x_InvalidSigns
  have b_x_InvalidSigns := F_x_InvalidSigns.binds (ps := ["self", "given"]) fun _ _ _ _ _ _ us hl => match us, hl with | [_, _], _ => rfl
  have n_E_InvalidSigns : ErrN K C_UnsaidError C_InvalidSigns "InvalidSigns" := ⟨⟨_, _, _, _, _, _, _, _, _, _, _, _, _, xl_E_InvalidSigns⟩, ty_C_InvalidSigns⟩
  have F_x_InvalidCount := fun_mk (st := s_InvalidCount_init) l_x_InvalidCount c_x_InvalidCount kp_x_InvalidCount
  have b_x_InvalidCount := F_x_InvalidCount.binds (ps := ["self", "given"]) fun _ _ _ _ _ _ us hl => match us, hl with | [_, _], _ => rfl
  have n_E_InvalidCount : ErrN K C_UnsaidError C_InvalidCount "InvalidCount" := ⟨⟨_, _, _, _, _, _, _, _, _, _, _, _, _, xl_E_InvalidCount⟩, ty_C_InvalidCount⟩
  have F_x_InvalidLines := fun_mk (st := s_InvalidLines_init) l_x_InvalidLines c_x_InvalidLines kp_x_InvalidLines
  have b_x_InvalidLines := F_x_InvalidLines.binds (ps := ["self", "given"]) fun _ _ _ _ _ _ us hl => match us, hl with | [_, _], _ => rfl
  have n_E_InvalidLines : ErrN K C_UnsaidError C_InvalidLines "InvalidLines" := ⟨⟨_, _, _, _, _, _, _, _, _, _, _, _, _, xl_E_InvalidLines⟩, ty_C_InvalidLines⟩
  have F_x_InvalidScript := fun_mk (st := s_InvalidScript_init) l_x_InvalidScript c_x_InvalidScript kp_x_InvalidScript
  have b_x_InvalidScript := F_x_InvalidScript.binds (ps := ["self", "given"]) fun _ _ _ _ _ _ us hl => match us, hl with | [_, _], _ => rfl
  have n_E_InvalidScript : ErrN K C_UnsaidError C_InvalidScript "InvalidScript" := ⟨⟨_, _, _, _, _, _, _, _, _, _, _, _, _, xl_E_InvalidScript⟩, ty_C_InvalidScript⟩
  have F_x_InvalidRows := fun_mk (st := s_InvalidRows_init) l_x_InvalidRows c_x_InvalidRows kp_x_InvalidRows
  have b_x_InvalidRows := F_x_InvalidRows.binds (ps := ["self", "given"]) fun _ _ _ _ _ _ us hl => match us, hl with | [_, _], _ => rfl
  have n_E_InvalidRows : ErrN K C_UnsaidError C_InvalidRows "InvalidRows" := ⟨⟨_, _, _, _, _, _, _, _, _, _, _, _, _, xl_E_InvalidRows⟩, ty_C_InvalidRows⟩
  have F_x_InvalidLater := fun_mk (st := s_InvalidLater_init) l_x_InvalidLater c_x_InvalidLater kp_x_InvalidLater
  have b_x_InvalidLater := F_x_InvalidLater.binds (ps := ["self", "given"]) fun _ _ _ _ _ _ us hl => match us, hl with | [_, _], _ => rfl
  have n_E_InvalidLater : ErrN K C_UnsaidError C_InvalidLater "InvalidLater" := ⟨⟨_, _, _, _, _, _, _, _, _, _, _, _, _, xl_E_InvalidLater⟩, ty_C_InvalidLater⟩
  have F_x_InvalidKey := fun_mk (st := s_InvalidKey_init) l_x_InvalidKey c_x_InvalidKey kp_x_InvalidKey
  have b_x_InvalidKey := F_x_InvalidKey.binds (ps := ["self", "given"]) fun _ _ _ _ _ _ us hl => match us, hl with | [_, _], _ => rfl
  have n_E_InvalidKey : ErrN K C_UnsaidError C_InvalidKey "InvalidKey" := ⟨⟨_, _, _, _, _, _, _, _, _, _, _, _, _, xl_E_InvalidKey⟩, ty_C_InvalidKey⟩
  have F_x_InvalidLife := fun_mk (st := s_InvalidLife_init) l_x_InvalidLife c_x_InvalidLife kp_x_InvalidLife
  have b_x_InvalidLife := F_x_InvalidLife.binds (ps := ["self", "given"]) fun _ _ _ _ _ _ us hl => match us, hl with | [_, _], _ => rfl
  have n_E_InvalidLife : ErrN K C_UnsaidError C_InvalidLife "InvalidLife" := ⟨⟨_, _, _, _, _, _, _, _, _, _, _, _, _, xl_E_InvalidLife⟩, ty_C_InvalidLife⟩
  have F_x_InvalidLetter := fun_mk (st := s_InvalidLetter_init) l_x_InvalidLetter c_x_InvalidLetter kp_x_InvalidLetter
  have b_x_InvalidLetter := F_x_InvalidLetter.binds (ps := ["self", "given"]) fun _ _ _ _ _ _ us hl => match us, hl with | [_, _], _ => rfl
  have n_E_InvalidLetter : ErrN K C_UnsaidError C_InvalidLetter "InvalidLetter" := ⟨⟨_, _, _, _, _, _, _, _, _, _, _, _, _, xl_E_InvalidLetter⟩, ty_C_InvalidLetter⟩
  have F_x_InvalidActs := fun_mk (st := s_InvalidActs_init) l_x_InvalidActs c_x_InvalidActs kp_x_InvalidActs
  have b_x_InvalidActs := F_x_InvalidActs.binds (ps := ["self", "given"]) fun _ _ _ _ _ _ us hl => match us, hl with | [_, _], _ => rfl
  have n_E_InvalidActs : ErrN K C_UnsaidError C_InvalidActs "InvalidActs" := ⟨⟨_, _, _, _, _, _, _, _, _, _, _, _, _, xl_E_InvalidActs⟩, ty_C_InvalidActs⟩
  have F_x_InvalidAct := fun_mk (st := s_InvalidAct_init) l_x_InvalidAct c_x_InvalidAct kp_x_InvalidAct
  have b_x_InvalidAct := F_x_InvalidAct.binds (ps := ["self", "given"]) fun _ _ _ _ _ _ us hl => match us, hl with | [_, _], _ => rfl
  have n_E_InvalidAct : ErrN K C_UnsaidError C_InvalidAct "InvalidAct" := ⟨⟨_, _, _, _, _, _, _, _, _, _, _, _, _, xl_E_InvalidAct⟩, ty_C_InvalidAct⟩
  have F_x_InvalidKinds := fun_mk (st := s_InvalidKinds_init) l_x_InvalidKinds c_x_InvalidKinds kp_x_InvalidKinds
  have b_x_InvalidKinds := F_x_InvalidKinds.binds (ps := ["self", "given"]) fun _ _ _ _ _ _ us hl => match us, hl with | [_, _], _ => rfl
  have n_E_InvalidKinds : ErrN K C_UnsaidError C_InvalidKinds "InvalidKinds" := ⟨⟨_, _, _, _, _, _, _, _, _, _, _, _, _, xl_E_InvalidKinds⟩, ty_C_InvalidKinds⟩
  have F_x_InvalidIndex := fun_mk (st := s_InvalidIndex_init) l_x_InvalidIndex c_x_InvalidIndex kp_x_InvalidIndex
  have b_x_InvalidIndex := F_x_InvalidIndex.binds (ps := ["self", "given"]) fun _ _ _ _ _ _ us hl => match us, hl with | [_, _], _ => rfl
  have n_E_InvalidIndex : ErrN K C_UnsaidError C_InvalidIndex "InvalidIndex" := ⟨⟨_, _, _, _, _, _, _, _, _, _, _, _, _, xl_E_InvalidIndex⟩, ty_C_InvalidIndex⟩
  have F_x_NotJoined := fun_mk (st := s_NotJoined_init) l_x_NotJoined c_x_NotJoined kp_x_NotJoined
  have b_x_NotJoined := F_x_NotJoined.binds (ps := ["self", "house"]) fun _ _ _ _ _ _ us hl => match us, hl with | [_, _], _ => rfl
  have n_E_NotJoined : ErrN K C_UnsaidError C_NotJoined "NotJoined" := ⟨⟨_, _, _, _, _, _, _, _, _, _, _, _, _, xl_E_NotJoined⟩, ty_C_NotJoined⟩
  have F_x_Stopped := fun_mk (st := s_Stopped_init) l_x_Stopped c_x_Stopped kp_x_Stopped
  have b_x_Stopped := F_x_Stopped.binds (ps := ["self", "at"]) fun _ _ _ _ _ _ us hl => match us, hl with | [_, _], _ => rfl
  have n_E_Stopped : ErrN K C_UnsaidError C_Stopped "Stopped" := ⟨⟨_, _, _, _, _, _, _, _, _, _, _, _, _, xl_E_Stopped⟩, ty_C_Stopped⟩
  have F_x_Faulty := fun_mk (st := s_Faulty_init) l_x_Faulty c_x_Faulty kp_x_Faulty
  have b_x_Faulty := F_x_Faulty.binds (ps := ["self", "fault"]) fun _ _ _ _ _ _ us hl => match us, hl with | [_, _], _ => rfl
  have n_E_Faulty : ErrN K C_UnsaidError C_Faulty "Faulty" := ⟨⟨_, _, _, _, _, _, _, _, _, _, _, _, _, xl_E_Faulty⟩, ty_C_Faulty⟩
  have F_x_DoNotFit := fun_mk (st := s_DoNotFit_init) l_x_DoNotFit c_x_DoNotFit kp_x_DoNotFit
  have b_x_DoNotFit := F_x_DoNotFit.binds (ps := ["self", "picture"]) fun _ _ _ _ _ _ us hl => match us, hl with | [_, _], _ => rfl
  have n_E_DoNotFit : ErrN K C_UnsaidError C_DoNotFit "DoNotFit" := ⟨⟨_, _, _, _, _, _, _, _, _, _, _, _, _, xl_E_DoNotFit⟩, ty_C_DoNotFit⟩
  have F_x_SameKey := fun_mk (st := s_SameKey_init) l_x_SameKey c_x_SameKey kp_x_SameKey
  have b_x_SameKey := F_x_SameKey.binds (ps := ["self", "key"]) fun _ _ _ _ _ _ us hl => match us, hl with | [_, _], _ => rfl
  have n_E_SameKey : ErrN K C_UnsaidError C_SameKey "SameKey" := ⟨⟨_, _, _, _, _, _, _, _, _, _, _, _, _, xl_E_SameKey⟩, ty_C_SameKey⟩
  have F_x_NotHeld := fun_mk (st := s_NotHeld_init) l_x_NotHeld c_x_NotHeld kp_x_NotHeld
  have b_x_NotHeld := F_x_NotHeld.binds (ps := ["self", "key"]) fun _ _ _ _ _ _ us hl => match us, hl with | [_, _], _ => rfl
  have n_E_NotHeld : ErrN K C_UnsaidError C_NotHeld "NotHeld" := ⟨⟨_, _, _, _, _, _, _, _, _, _, _, _, _, xl_E_NotHeld⟩, ty_C_NotHeld⟩
  have F_x_Held := fun_mk (st := s_Held_init) l_x_Held c_x_Held kp_x_Held
  have b_x_Held := F_x_Held.binds (ps := ["self", "key"]) fun _ _ _ _ _ _ us hl => match us, hl with | [_, _], _ => rfl
  have n_E_Held : ErrN K C_UnsaidError C_Held "Held" := ⟨⟨_, _, _, _, _, _, _, _, _, _, _, _, _, xl_E_Held⟩, ty_C_Held⟩
  have F_x_TooMany := fun_mk (st := s_TooMany_init) l_x_TooMany c_x_TooMany kp_x_TooMany
  have b_x_TooMany := F_x_TooMany.binds (ps := ["self", "count"]) fun _ _ _ _ _ _ us hl => match us, hl with | [_, _], _ => rfl
  have n_E_TooMany : ErrN K C_UnsaidError C_TooMany "TooMany" := ⟨⟨_, _, _, _, _, _, _, _, _, _, _, _, _, xl_E_TooMany⟩, ty_C_TooMany⟩
  have F_x_NotStanding := fun_mk (st := s_NotStanding_init) l_x_NotStanding c_x_NotStanding kp_x_NotStanding
  have b_x_NotStanding := F_x_NotStanding.binds (ps := ["self", "now"]) fun _ _ _ _ _ _ us hl => match us, hl with | [_, _], _ => rfl
  have n_E_NotStanding : ErrN K C_UnsaidError C_NotStanding "NotStanding" := ⟨⟨_, _, _, _, _, _, _, _, _, _, _, _, _, xl_E_NotStanding⟩, ty_C_NotStanding⟩
  have F_x_Down := fun_mk (st := s_Down_init) l_x_Down c_x_Down kp_x_Down
  have b_x_Down := F_x_Down.binds (ps := ["self", "house"]) fun _ _ _ _ _ _ us hl => match us, hl with | [_, _], _ => rfl
  have n_E_Down : ErrN K C_UnsaidError C_Down "Down" := ⟨⟨_, _, _, _, _, _, _, _, _, _, _, _, _, xl_E_Down⟩, ty_C_Down⟩
  have F_x_Up := fun_mk (st := s_Up_init) l_x_Up c_x_Up kp_x_Up
  have b_x_Up := F_x_Up.binds (ps := ["self", "house"]) fun _ _ _ _ _ _ us hl => match us, hl with | [_, _], _ => rfl
  have n_E_Up : ErrN K C_UnsaidError C_Up "Up" := ⟨⟨_, _, _, _, _, _, _, _, _, _, _, _, _, xl_E_Up⟩, ty_C_Up⟩
  have F_x_NoLetter := fun_mk (st := s_NoLetter_init) l_x_NoLetter c_x_NoLetter kp_x_NoLetter
  have b_x_NoLetter := F_x_NoLetter.binds (ps := ["self", "k"]) fun _ _ _ _ _ _ us hl => match us, hl with | [_, _], _ => rfl
  have n_E_NoLetter : ErrN K C_UnsaidError C_NoLetter "NoLetter" := ⟨⟨_, _, _, _, _, _, _, _, _, _, _, _, _, xl_E_NoLetter⟩, ty_C_NoLetter⟩
  have F_x_Refused := fun_mk (st := s_Refused_init) l_x_Refused c_x_Refused kp_x_Refused
  have b_x_Refused := F_x_Refused.binds (ps := ["self", "at"]) fun _ _ _ _ _ _ us hl => match us, hl with | [_, _], _ => rfl
  have n_E_Refused : ErrN K C_UnsaidError C_Refused "Refused" := ⟨⟨_, _, _, _, _, _, _, _, _, _, _, _, _, xl_E_Refused⟩, ty_C_Refused⟩
  have F_x_NotWhole := fun_mk (st := s_NotWhole_init) l_x_NotWhole c_x_NotWhole kp_x_NotWhole
  have b_x_NotWhole := F_x_NotWhole.binds (ps := ["self", "house"]) fun _ _ _ _ _ _ us hl => match us, hl with | [_, _], _ => rfl
  have n_E_NotWhole : ErrN K C_UnsaidError C_NotWhole "NotWhole" := ⟨⟨_, _, _, _, _, _, _, _, _, _, _, _, _, xl_E_NotWhole⟩, ty_C_NotWhole⟩
  have F_x_Turned := fun_mk (st := s_Turned_init) l_x_Turned c_x_Turned kp_x_Turned
  have b_x_Turned := F_x_Turned.binds (ps := ["self", "at"]) fun _ _ _ _ _ _ us hl => match us, hl with | [_, _], _ => rfl
  have n_E_Turned : ErrN K C_UnsaidError C_Turned "Turned" := ⟨⟨_, _, _, _, _, _, _, _, _, _, _, _, _, xl_E_Turned⟩, ty_C_Turned⟩
  have F_x_NotARoad := fun_mk (st := s_NotARoad_init) l_x_NotARoad c_x_NotARoad kp_x_NotARoad
  have b_x_NotARoad := F_x_NotARoad.binds (ps := ["self", "u", "v"]) fun _ _ _ _ _ _ us hl => match us, hl with | [_, _, _], _ => rfl
  have n_E_NotARoad : ErrN K C_UnsaidError C_NotARoad "NotARoad" := ⟨⟨_, _, _, _, _, _, _, _, _, _, _, _, _, xl_E_NotARoad⟩, ty_C_NotARoad⟩
  have F_x_NothingUnderWay := fun_mk (st := s_NothingUnderWay_init) l_x_NothingUnderWay c_x_NothingUnderWay kp_x_NothingUnderWay
  have b_x_NothingUnderWay := F_x_NothingUnderWay.binds (ps := ["self", "u", "v"]) fun _ _ _ _ _ _ us hl => match us, hl with | [_, _, _], _ => rfl
  have n_E_NothingUnderWay : ErrN K C_UnsaidError C_NothingUnderWay "NothingUnderWay" := ⟨⟨_, _, _, _, _, _, _, _, _, _, _, _, _, xl_E_NothingUnderWay⟩, ty_C_NothingUnderWay⟩
  have F_x_NotAhead := fun_mk (st := s_NotAhead_init) l_x_NotAhead c_x_NotAhead kp_x_NotAhead
  have b_x_NotAhead := F_x_NotAhead.binds (ps := ["self", "x", "z"]) fun _ _ _ _ _ _ us hl => match us, hl with | [_, _, _], _ => rfl
  have n_E_NotAhead : ErrN K C_UnsaidError C_NotAhead "NotAhead" := ⟨⟨_, _, _, _, _, _, _, _, _, _, _, _, _, xl_E_NotAhead⟩, ty_C_NotAhead⟩
  have F_x_SurelyAhead := fun_mk (st := s_SurelyAhead_init) l_x_SurelyAhead c_x_SurelyAhead kp_x_SurelyAhead
  have b_x_SurelyAhead := F_x_SurelyAhead.binds (ps := ["self", "x", "z"]) fun _ _ _ _ _ _ us hl => match us, hl with | [_, _, _], _ => rfl
  have n_E_SurelyAhead : ErrN K C_UnsaidError C_SurelyAhead "SurelyAhead" := ⟨⟨_, _, _, _, _, _, _, _, _, _, _, _, _, xl_E_SurelyAhead⟩, ty_C_SurelyAhead⟩
  have F_d_l_cell := fun_mk (st := s_l_cell) l_d_l_cell c_d_l_cell kp_d_l_cell
  have F_d_l_box := fun_mk (st := s_l_box) l_d_l_box c_d_l_box kp_d_l_box
  have F_d_l_take := fun_mk (st := s_l_take) l_d_l_take c_d_l_take kp_d_l_take
  have F_d_l_by_place := fun_mk (st := s_l_by_place) l_d_l_by_place c_d_l_by_place kp_d_l_by_place
  have F_d_l_by_name := fun_mk (st := s_l_by_name) l_d_l_by_name c_d_l_by_name kp_d_l_by_name
  have F_d_l_pairs := fun_mk (st := s_l_pairs) l_d_l_pairs c_d_l_pairs kp_d_l_pairs
  have F_d_l_sorts := fun_mk (st := s_l_sorts) l_d_l_sorts c_d_l_sorts kp_d_l_sorts
  have F_d_l_is := fun_mk (st := s_l_is) l_d_l_is c_d_l_is kp_d_l_is
  have F_d_l_kept := fun_mk (st := s_l_kept) l_d_l_kept c_d_l_kept kp_d_l_kept
  have F_d_l_two_kept := fun_mk (st := s_l_two_kept) l_d_l_two_kept c_d_l_two_kept kp_d_l_two_kept
  have F_d_l_thing := fun_mk (st := s_l_thing) l_d_l_thing c_d_l_thing kp_d_l_thing
  have F_d_l_caught := fun_mk (st := s_l_caught) l_d_l_caught c_d_l_caught kp_d_l_caught
  have F_d_l_ones_right := fun_mk (st := s_l_ones_right) l_d_l_ones_right c_d_l_ones_right kp_d_l_ones_right
  have F_d_l_twos_right := fun_mk (st := s_l_twos_right) l_d_l_twos_right c_d_l_twos_right kp_d_l_twos_right
  have F_d_l_grown_right := fun_mk (st := s_l_grown_right) l_d_l_grown_right c_d_l_grown_right kp_d_l_grown_right
  have F_d_law := fun_mk (st := s_law) l_d_law c_d_law kp_d_law
  let T : Tx K mg := {
    C_UnsaidError := C_UnsaidError,
    C_InvalidLine := C_InvalidLine,
    E_InvalidLine := ⟨⟨f_x_InvalidLine, _, ⟨mg_of X G g_E_InvalidLine, ⟨⟨_, _, _, _, _, _, _, _, _, _, _, _, _, _, _, xl_E_InvalidLine, refs_U _⟩, sa_E_InvalidLine, n_E_InvalidLine.eb, ty_C_InvalidLine, kc_C_InvalidLine⟩, a_x_InvalidLine, ti_E_InvalidLine, ⟨ga_E_InvalidLine, gt_E_InvalidLine, n_E_InvalidLine.eb, hd_C_InvalidLine, ncl_E_InvalidLine, nsp, ntk, n_E_InvalidLine.mo⟩⟩, fun P w base => ok_xi F_x_InvalidLine sc_InvalidLine_init rfl (by decide) (by decide), b_x_InvalidLine, fun us ws h1 h2 => match us, ws, h1, h2 with | [_], [_], _, _ => rfl⟩, nf_E_InvalidLine_given, n_E_InvalidLine⟩,
    C_InvalidText := C_InvalidText,
    E_InvalidText := ⟨⟨f_x_InvalidText, _, ⟨mg_of X G g_E_InvalidText, ⟨⟨_, _, _, _, _, _, _, _, _, _, _, _, _, _, _, xl_E_InvalidText, refs_U _⟩, sa_E_InvalidText, n_E_InvalidText.eb, ty_C_InvalidText, kc_C_InvalidText⟩, a_x_InvalidText, ti_E_InvalidText, ⟨ga_E_InvalidText, gt_E_InvalidText, n_E_InvalidText.eb, hd_C_InvalidText, ncl_E_InvalidText, nsp, ntk, n_E_InvalidText.mo⟩⟩, fun P w base => ok_xi F_x_InvalidText sc_InvalidText_init rfl (by decide) (by decide), b_x_InvalidText, fun us ws h1 h2 => match us, ws, h1, h2 with | [_], [_], _, _ => rfl⟩, nf_E_InvalidText_given, n_E_InvalidText⟩,
    C_InvalidCell := C_InvalidCell,
    E_InvalidCell := ⟨⟨f_x_InvalidCell, _, ⟨mg_of X G g_E_InvalidCell, ⟨⟨_, _, _, _, _, _, _, _, _, _, _, _, _, _, _, xl_E_InvalidCell, refs_U _⟩, sa_E_InvalidCell, n_E_InvalidCell.eb, ty_C_InvalidCell, kc_C_InvalidCell⟩, a_x_InvalidCell, ti_E_InvalidCell, ⟨ga_E_InvalidCell, gt_E_InvalidCell, n_E_InvalidCell.eb, hd_C_InvalidCell, ncl_E_InvalidCell, nsp, ntk, n_E_InvalidCell.mo⟩⟩, fun P w base => ok_xi F_x_InvalidCell sc_InvalidCell_init rfl (by decide) (by decide), b_x_InvalidCell, fun us ws h1 h2 => match us, ws, h1, h2 with | [_], [_], _, _ => rfl⟩, nf_E_InvalidCell_given, n_E_InvalidCell⟩,
    C_InvalidHouses := C_InvalidHouses,
    E_InvalidHouses := ⟨⟨f_x_InvalidHouses, _, ⟨mg_of X G g_E_InvalidHouses, ⟨⟨_, _, _, _, _, _, _, _, _, _, _, _, _, _, _, xl_E_InvalidHouses, refs_U _⟩, sa_E_InvalidHouses, n_E_InvalidHouses.eb, ty_C_InvalidHouses, kc_C_InvalidHouses⟩, a_x_InvalidHouses, ti_E_InvalidHouses, ⟨ga_E_InvalidHouses, gt_E_InvalidHouses, n_E_InvalidHouses.eb, hd_C_InvalidHouses, ncl_E_InvalidHouses, nsp, ntk, n_E_InvalidHouses.mo⟩⟩, fun P w base => ok_xi F_x_InvalidHouses sc_InvalidHouses_init rfl (by decide) (by decide), b_x_InvalidHouses, fun us ws h1 h2 => match us, ws, h1, h2 with | [_], [_], _, _ => rfl⟩, nf_E_InvalidHouses_given, n_E_InvalidHouses⟩,
    C_InvalidRoads := C_InvalidRoads,
    E_InvalidRoads := ⟨⟨f_x_InvalidRoads, _, ⟨mg_of X G g_E_InvalidRoads, ⟨⟨_, _, _, _, _, _, _, _, _, _, _, _, _, _, _, xl_E_InvalidRoads, refs_U _⟩, sa_E_InvalidRoads, n_E_InvalidRoads.eb, ty_C_InvalidRoads, kc_C_InvalidRoads⟩, a_x_InvalidRoads, ti_E_InvalidRoads, ⟨ga_E_InvalidRoads, gt_E_InvalidRoads, n_E_InvalidRoads.eb, hd_C_InvalidRoads, ncl_E_InvalidRoads, nsp, ntk, n_E_InvalidRoads.mo⟩⟩, fun P w base => ok_xi F_x_InvalidRoads sc_InvalidRoads_init rfl (by decide) (by decide), b_x_InvalidRoads, fun us ws h1 h2 => match us, ws, h1, h2 with | [_], [_], _, _ => rfl⟩, nf_E_InvalidRoads_given, n_E_InvalidRoads⟩,
    C_InvalidHouse := C_InvalidHouse,
    E_InvalidHouse := ⟨⟨f_x_InvalidHouse, _, ⟨mg_of X G g_E_InvalidHouse, ⟨⟨_, _, _, _, _, _, _, _, _, _, _, _, _, _, _, xl_E_InvalidHouse, refs_U _⟩, sa_E_InvalidHouse, n_E_InvalidHouse.eb, ty_C_InvalidHouse, kc_C_InvalidHouse⟩, a_x_InvalidHouse, ti_E_InvalidHouse, ⟨ga_E_InvalidHouse, gt_E_InvalidHouse, n_E_InvalidHouse.eb, hd_C_InvalidHouse, ncl_E_InvalidHouse, nsp, ntk, n_E_InvalidHouse.mo⟩⟩, fun P w base => ok_xi F_x_InvalidHouse sc_InvalidHouse_init rfl (by decide) (by decide), b_x_InvalidHouse, fun us ws h1 h2 => match us, ws, h1, h2 with | [_], [_], _, _ => rfl⟩, nf_E_InvalidHouse_given, n_E_InvalidHouse⟩,
    C_InvalidSigns := C_InvalidSigns,
    E_InvalidSigns := ⟨⟨f_x_InvalidSigns, _, ⟨mg_of X G g_E_InvalidSigns, ⟨⟨_, _, _, _, _, _, _, _, _, _, _, _, _, _, _, xl_E_InvalidSigns, refs_U _⟩, sa_E_InvalidSigns, n_E_InvalidSigns.eb, ty_C_InvalidSigns, kc_C_InvalidSigns⟩, a_x_InvalidSigns, ti_E_InvalidSigns, ⟨ga_E_InvalidSigns, gt_E_InvalidSigns, n_E_InvalidSigns.eb, hd_C_InvalidSigns, ncl_E_InvalidSigns, nsp, ntk, n_E_InvalidSigns.mo⟩⟩, fun P w base => ok_xi F_x_InvalidSigns sc_InvalidSigns_init rfl (by decide) (by decide), b_x_InvalidSigns, fun us ws h1 h2 => match us, ws, h1, h2 with | [_], [_], _, _ => rfl⟩, nf_E_InvalidSigns_given, n_E_InvalidSigns⟩,
    C_InvalidCount := C_InvalidCount,
    E_InvalidCount := ⟨⟨f_x_InvalidCount, _, ⟨mg_of X G g_E_InvalidCount, ⟨⟨_, _, _, _, _, _, _, _, _, _, _, _, _, _, _, xl_E_InvalidCount, refs_U _⟩, sa_E_InvalidCount, n_E_InvalidCount.eb, ty_C_InvalidCount, kc_C_InvalidCount⟩, a_x_InvalidCount, ti_E_InvalidCount, ⟨ga_E_InvalidCount, gt_E_InvalidCount, n_E_InvalidCount.eb, hd_C_InvalidCount, ncl_E_InvalidCount, nsp, ntk, n_E_InvalidCount.mo⟩⟩, fun P w base => ok_xi F_x_InvalidCount sc_InvalidCount_init rfl (by decide) (by decide), b_x_InvalidCount, fun us ws h1 h2 => match us, ws, h1, h2 with | [_], [_], _, _ => rfl⟩, nf_E_InvalidCount_given, n_E_InvalidCount⟩,
    C_InvalidLines := C_InvalidLines,
    E_InvalidLines := ⟨⟨f_x_InvalidLines, _, ⟨mg_of X G g_E_InvalidLines, ⟨⟨_, _, _, _, _, _, _, _, _, _, _, _, _, _, _, xl_E_InvalidLines, refs_U _⟩, sa_E_InvalidLines, n_E_InvalidLines.eb, ty_C_InvalidLines, kc_C_InvalidLines⟩, a_x_InvalidLines, ti_E_InvalidLines, ⟨ga_E_InvalidLines, gt_E_InvalidLines, n_E_InvalidLines.eb, hd_C_InvalidLines, ncl_E_InvalidLines, nsp, ntk, n_E_InvalidLines.mo⟩⟩, fun P w base => ok_xi F_x_InvalidLines sc_InvalidLines_init rfl (by decide) (by decide), b_x_InvalidLines, fun us ws h1 h2 => match us, ws, h1, h2 with | [_], [_], _, _ => rfl⟩, nf_E_InvalidLines_given, n_E_InvalidLines⟩,
    C_InvalidScript := C_InvalidScript,
    E_InvalidScript := ⟨⟨f_x_InvalidScript, _, ⟨mg_of X G g_E_InvalidScript, ⟨⟨_, _, _, _, _, _, _, _, _, _, _, _, _, _, _, xl_E_InvalidScript, refs_U _⟩, sa_E_InvalidScript, n_E_InvalidScript.eb, ty_C_InvalidScript, kc_C_InvalidScript⟩, a_x_InvalidScript, ti_E_InvalidScript, ⟨ga_E_InvalidScript, gt_E_InvalidScript, n_E_InvalidScript.eb, hd_C_InvalidScript, ncl_E_InvalidScript, nsp, ntk, n_E_InvalidScript.mo⟩⟩, fun P w base => ok_xi F_x_InvalidScript sc_InvalidScript_init rfl (by decide) (by decide), b_x_InvalidScript, fun us ws h1 h2 => match us, ws, h1, h2 with | [_], [_], _, _ => rfl⟩, nf_E_InvalidScript_given, n_E_InvalidScript⟩,
    C_InvalidRows := C_InvalidRows,
    E_InvalidRows := ⟨⟨f_x_InvalidRows, _, ⟨mg_of X G g_E_InvalidRows, ⟨⟨_, _, _, _, _, _, _, _, _, _, _, _, _, _, _, xl_E_InvalidRows, refs_U _⟩, sa_E_InvalidRows, n_E_InvalidRows.eb, ty_C_InvalidRows, kc_C_InvalidRows⟩, a_x_InvalidRows, ti_E_InvalidRows, ⟨ga_E_InvalidRows, gt_E_InvalidRows, n_E_InvalidRows.eb, hd_C_InvalidRows, ncl_E_InvalidRows, nsp, ntk, n_E_InvalidRows.mo⟩⟩, fun P w base => ok_xi F_x_InvalidRows sc_InvalidRows_init rfl (by decide) (by decide), b_x_InvalidRows, fun us ws h1 h2 => match us, ws, h1, h2 with | [_], [_], _, _ => rfl⟩, nf_E_InvalidRows_given, n_E_InvalidRows⟩,
    C_InvalidLater := C_InvalidLater,
    E_InvalidLater := ⟨⟨f_x_InvalidLater, _, ⟨mg_of X G g_E_InvalidLater, ⟨⟨_, _, _, _, _, _, _, _, _, _, _, _, _, _, _, xl_E_InvalidLater, refs_U _⟩, sa_E_InvalidLater, n_E_InvalidLater.eb, ty_C_InvalidLater, kc_C_InvalidLater⟩, a_x_InvalidLater, ti_E_InvalidLater, ⟨ga_E_InvalidLater, gt_E_InvalidLater, n_E_InvalidLater.eb, hd_C_InvalidLater, ncl_E_InvalidLater, nsp, ntk, n_E_InvalidLater.mo⟩⟩, fun P w base => ok_xi F_x_InvalidLater sc_InvalidLater_init rfl (by decide) (by decide), b_x_InvalidLater, fun us ws h1 h2 => match us, ws, h1, h2 with | [_], [_], _, _ => rfl⟩, nf_E_InvalidLater_given, n_E_InvalidLater⟩,
    C_InvalidKey := C_InvalidKey,
    E_InvalidKey := ⟨⟨f_x_InvalidKey, _, ⟨mg_of X G g_E_InvalidKey, ⟨⟨_, _, _, _, _, _, _, _, _, _, _, _, _, _, _, xl_E_InvalidKey, refs_U _⟩, sa_E_InvalidKey, n_E_InvalidKey.eb, ty_C_InvalidKey, kc_C_InvalidKey⟩, a_x_InvalidKey, ti_E_InvalidKey, ⟨ga_E_InvalidKey, gt_E_InvalidKey, n_E_InvalidKey.eb, hd_C_InvalidKey, ncl_E_InvalidKey, nsp, ntk, n_E_InvalidKey.mo⟩⟩, fun P w base => ok_xi F_x_InvalidKey sc_InvalidKey_init rfl (by decide) (by decide), b_x_InvalidKey, fun us ws h1 h2 => match us, ws, h1, h2 with | [_], [_], _, _ => rfl⟩, nf_E_InvalidKey_given, n_E_InvalidKey⟩,
    C_InvalidLife := C_InvalidLife,
    E_InvalidLife := ⟨⟨f_x_InvalidLife, _, ⟨mg_of X G g_E_InvalidLife, ⟨⟨_, _, _, _, _, _, _, _, _, _, _, _, _, _, _, xl_E_InvalidLife, refs_U _⟩, sa_E_InvalidLife, n_E_InvalidLife.eb, ty_C_InvalidLife, kc_C_InvalidLife⟩, a_x_InvalidLife, ti_E_InvalidLife, ⟨ga_E_InvalidLife, gt_E_InvalidLife, n_E_InvalidLife.eb, hd_C_InvalidLife, ncl_E_InvalidLife, nsp, ntk, n_E_InvalidLife.mo⟩⟩, fun P w base => ok_xi F_x_InvalidLife sc_InvalidLife_init rfl (by decide) (by decide), b_x_InvalidLife, fun us ws h1 h2 => match us, ws, h1, h2 with | [_], [_], _, _ => rfl⟩, nf_E_InvalidLife_given, n_E_InvalidLife⟩,
    C_InvalidLetter := C_InvalidLetter,
    E_InvalidLetter := ⟨⟨f_x_InvalidLetter, _, ⟨mg_of X G g_E_InvalidLetter, ⟨⟨_, _, _, _, _, _, _, _, _, _, _, _, _, _, _, xl_E_InvalidLetter, refs_U _⟩, sa_E_InvalidLetter, n_E_InvalidLetter.eb, ty_C_InvalidLetter, kc_C_InvalidLetter⟩, a_x_InvalidLetter, ti_E_InvalidLetter, ⟨ga_E_InvalidLetter, gt_E_InvalidLetter, n_E_InvalidLetter.eb, hd_C_InvalidLetter, ncl_E_InvalidLetter, nsp, ntk, n_E_InvalidLetter.mo⟩⟩, fun P w base => ok_xi F_x_InvalidLetter sc_InvalidLetter_init rfl (by decide) (by decide), b_x_InvalidLetter, fun us ws h1 h2 => match us, ws, h1, h2 with | [_], [_], _, _ => rfl⟩, nf_E_InvalidLetter_given, n_E_InvalidLetter⟩,
    C_InvalidActs := C_InvalidActs,
    E_InvalidActs := ⟨⟨f_x_InvalidActs, _, ⟨mg_of X G g_E_InvalidActs, ⟨⟨_, _, _, _, _, _, _, _, _, _, _, _, _, _, _, xl_E_InvalidActs, refs_U _⟩, sa_E_InvalidActs, n_E_InvalidActs.eb, ty_C_InvalidActs, kc_C_InvalidActs⟩, a_x_InvalidActs, ti_E_InvalidActs, ⟨ga_E_InvalidActs, gt_E_InvalidActs, n_E_InvalidActs.eb, hd_C_InvalidActs, ncl_E_InvalidActs, nsp, ntk, n_E_InvalidActs.mo⟩⟩, fun P w base => ok_xi F_x_InvalidActs sc_InvalidActs_init rfl (by decide) (by decide), b_x_InvalidActs, fun us ws h1 h2 => match us, ws, h1, h2 with | [_], [_], _, _ => rfl⟩, nf_E_InvalidActs_given, n_E_InvalidActs⟩,
    C_InvalidAct := C_InvalidAct,
    E_InvalidAct := ⟨⟨f_x_InvalidAct, _, ⟨mg_of X G g_E_InvalidAct, ⟨⟨_, _, _, _, _, _, _, _, _, _, _, _, _, _, _, xl_E_InvalidAct, refs_U _⟩, sa_E_InvalidAct, n_E_InvalidAct.eb, ty_C_InvalidAct, kc_C_InvalidAct⟩, a_x_InvalidAct, ti_E_InvalidAct, ⟨ga_E_InvalidAct, gt_E_InvalidAct, n_E_InvalidAct.eb, hd_C_InvalidAct, ncl_E_InvalidAct, nsp, ntk, n_E_InvalidAct.mo⟩⟩, fun P w base => ok_xi F_x_InvalidAct sc_InvalidAct_init rfl (by decide) (by decide), b_x_InvalidAct, fun us ws h1 h2 => match us, ws, h1, h2 with | [_], [_], _, _ => rfl⟩, nf_E_InvalidAct_given, n_E_InvalidAct⟩,
    C_InvalidKinds := C_InvalidKinds,
    E_InvalidKinds := ⟨⟨f_x_InvalidKinds, _, ⟨mg_of X G g_E_InvalidKinds, ⟨⟨_, _, _, _, _, _, _, _, _, _, _, _, _, _, _, xl_E_InvalidKinds, refs_U _⟩, sa_E_InvalidKinds, n_E_InvalidKinds.eb, ty_C_InvalidKinds, kc_C_InvalidKinds⟩, a_x_InvalidKinds, ti_E_InvalidKinds, ⟨ga_E_InvalidKinds, gt_E_InvalidKinds, n_E_InvalidKinds.eb, hd_C_InvalidKinds, ncl_E_InvalidKinds, nsp, ntk, n_E_InvalidKinds.mo⟩⟩, fun P w base => ok_xi F_x_InvalidKinds sc_InvalidKinds_init rfl (by decide) (by decide), b_x_InvalidKinds, fun us ws h1 h2 => match us, ws, h1, h2 with | [_], [_], _, _ => rfl⟩, nf_E_InvalidKinds_given, n_E_InvalidKinds⟩,
    C_InvalidIndex := C_InvalidIndex,
    E_InvalidIndex := ⟨⟨f_x_InvalidIndex, _, ⟨mg_of X G g_E_InvalidIndex, ⟨⟨_, _, _, _, _, _, _, _, _, _, _, _, _, _, _, xl_E_InvalidIndex, refs_U _⟩, sa_E_InvalidIndex, n_E_InvalidIndex.eb, ty_C_InvalidIndex, kc_C_InvalidIndex⟩, a_x_InvalidIndex, ti_E_InvalidIndex, ⟨ga_E_InvalidIndex, gt_E_InvalidIndex, n_E_InvalidIndex.eb, hd_C_InvalidIndex, ncl_E_InvalidIndex, nsp, ntk, n_E_InvalidIndex.mo⟩⟩, fun P w base => ok_xi F_x_InvalidIndex sc_InvalidIndex_init rfl (by decide) (by decide), b_x_InvalidIndex, fun us ws h1 h2 => match us, ws, h1, h2 with | [_], [_], _, _ => rfl⟩, nf_E_InvalidIndex_given, n_E_InvalidIndex⟩,
    C_NotJoined := C_NotJoined,
    E_NotJoined := ⟨⟨f_x_NotJoined, _, ⟨mg_of X G g_E_NotJoined, ⟨⟨_, _, _, _, _, _, _, _, _, _, _, _, _, _, _, xl_E_NotJoined, refs_U _⟩, sa_E_NotJoined, n_E_NotJoined.eb, ty_C_NotJoined, kc_C_NotJoined⟩, a_x_NotJoined, ti_E_NotJoined, ⟨ga_E_NotJoined, gt_E_NotJoined, n_E_NotJoined.eb, hd_C_NotJoined, ncl_E_NotJoined, nsp, ntk, n_E_NotJoined.mo⟩⟩, fun P w base => ok_xi F_x_NotJoined sc_NotJoined_init rfl (by decide) (by decide), b_x_NotJoined, fun us ws h1 h2 => match us, ws, h1, h2 with | [_], [_], _, _ => rfl⟩, nf_E_NotJoined_house, n_E_NotJoined⟩,
    C_Stopped := C_Stopped,
    E_Stopped := ⟨⟨f_x_Stopped, _, ⟨mg_of X G g_E_Stopped, ⟨⟨_, _, _, _, _, _, _, _, _, _, _, _, _, _, _, xl_E_Stopped, refs_U _⟩, sa_E_Stopped, n_E_Stopped.eb, ty_C_Stopped, kc_C_Stopped⟩, a_x_Stopped, ti_E_Stopped, ⟨ga_E_Stopped, gt_E_Stopped, n_E_Stopped.eb, hd_C_Stopped, ncl_E_Stopped, nsp, ntk, n_E_Stopped.mo⟩⟩, fun P w base => ok_xi F_x_Stopped sc_Stopped_init rfl (by decide) (by decide), b_x_Stopped, fun us ws h1 h2 => match us, ws, h1, h2 with | [_], [_], _, _ => rfl⟩, nf_E_Stopped_at, n_E_Stopped⟩,
    C_Faulty := C_Faulty,
    E_Faulty := ⟨⟨f_x_Faulty, _, ⟨mg_of X G g_E_Faulty, ⟨⟨_, _, _, _, _, _, _, _, _, _, _, _, _, _, _, xl_E_Faulty, refs_U _⟩, sa_E_Faulty, n_E_Faulty.eb, ty_C_Faulty, kc_C_Faulty⟩, a_x_Faulty, ti_E_Faulty, ⟨ga_E_Faulty, gt_E_Faulty, n_E_Faulty.eb, hd_C_Faulty, ncl_E_Faulty, nsp, ntk, n_E_Faulty.mo⟩⟩, fun P w base => ok_xi F_x_Faulty sc_Faulty_init rfl (by decide) (by decide), b_x_Faulty, fun us ws h1 h2 => match us, ws, h1, h2 with | [_], [_], _, _ => rfl⟩, nf_E_Faulty_fault, n_E_Faulty⟩,
    C_DoNotFit := C_DoNotFit,
    E_DoNotFit := ⟨⟨f_x_DoNotFit, _, ⟨mg_of X G g_E_DoNotFit, ⟨⟨_, _, _, _, _, _, _, _, _, _, _, _, _, _, _, xl_E_DoNotFit, refs_U _⟩, sa_E_DoNotFit, n_E_DoNotFit.eb, ty_C_DoNotFit, kc_C_DoNotFit⟩, a_x_DoNotFit, ti_E_DoNotFit, ⟨ga_E_DoNotFit, gt_E_DoNotFit, n_E_DoNotFit.eb, hd_C_DoNotFit, ncl_E_DoNotFit, nsp, ntk, n_E_DoNotFit.mo⟩⟩, fun P w base => ok_xi F_x_DoNotFit sc_DoNotFit_init rfl (by decide) (by decide), b_x_DoNotFit, fun us ws h1 h2 => match us, ws, h1, h2 with | [_], [_], _, _ => rfl⟩, nf_E_DoNotFit_picture, n_E_DoNotFit⟩,
    C_SameKey := C_SameKey,
    E_SameKey := ⟨⟨f_x_SameKey, _, ⟨mg_of X G g_E_SameKey, ⟨⟨_, _, _, _, _, _, _, _, _, _, _, _, _, _, _, xl_E_SameKey, refs_U _⟩, sa_E_SameKey, n_E_SameKey.eb, ty_C_SameKey, kc_C_SameKey⟩, a_x_SameKey, ti_E_SameKey, ⟨ga_E_SameKey, gt_E_SameKey, n_E_SameKey.eb, hd_C_SameKey, ncl_E_SameKey, nsp, ntk, n_E_SameKey.mo⟩⟩, fun P w base => ok_xi F_x_SameKey sc_SameKey_init rfl (by decide) (by decide), b_x_SameKey, fun us ws h1 h2 => match us, ws, h1, h2 with | [_], [_], _, _ => rfl⟩, nf_E_SameKey_key, n_E_SameKey⟩,
    C_NotHeld := C_NotHeld,
    E_NotHeld := ⟨⟨f_x_NotHeld, _, ⟨mg_of X G g_E_NotHeld, ⟨⟨_, _, _, _, _, _, _, _, _, _, _, _, _, _, _, xl_E_NotHeld, refs_U _⟩, sa_E_NotHeld, n_E_NotHeld.eb, ty_C_NotHeld, kc_C_NotHeld⟩, a_x_NotHeld, ti_E_NotHeld, ⟨ga_E_NotHeld, gt_E_NotHeld, n_E_NotHeld.eb, hd_C_NotHeld, ncl_E_NotHeld, nsp, ntk, n_E_NotHeld.mo⟩⟩, fun P w base => ok_xi F_x_NotHeld sc_NotHeld_init rfl (by decide) (by decide), b_x_NotHeld, fun us ws h1 h2 => match us, ws, h1, h2 with | [_], [_], _, _ => rfl⟩, nf_E_NotHeld_key, n_E_NotHeld⟩,
    C_Held := C_Held,
    E_Held := ⟨⟨f_x_Held, _, ⟨mg_of X G g_E_Held, ⟨⟨_, _, _, _, _, _, _, _, _, _, _, _, _, _, _, xl_E_Held, refs_U _⟩, sa_E_Held, n_E_Held.eb, ty_C_Held, kc_C_Held⟩, a_x_Held, ti_E_Held, ⟨ga_E_Held, gt_E_Held, n_E_Held.eb, hd_C_Held, ncl_E_Held, nsp, ntk, n_E_Held.mo⟩⟩, fun P w base => ok_xi F_x_Held sc_Held_init rfl (by decide) (by decide), b_x_Held, fun us ws h1 h2 => match us, ws, h1, h2 with | [_], [_], _, _ => rfl⟩, nf_E_Held_key, n_E_Held⟩,
    C_TooMany := C_TooMany,
    E_TooMany := ⟨⟨f_x_TooMany, _, ⟨mg_of X G g_E_TooMany, ⟨⟨_, _, _, _, _, _, _, _, _, _, _, _, _, _, _, xl_E_TooMany, refs_U _⟩, sa_E_TooMany, n_E_TooMany.eb, ty_C_TooMany, kc_C_TooMany⟩, a_x_TooMany, ti_E_TooMany, ⟨ga_E_TooMany, gt_E_TooMany, n_E_TooMany.eb, hd_C_TooMany, ncl_E_TooMany, nsp, ntk, n_E_TooMany.mo⟩⟩, fun P w base => ok_xi F_x_TooMany sc_TooMany_init rfl (by decide) (by decide), b_x_TooMany, fun us ws h1 h2 => match us, ws, h1, h2 with | [_], [_], _, _ => rfl⟩, nf_E_TooMany_count, n_E_TooMany⟩,
    C_NotStanding := C_NotStanding,
    E_NotStanding := ⟨⟨f_x_NotStanding, _, ⟨mg_of X G g_E_NotStanding, ⟨⟨_, _, _, _, _, _, _, _, _, _, _, _, _, _, _, xl_E_NotStanding, refs_U _⟩, sa_E_NotStanding, n_E_NotStanding.eb, ty_C_NotStanding, kc_C_NotStanding⟩, a_x_NotStanding, ti_E_NotStanding, ⟨ga_E_NotStanding, gt_E_NotStanding, n_E_NotStanding.eb, hd_C_NotStanding, ncl_E_NotStanding, nsp, ntk, n_E_NotStanding.mo⟩⟩, fun P w base => ok_xi F_x_NotStanding sc_NotStanding_init rfl (by decide) (by decide), b_x_NotStanding, fun us ws h1 h2 => match us, ws, h1, h2 with | [_], [_], _, _ => rfl⟩, nf_E_NotStanding_now, n_E_NotStanding⟩,
    C_Down := C_Down,
    E_Down := ⟨⟨f_x_Down, _, ⟨mg_of X G g_E_Down, ⟨⟨_, _, _, _, _, _, _, _, _, _, _, _, _, _, _, xl_E_Down, refs_U _⟩, sa_E_Down, n_E_Down.eb, ty_C_Down, kc_C_Down⟩, a_x_Down, ti_E_Down, ⟨ga_E_Down, gt_E_Down, n_E_Down.eb, hd_C_Down, ncl_E_Down, nsp, ntk, n_E_Down.mo⟩⟩, fun P w base => ok_xi F_x_Down sc_Down_init rfl (by decide) (by decide), b_x_Down, fun us ws h1 h2 => match us, ws, h1, h2 with | [_], [_], _, _ => rfl⟩, nf_E_Down_house, n_E_Down⟩,
    C_Up := C_Up,
    E_Up := ⟨⟨f_x_Up, _, ⟨mg_of X G g_E_Up, ⟨⟨_, _, _, _, _, _, _, _, _, _, _, _, _, _, _, xl_E_Up, refs_U _⟩, sa_E_Up, n_E_Up.eb, ty_C_Up, kc_C_Up⟩, a_x_Up, ti_E_Up, ⟨ga_E_Up, gt_E_Up, n_E_Up.eb, hd_C_Up, ncl_E_Up, nsp, ntk, n_E_Up.mo⟩⟩, fun P w base => ok_xi F_x_Up sc_Up_init rfl (by decide) (by decide), b_x_Up, fun us ws h1 h2 => match us, ws, h1, h2 with | [_], [_], _, _ => rfl⟩, nf_E_Up_house, n_E_Up⟩,
    C_NoLetter := C_NoLetter,
    E_NoLetter := ⟨⟨f_x_NoLetter, _, ⟨mg_of X G g_E_NoLetter, ⟨⟨_, _, _, _, _, _, _, _, _, _, _, _, _, _, _, xl_E_NoLetter, refs_U _⟩, sa_E_NoLetter, n_E_NoLetter.eb, ty_C_NoLetter, kc_C_NoLetter⟩, a_x_NoLetter, ti_E_NoLetter, ⟨ga_E_NoLetter, gt_E_NoLetter, n_E_NoLetter.eb, hd_C_NoLetter, ncl_E_NoLetter, nsp, ntk, n_E_NoLetter.mo⟩⟩, fun P w base => ok_xi F_x_NoLetter sc_NoLetter_init rfl (by decide) (by decide), b_x_NoLetter, fun us ws h1 h2 => match us, ws, h1, h2 with | [_], [_], _, _ => rfl⟩, nf_E_NoLetter_k, n_E_NoLetter⟩,
    C_Refused := C_Refused,
    E_Refused := ⟨⟨f_x_Refused, _, ⟨mg_of X G g_E_Refused, ⟨⟨_, _, _, _, _, _, _, _, _, _, _, _, _, _, _, xl_E_Refused, refs_U _⟩, sa_E_Refused, n_E_Refused.eb, ty_C_Refused, kc_C_Refused⟩, a_x_Refused, ti_E_Refused, ⟨ga_E_Refused, gt_E_Refused, n_E_Refused.eb, hd_C_Refused, ncl_E_Refused, nsp, ntk, n_E_Refused.mo⟩⟩, fun P w base => ok_xi F_x_Refused sc_Refused_init rfl (by decide) (by decide), b_x_Refused, fun us ws h1 h2 => match us, ws, h1, h2 with | [_], [_], _, _ => rfl⟩, nf_E_Refused_at, n_E_Refused⟩,
    C_NotWhole := C_NotWhole,
    E_NotWhole := ⟨⟨f_x_NotWhole, _, ⟨mg_of X G g_E_NotWhole, ⟨⟨_, _, _, _, _, _, _, _, _, _, _, _, _, _, _, xl_E_NotWhole, refs_U _⟩, sa_E_NotWhole, n_E_NotWhole.eb, ty_C_NotWhole, kc_C_NotWhole⟩, a_x_NotWhole, ti_E_NotWhole, ⟨ga_E_NotWhole, gt_E_NotWhole, n_E_NotWhole.eb, hd_C_NotWhole, ncl_E_NotWhole, nsp, ntk, n_E_NotWhole.mo⟩⟩, fun P w base => ok_xi F_x_NotWhole sc_NotWhole_init rfl (by decide) (by decide), b_x_NotWhole, fun us ws h1 h2 => match us, ws, h1, h2 with | [_], [_], _, _ => rfl⟩, nf_E_NotWhole_house, n_E_NotWhole⟩,
    C_Turned := C_Turned,
    E_Turned := ⟨⟨f_x_Turned, _, ⟨mg_of X G g_E_Turned, ⟨⟨_, _, _, _, _, _, _, _, _, _, _, _, _, _, _, xl_E_Turned, refs_U _⟩, sa_E_Turned, n_E_Turned.eb, ty_C_Turned, kc_C_Turned⟩, a_x_Turned, ti_E_Turned, ⟨ga_E_Turned, gt_E_Turned, n_E_Turned.eb, hd_C_Turned, ncl_E_Turned, nsp, ntk, n_E_Turned.mo⟩⟩, fun P w base => ok_xi F_x_Turned sc_Turned_init rfl (by decide) (by decide), b_x_Turned, fun us ws h1 h2 => match us, ws, h1, h2 with | [_], [_], _, _ => rfl⟩, nf_E_Turned_at, n_E_Turned⟩,
    C_NotARoad := C_NotARoad,
    E_NotARoad := ⟨⟨f_x_NotARoad, _, ⟨mg_of X G g_E_NotARoad, ⟨⟨_, _, _, _, _, _, _, _, _, _, _, _, _, _, _, xl_E_NotARoad, refs_U _⟩, sa_E_NotARoad, n_E_NotARoad.eb, ty_C_NotARoad, kc_C_NotARoad⟩, a_x_NotARoad, ti_E_NotARoad, ⟨ga_E_NotARoad, gt_E_NotARoad, n_E_NotARoad.eb, hd_C_NotARoad, ncl_E_NotARoad, nsp, ntk, n_E_NotARoad.mo⟩⟩, fun P w base => ok_xi2 F_x_NotARoad sc_NotARoad_init rfl (by decide) (by decide) (by decide) (by decide), b_x_NotARoad, fun us ws h1 h2 => match us, ws, h1, h2 with | [_], [_, _], _, _ => rfl, fun us ws h1 h2 => match us, ws, h1, h2 with | [_], [_, _], _, _ => rfl, fun us ws h1 h2 => match us, ws, h1, h2 with | [_, _], [_], _, _ => rfl⟩, nf_E_NotARoad_u, nf_E_NotARoad_v, n_E_NotARoad⟩,
    C_NothingUnderWay := C_NothingUnderWay,
    E_NothingUnderWay := ⟨⟨f_x_NothingUnderWay, _, ⟨mg_of X G g_E_NothingUnderWay, ⟨⟨_, _, _, _, _, _, _, _, _, _, _, _, _, _, _, xl_E_NothingUnderWay, refs_U _⟩, sa_E_NothingUnderWay, n_E_NothingUnderWay.eb, ty_C_NothingUnderWay, kc_C_NothingUnderWay⟩, a_x_NothingUnderWay, ti_E_NothingUnderWay, ⟨ga_E_NothingUnderWay, gt_E_NothingUnderWay, n_E_NothingUnderWay.eb, hd_C_NothingUnderWay, ncl_E_NothingUnderWay, nsp, ntk, n_E_NothingUnderWay.mo⟩⟩, fun P w base => ok_xi2 F_x_NothingUnderWay sc_NothingUnderWay_init rfl (by decide) (by decide) (by decide) (by decide), b_x_NothingUnderWay, fun us ws h1 h2 => match us, ws, h1, h2 with | [_], [_, _], _, _ => rfl, fun us ws h1 h2 => match us, ws, h1, h2 with | [_], [_, _], _, _ => rfl, fun us ws h1 h2 => match us, ws, h1, h2 with | [_, _], [_], _, _ => rfl⟩, nf_E_NothingUnderWay_u, nf_E_NothingUnderWay_v, n_E_NothingUnderWay⟩,
    C_NotAhead := C_NotAhead,
    E_NotAhead := ⟨⟨f_x_NotAhead, _, ⟨mg_of X G g_E_NotAhead, ⟨⟨_, _, _, _, _, _, _, _, _, _, _, _, _, _, _, xl_E_NotAhead, refs_U _⟩, sa_E_NotAhead, n_E_NotAhead.eb, ty_C_NotAhead, kc_C_NotAhead⟩, a_x_NotAhead, ti_E_NotAhead, ⟨ga_E_NotAhead, gt_E_NotAhead, n_E_NotAhead.eb, hd_C_NotAhead, ncl_E_NotAhead, nsp, ntk, n_E_NotAhead.mo⟩⟩, fun P w base => ok_xi2 F_x_NotAhead sc_NotAhead_init rfl (by decide) (by decide) (by decide) (by decide), b_x_NotAhead, fun us ws h1 h2 => match us, ws, h1, h2 with | [_], [_, _], _, _ => rfl, fun us ws h1 h2 => match us, ws, h1, h2 with | [_], [_, _], _, _ => rfl, fun us ws h1 h2 => match us, ws, h1, h2 with | [_, _], [_], _, _ => rfl⟩, nf_E_NotAhead_x, nf_E_NotAhead_z, n_E_NotAhead⟩,
    C_SurelyAhead := C_SurelyAhead,
    E_SurelyAhead := ⟨⟨f_x_SurelyAhead, _, ⟨mg_of X G g_E_SurelyAhead, ⟨⟨_, _, _, _, _, _, _, _, _, _, _, _, _, _, _, xl_E_SurelyAhead, refs_U _⟩, sa_E_SurelyAhead, n_E_SurelyAhead.eb, ty_C_SurelyAhead, kc_C_SurelyAhead⟩, a_x_SurelyAhead, ti_E_SurelyAhead, ⟨ga_E_SurelyAhead, gt_E_SurelyAhead, n_E_SurelyAhead.eb, hd_C_SurelyAhead, ncl_E_SurelyAhead, nsp, ntk, n_E_SurelyAhead.mo⟩⟩, fun P w base => ok_xi2 F_x_SurelyAhead sc_SurelyAhead_init rfl (by decide) (by decide) (by decide) (by decide), b_x_SurelyAhead, fun us ws h1 h2 => match us, ws, h1, h2 with | [_], [_, _], _, _ => rfl, fun us ws h1 h2 => match us, ws, h1, h2 with | [_], [_, _], _, _ => rfl, fun us ws h1 h2 => match us, ws, h1, h2 with | [_, _], [_], _, _ => rfl⟩, nf_E_SurelyAhead_x, nf_E_SurelyAhead_z, n_E_SurelyAhead⟩,
    C_NoStanding := C_NoStanding,
    m_NoStanding := mg_of X G g_m_NoStanding,
    q_NoStanding := r_q_NoStanding,
    kc_NoStanding := r_kc_NoStanding,
    rb_NoStanding := r_rb_NoStanding,
    rt_NoStanding := r_rt_NoStanding,
    n_NoStanding := ⟨⟨_, _, _, _, _, _, _, _, _, _, _, _, _, xl_n_NoStanding⟩, r_rt_NoStanding⟩,
    nv_NoStanding := ⟨ga_nv_NoStanding, gt_nv_NoStanding, r_rb_NoStanding, hd_C_NoStanding, ncl_nv_NoStanding, nsp, ntk, nmo_nv_NoStanding⟩,
    m_UnsaidError := mg_of X G g_m_UnsaidError,
    u_UnsaidError := UsE.of xl_u_UnsaidError ty_C_UnsaidError eb_C_UnsaidError hd_C_UnsaidError,
    n_ValueError := mg_none_of X G z_n_ValueError,
    n_abs := mg_none_of X G z_n_abs,
    n_dict := mg_none_of X G z_n_dict,
    n_int := mg_none_of X G z_n_int,
    n_isinstance := mg_none_of X G z_n_isinstance,
    n_len := mg_none_of X G z_n_len,
    n_max := mg_none_of X G z_n_max,
    n_min := mg_none_of X G z_n_min,
    n_range := mg_none_of X G z_n_range,
    n_repr := mg_none_of X G z_n_repr,
    n_sum := mg_none_of X G z_n_sum,
    d_l_cell := ⟨f_d_l_cell, _, F_d_l_cell, mg_of X G a_d_l_cell, fun us hl => match us, hl with | [_, _], _ => rfl, fun us ws h1 h2 => match us, ws, h1, h2 with | [], [_, _], _, _ => rfl⟩,
    d_l_box := ⟨f_d_l_box, _, F_d_l_box, mg_of X G a_d_l_box, fun us hl => match us, hl with | [_], _ => rfl, fun us ws h1 h2 => match us, ws, h1, h2 with | [], [_], _, _ => rfl⟩,
    d_l_take := ⟨f_d_l_take, _, F_d_l_take, mg_of X G a_d_l_take, fun us hl => match us, hl with | [_, _], _ => rfl, fun us ws h1 h2 => match us, ws, h1, h2 with | [], [_, _], _, _ => rfl⟩,
    d_l_by_place := ⟨f_d_l_by_place, _, F_d_l_by_place, mg_of X G a_d_l_by_place, fun us hl => match us, hl with | [_], _ => rfl, fun us ws h1 h2 => match us, ws, h1, h2 with | [], [_], _, _ => rfl⟩,
    d_l_by_name := ⟨f_d_l_by_name, _, F_d_l_by_name, mg_of X G a_d_l_by_name, fun us hl => match us, hl with | [_], _ => rfl, fun us ws h1 h2 => match us, ws, h1, h2 with | [], [_], _, _ => rfl⟩,
    d_l_pairs := ⟨f_d_l_pairs, _, F_d_l_pairs, mg_of X G a_d_l_pairs, fun us hl => match us, hl with | [_, _, _], _ => rfl, fun us ws h1 h2 => match us, ws, h1, h2 with | [], [_, _, _], _, _ => rfl⟩,
    d_l_sorts := ⟨f_d_l_sorts, _, F_d_l_sorts, mg_of X G a_d_l_sorts, fun us hl => match us, hl with | [_], _ => rfl, fun us ws h1 h2 => match us, ws, h1, h2 with | [], [_], _, _ => rfl⟩,
    d_l_is := ⟨f_d_l_is, _, F_d_l_is, mg_of X G a_d_l_is, fun us hl => match us, hl with | [_, _], _ => rfl, fun us ws h1 h2 => match us, ws, h1, h2 with | [], [_, _], _, _ => rfl⟩,
    d_l_kept := ⟨f_d_l_kept, _, F_d_l_kept, mg_of X G a_d_l_kept, fun us hl => match us, hl with | [_], _ => rfl, fun us ws h1 h2 => match us, ws, h1, h2 with | [], [_], _, _ => rfl⟩,
    d_l_two_kept := ⟨f_d_l_two_kept, _, F_d_l_two_kept, mg_of X G a_d_l_two_kept, fun us hl => match us, hl with | [_], _ => rfl, fun us ws h1 h2 => match us, ws, h1, h2 with | [], [_], _, _ => rfl⟩,
    d_l_thing := ⟨f_d_l_thing, _, F_d_l_thing, mg_of X G a_d_l_thing, fun us hl => match us, hl with | [_], _ => rfl, fun us ws h1 h2 => match us, ws, h1, h2 with | [], [_], _, _ => rfl⟩,
    d_l_caught := ⟨f_d_l_caught, _, F_d_l_caught, mg_of X G a_d_l_caught, fun us hl => match us, hl with | [_, _, _], _ => rfl, fun us ws h1 h2 => match us, ws, h1, h2 with | [], [_, _, _], _, _ => rfl⟩,
    d_l_ones_right := ⟨f_d_l_ones_right, _, F_d_l_ones_right, mg_of X G a_d_l_ones_right, fun us hl => match us, hl with | [_, _], _ => rfl, fun us ws h1 h2 => match us, ws, h1, h2 with | [], [_, _], _, _ => rfl⟩,
    d_l_twos_right := ⟨f_d_l_twos_right, _, F_d_l_twos_right, mg_of X G a_d_l_twos_right, fun us hl => match us, hl with | [_, _], _ => rfl, fun us ws h1 h2 => match us, ws, h1, h2 with | [], [_, _], _, _ => rfl⟩,
    d_l_grown_right := ⟨f_d_l_grown_right, _, F_d_l_grown_right, mg_of X G a_d_l_grown_right, fun us hl => match us, hl with | [_], _ => rfl, fun us ws h1 h2 => match us, ws, h1, h2 with | [], [_], _, _ => rfl⟩,
    d_law := ⟨fa, _, F_d_law, mg_of X G a_d_law, fun us hl => match us, hl with | [_], _ => rfl, fun us ws h1 h2 => match us, ws, h1, h2 with | [], [_], _, _ => rfl⟩ }
  exact ⟨_, fun s v => .of_eq rfl, fun base _ _ => ok_law T⟩
end K00

open PySem PySem.W PyProof.Rows
set_option maxRecDepth 100000 in
set_option maxHeartbeats 0 in
theorem PySem.Challenge.cw_neverunsaid_k00_errors_holds : PySem.Challenge.rw_neverunsaid_k00_errors.Holds := by
  refine K00T.walked ?_
  k_fill
  refine Nv.walkG (l := PySem.Challenge.rw_neverunsaid_k00_errors) (n := 63) (k := 5) (x := "_law_script") (sp := K00.spLaw) rfl (by decide) rfl ⟨rfl, by decide, by decide⟩ (fun w h Y => PySem.W.kIn_of Y) ?F ?S
  case F =>
    intro w mg fa h KX G hmg
    refine' K00.all_mk KX G hmg ?g_E_InvalidLine ?g_E_InvalidText ?g_E_InvalidCell ?g_E_InvalidHouses ?g_E_InvalidRoads ?g_E_InvalidHouse ?g_E_InvalidSigns ?g_E_InvalidCount ?g_E_InvalidLines ?g_E_InvalidScript ?g_E_InvalidRows ?g_E_InvalidLater ?g_E_InvalidKey ?g_E_InvalidLife ?g_E_InvalidLetter ?g_E_InvalidActs ?g_E_InvalidAct ?g_E_InvalidKinds ?g_E_InvalidIndex ?g_E_NotJoined ?g_E_Stopped ?g_E_Faulty ?g_E_DoNotFit ?g_E_SameKey ?g_E_NotHeld ?g_E_Held ?g_E_TooMany ?g_E_NotStanding ?g_E_Down ?g_E_Up ?g_E_NoLetter ?g_E_Refused ?g_E_NotWhole ?g_E_Turned ?g_E_NotARoad ?g_E_NothingUnderWay ?g_E_NotAhead ?g_E_SurelyAhead ?g_m_NoStanding ?g_m_UnsaidError ?a_x_InvalidLine ?a_x_InvalidText ?a_x_InvalidCell ?a_x_InvalidHouses ?a_x_InvalidRoads ?a_x_InvalidHouse ?a_x_InvalidSigns ?a_x_InvalidCount ?a_x_InvalidLines ?a_x_InvalidScript ?a_x_InvalidRows ?a_x_InvalidLater ?a_x_InvalidKey ?a_x_InvalidLife ?a_x_InvalidLetter ?a_x_InvalidActs ?a_x_InvalidAct ?a_x_InvalidKinds ?a_x_InvalidIndex ?a_x_NotJoined ?a_x_Stopped ?a_x_Faulty ?a_x_DoNotFit ?a_x_SameKey ?a_x_NotHeld ?a_x_Held ?a_x_TooMany ?a_x_NotStanding ?a_x_Down ?a_x_Up ?a_x_NoLetter ?a_x_Refused ?a_x_NotWhole ?a_x_Turned ?a_x_NotARoad ?a_x_NothingUnderWay ?a_x_NotAhead ?a_x_SurelyAhead ?a_d_l_cell ?a_d_l_box ?a_d_l_take ?a_d_l_by_place ?a_d_l_by_name ?a_d_l_pairs ?a_d_l_sorts ?a_d_l_is ?a_d_l_kept ?a_d_l_two_kept ?a_d_l_thing ?a_d_l_caught ?a_d_l_ones_right ?a_d_l_twos_right ?a_d_l_grown_right ?a_d_law ?l_x_InvalidLine ?l_x_InvalidText ?l_x_InvalidCell ?l_x_InvalidHouses ?l_x_InvalidRoads ?l_x_InvalidHouse ?l_x_InvalidSigns ?l_x_InvalidCount ?l_x_InvalidLines ?l_x_InvalidScript ?l_x_InvalidRows ?l_x_InvalidLater ?l_x_InvalidKey ?l_x_InvalidLife ?l_x_InvalidLetter ?l_x_InvalidActs ?l_x_InvalidAct ?l_x_InvalidKinds ?l_x_InvalidIndex ?l_x_NotJoined ?l_x_Stopped ?l_x_Faulty ?l_x_DoNotFit ?l_x_SameKey ?l_x_NotHeld ?l_x_Held ?l_x_TooMany ?l_x_NotStanding ?l_x_Down ?l_x_Up ?l_x_NoLetter ?l_x_Refused ?l_x_NotWhole ?l_x_Turned ?l_x_NotARoad ?l_x_NothingUnderWay ?l_x_NotAhead ?l_x_SurelyAhead ?l_d_l_cell ?l_d_l_box ?l_d_l_take ?l_d_l_by_place ?l_d_l_by_name ?l_d_l_pairs ?l_d_l_sorts ?l_d_l_is ?l_d_l_kept ?l_d_l_two_kept ?l_d_l_thing ?l_d_l_caught ?l_d_l_ones_right ?l_d_l_twos_right ?l_d_l_grown_right ?l_d_law ?xl_E_InvalidLine ?xl_E_InvalidText ?xl_E_InvalidCell ?xl_E_InvalidHouses ?xl_E_InvalidRoads ?xl_E_InvalidHouse ?xl_E_InvalidSigns ?xl_E_InvalidCount ?xl_E_InvalidLines ?xl_E_InvalidScript ?xl_E_InvalidRows ?xl_E_InvalidLater ?xl_E_InvalidKey ?xl_E_InvalidLife ?xl_E_InvalidLetter ?xl_E_InvalidActs ?xl_E_InvalidAct ?xl_E_InvalidKinds ?xl_E_InvalidIndex ?xl_E_NotJoined ?xl_E_Stopped ?xl_E_Faulty ?xl_E_DoNotFit ?xl_E_SameKey ?xl_E_NotHeld ?xl_E_Held ?xl_E_TooMany ?xl_E_NotStanding ?xl_E_Down ?xl_E_Up ?xl_E_NoLetter ?xl_E_Refused ?xl_E_NotWhole ?xl_E_Turned ?xl_E_NotARoad ?xl_E_NothingUnderWay ?xl_E_NotAhead ?xl_E_SurelyAhead ?xl_n_NoStanding ?xl_u_UnsaidError ?c_x_InvalidLine ?kp_x_InvalidLine ?ty_C_InvalidLine ?sa_E_InvalidLine ?kc_C_InvalidLine ?ti_E_InvalidLine ?nf_E_InvalidLine_given ?ga_E_InvalidLine ?gt_E_InvalidLine ?hd_C_InvalidLine ?ncl_E_InvalidLine ?nsp ?ntk ?c_x_InvalidText ?kp_x_InvalidText ?ty_C_InvalidText ?sa_E_InvalidText ?kc_C_InvalidText ?ti_E_InvalidText ?nf_E_InvalidText_given ?ga_E_InvalidText ?gt_E_InvalidText ?hd_C_InvalidText ?ncl_E_InvalidText ?c_x_InvalidCell ?kp_x_InvalidCell ?ty_C_InvalidCell ?sa_E_InvalidCell ?kc_C_InvalidCell ?ti_E_InvalidCell ?nf_E_InvalidCell_given ?ga_E_InvalidCell ?gt_E_InvalidCell ?hd_C_InvalidCell ?ncl_E_InvalidCell ?c_x_InvalidHouses ?kp_x_InvalidHouses ?ty_C_InvalidHouses ?sa_E_InvalidHouses ?kc_C_InvalidHouses ?ti_E_InvalidHouses ?nf_E_InvalidHouses_given ?ga_E_InvalidHouses ?gt_E_InvalidHouses ?hd_C_InvalidHouses ?ncl_E_InvalidHouses ?c_x_InvalidRoads ?kp_x_InvalidRoads ?ty_C_InvalidRoads ?sa_E_InvalidRoads ?kc_C_InvalidRoads ?ti_E_InvalidRoads ?nf_E_InvalidRoads_given ?ga_E_InvalidRoads ?gt_E_InvalidRoads ?hd_C_InvalidRoads ?ncl_E_InvalidRoads ?c_x_InvalidHouse ?kp_x_InvalidHouse ?ty_C_InvalidHouse ?sa_E_InvalidHouse ?kc_C_InvalidHouse ?ti_E_InvalidHouse ?nf_E_InvalidHouse_given ?ga_E_InvalidHouse ?gt_E_InvalidHouse ?hd_C_InvalidHouse ?ncl_E_InvalidHouse ?c_x_InvalidSigns ?kp_x_InvalidSigns ?ty_C_InvalidSigns ?sa_E_InvalidSigns ?kc_C_InvalidSigns ?ti_E_InvalidSigns ?nf_E_InvalidSigns_given ?ga_E_InvalidSigns ?gt_E_InvalidSigns ?hd_C_InvalidSigns ?ncl_E_InvalidSigns ?c_x_InvalidCount ?kp_x_InvalidCount ?ty_C_InvalidCount ?sa_E_InvalidCount ?kc_C_InvalidCount ?ti_E_InvalidCount ?nf_E_InvalidCount_given ?ga_E_InvalidCount ?gt_E_InvalidCount ?hd_C_InvalidCount ?ncl_E_InvalidCount ?c_x_InvalidLines ?kp_x_InvalidLines ?ty_C_InvalidLines ?sa_E_InvalidLines ?kc_C_InvalidLines ?ti_E_InvalidLines ?nf_E_InvalidLines_given ?ga_E_InvalidLines ?gt_E_InvalidLines ?hd_C_InvalidLines ?ncl_E_InvalidLines ?c_x_InvalidScript ?kp_x_InvalidScript ?ty_C_InvalidScript ?sa_E_InvalidScript ?kc_C_InvalidScript ?ti_E_InvalidScript ?nf_E_InvalidScript_given ?ga_E_InvalidScript ?gt_E_InvalidScript ?hd_C_InvalidScript ?ncl_E_InvalidScript ?c_x_InvalidRows ?kp_x_InvalidRows ?ty_C_InvalidRows ?sa_E_InvalidRows ?kc_C_InvalidRows ?ti_E_InvalidRows ?nf_E_InvalidRows_given ?ga_E_InvalidRows ?gt_E_InvalidRows ?hd_C_InvalidRows ?ncl_E_InvalidRows ?c_x_InvalidLater ?kp_x_InvalidLater ?ty_C_InvalidLater ?sa_E_InvalidLater ?kc_C_InvalidLater ?ti_E_InvalidLater ?nf_E_InvalidLater_given ?ga_E_InvalidLater ?gt_E_InvalidLater ?hd_C_InvalidLater ?ncl_E_InvalidLater ?c_x_InvalidKey ?kp_x_InvalidKey ?ty_C_InvalidKey ?sa_E_InvalidKey ?kc_C_InvalidKey ?ti_E_InvalidKey ?nf_E_InvalidKey_given ?ga_E_InvalidKey ?gt_E_InvalidKey ?hd_C_InvalidKey ?ncl_E_InvalidKey ?c_x_InvalidLife ?kp_x_InvalidLife ?ty_C_InvalidLife ?sa_E_InvalidLife ?kc_C_InvalidLife ?ti_E_InvalidLife ?nf_E_InvalidLife_given ?ga_E_InvalidLife ?gt_E_InvalidLife ?hd_C_InvalidLife ?ncl_E_InvalidLife ?c_x_InvalidLetter ?kp_x_InvalidLetter ?ty_C_InvalidLetter ?sa_E_InvalidLetter ?kc_C_InvalidLetter ?ti_E_InvalidLetter ?nf_E_InvalidLetter_given ?ga_E_InvalidLetter ?gt_E_InvalidLetter ?hd_C_InvalidLetter ?ncl_E_InvalidLetter ?c_x_InvalidActs ?kp_x_InvalidActs ?ty_C_InvalidActs ?sa_E_InvalidActs ?kc_C_InvalidActs ?ti_E_InvalidActs ?nf_E_InvalidActs_given ?ga_E_InvalidActs ?gt_E_InvalidActs ?hd_C_InvalidActs ?ncl_E_InvalidActs ?c_x_InvalidAct ?kp_x_InvalidAct ?ty_C_InvalidAct ?sa_E_InvalidAct ?kc_C_InvalidAct ?ti_E_InvalidAct ?nf_E_InvalidAct_given ?ga_E_InvalidAct ?gt_E_InvalidAct ?hd_C_InvalidAct ?ncl_E_InvalidAct ?c_x_InvalidKinds ?kp_x_InvalidKinds ?ty_C_InvalidKinds ?sa_E_InvalidKinds ?kc_C_InvalidKinds ?ti_E_InvalidKinds ?nf_E_InvalidKinds_given ?ga_E_InvalidKinds ?gt_E_InvalidKinds ?hd_C_InvalidKinds ?ncl_E_InvalidKinds ?c_x_InvalidIndex ?kp_x_InvalidIndex ?ty_C_InvalidIndex ?sa_E_InvalidIndex ?kc_C_InvalidIndex ?ti_E_InvalidIndex ?nf_E_InvalidIndex_given ?ga_E_InvalidIndex ?gt_E_InvalidIndex ?hd_C_InvalidIndex ?ncl_E_InvalidIndex ?c_x_NotJoined ?kp_x_NotJoined ?ty_C_NotJoined ?sa_E_NotJoined ?kc_C_NotJoined ?ti_E_NotJoined ?nf_E_NotJoined_house ?ga_E_NotJoined ?gt_E_NotJoined ?hd_C_NotJoined ?ncl_E_NotJoined ?c_x_Stopped ?kp_x_Stopped ?ty_C_Stopped ?sa_E_Stopped ?kc_C_Stopped ?ti_E_Stopped ?nf_E_Stopped_at ?ga_E_Stopped ?gt_E_Stopped ?hd_C_Stopped ?ncl_E_Stopped ?c_x_Faulty ?kp_x_Faulty ?ty_C_Faulty ?sa_E_Faulty ?kc_C_Faulty ?ti_E_Faulty ?nf_E_Faulty_fault ?ga_E_Faulty ?gt_E_Faulty ?hd_C_Faulty ?ncl_E_Faulty ?c_x_DoNotFit ?kp_x_DoNotFit ?ty_C_DoNotFit ?sa_E_DoNotFit ?kc_C_DoNotFit ?ti_E_DoNotFit ?nf_E_DoNotFit_picture ?ga_E_DoNotFit ?gt_E_DoNotFit ?hd_C_DoNotFit ?ncl_E_DoNotFit ?c_x_SameKey ?kp_x_SameKey ?ty_C_SameKey ?sa_E_SameKey ?kc_C_SameKey ?ti_E_SameKey ?nf_E_SameKey_key ?ga_E_SameKey ?gt_E_SameKey ?hd_C_SameKey ?ncl_E_SameKey ?c_x_NotHeld ?kp_x_NotHeld ?ty_C_NotHeld ?sa_E_NotHeld ?kc_C_NotHeld ?ti_E_NotHeld ?nf_E_NotHeld_key ?ga_E_NotHeld ?gt_E_NotHeld ?hd_C_NotHeld ?ncl_E_NotHeld ?c_x_Held ?kp_x_Held ?ty_C_Held ?sa_E_Held ?kc_C_Held ?ti_E_Held ?nf_E_Held_key ?ga_E_Held ?gt_E_Held ?hd_C_Held ?ncl_E_Held ?c_x_TooMany ?kp_x_TooMany ?ty_C_TooMany ?sa_E_TooMany ?kc_C_TooMany ?ti_E_TooMany ?nf_E_TooMany_count ?ga_E_TooMany ?gt_E_TooMany ?hd_C_TooMany ?ncl_E_TooMany ?c_x_NotStanding ?kp_x_NotStanding ?ty_C_NotStanding ?sa_E_NotStanding ?kc_C_NotStanding ?ti_E_NotStanding ?nf_E_NotStanding_now ?ga_E_NotStanding ?gt_E_NotStanding ?hd_C_NotStanding ?ncl_E_NotStanding ?c_x_Down ?kp_x_Down ?ty_C_Down ?sa_E_Down ?kc_C_Down ?ti_E_Down ?nf_E_Down_house ?ga_E_Down ?gt_E_Down ?hd_C_Down ?ncl_E_Down ?c_x_Up ?kp_x_Up ?ty_C_Up ?sa_E_Up ?kc_C_Up ?ti_E_Up ?nf_E_Up_house ?ga_E_Up ?gt_E_Up ?hd_C_Up ?ncl_E_Up ?c_x_NoLetter ?kp_x_NoLetter ?ty_C_NoLetter ?sa_E_NoLetter ?kc_C_NoLetter ?ti_E_NoLetter ?nf_E_NoLetter_k ?ga_E_NoLetter ?gt_E_NoLetter ?hd_C_NoLetter ?ncl_E_NoLetter ?c_x_Refused ?kp_x_Refused ?ty_C_Refused ?sa_E_Refused ?kc_C_Refused ?ti_E_Refused ?nf_E_Refused_at ?ga_E_Refused ?gt_E_Refused ?hd_C_Refused ?ncl_E_Refused ?c_x_NotWhole ?kp_x_NotWhole ?ty_C_NotWhole ?sa_E_NotWhole ?kc_C_NotWhole ?ti_E_NotWhole ?nf_E_NotWhole_house ?ga_E_NotWhole ?gt_E_NotWhole ?hd_C_NotWhole ?ncl_E_NotWhole ?c_x_Turned ?kp_x_Turned ?ty_C_Turned ?sa_E_Turned ?kc_C_Turned ?ti_E_Turned ?nf_E_Turned_at ?ga_E_Turned ?gt_E_Turned ?hd_C_Turned ?ncl_E_Turned ?c_x_NotARoad ?kp_x_NotARoad ?ty_C_NotARoad ?sa_E_NotARoad ?kc_C_NotARoad ?ti_E_NotARoad ?nf_E_NotARoad_u ?nf_E_NotARoad_v ?ga_E_NotARoad ?gt_E_NotARoad ?hd_C_NotARoad ?ncl_E_NotARoad ?c_x_NothingUnderWay ?kp_x_NothingUnderWay ?ty_C_NothingUnderWay ?sa_E_NothingUnderWay ?kc_C_NothingUnderWay ?ti_E_NothingUnderWay ?nf_E_NothingUnderWay_u ?nf_E_NothingUnderWay_v ?ga_E_NothingUnderWay ?gt_E_NothingUnderWay ?hd_C_NothingUnderWay ?ncl_E_NothingUnderWay ?c_x_NotAhead ?kp_x_NotAhead ?ty_C_NotAhead ?sa_E_NotAhead ?kc_C_NotAhead ?ti_E_NotAhead ?nf_E_NotAhead_x ?nf_E_NotAhead_z ?ga_E_NotAhead ?gt_E_NotAhead ?hd_C_NotAhead ?ncl_E_NotAhead ?c_x_SurelyAhead ?kp_x_SurelyAhead ?ty_C_SurelyAhead ?sa_E_SurelyAhead ?kc_C_SurelyAhead ?ti_E_SurelyAhead ?nf_E_SurelyAhead_x ?nf_E_SurelyAhead_z ?ga_E_SurelyAhead ?gt_E_SurelyAhead ?hd_C_SurelyAhead ?ncl_E_SurelyAhead ?r_q_NoStanding ?r_kc_NoStanding ?r_rb_NoStanding ?r_rt_NoStanding ?ga_nv_NoStanding ?gt_nv_NoStanding ?hd_C_NoStanding ?ncl_nv_NoStanding ?nmo_nv_NoStanding ?ty_C_UnsaidError ?eb_C_UnsaidError ?hd_C_UnsaidError ?z_n_ValueError ?z_n_abs ?z_n_dict ?z_n_int ?z_n_isinstance ?z_n_len ?z_n_max ?z_n_min ?z_n_range ?z_n_repr ?z_n_sum ?c_d_l_cell ?kp_d_l_cell ?c_d_l_box ?kp_d_l_box ?c_d_l_take ?kp_d_l_take ?c_d_l_by_place ?kp_d_l_by_place ?c_d_l_by_name ?kp_d_l_by_name ?c_d_l_pairs ?kp_d_l_pairs ?c_d_l_sorts ?kp_d_l_sorts ?c_d_l_is ?kp_d_l_is ?c_d_l_kept ?kp_d_l_kept ?c_d_l_two_kept ?kp_d_l_two_kept ?c_d_l_thing ?kp_d_l_thing ?c_d_l_caught ?kp_d_l_caught ?c_d_l_ones_right ?kp_d_l_ones_right ?c_d_l_twos_right ?kp_d_l_twos_right ?c_d_l_grown_right ?kp_d_l_grown_right ?c_d_law ?kp_d_law
    (case g_E_InvalidLine => k_is)
    (case g_E_InvalidText => k_is)
    (case g_E_InvalidCell => k_is)
    (case g_E_InvalidHouses => k_is)
    (case g_E_InvalidRoads => k_is)
    (case g_E_InvalidHouse => k_is)
    (case g_E_InvalidSigns => k_is)
    (case g_E_InvalidCount => k_is)
    (case g_E_InvalidLines => k_is)
    (case g_E_InvalidScript => k_is)
    (case g_E_InvalidRows => k_is)
    (case g_E_InvalidLater => k_is)
    (case g_E_InvalidKey => k_is)
    (case g_E_InvalidLife => k_is)
    (case g_E_InvalidLetter => k_is)
    (case g_E_InvalidActs => k_is)
    (case g_E_InvalidAct => k_is)
    (case g_E_InvalidKinds => k_is)
    (case g_E_InvalidIndex => k_is)
    (case g_E_NotJoined => k_is)
    (case g_E_Stopped => k_is)
    (case g_E_Faulty => k_is)
    (case g_E_DoNotFit => k_is)
    (case g_E_SameKey => k_is)
    (case g_E_NotHeld => k_is)
    (case g_E_Held => k_is)
    (case g_E_TooMany => k_is)
    (case g_E_NotStanding => k_is)
    (case g_E_Down => k_is)
    (case g_E_Up => k_is)
    (case g_E_NoLetter => k_is)
    (case g_E_Refused => k_is)
    (case g_E_NotWhole => k_is)
    (case g_E_Turned => k_is)
    (case g_E_NotARoad => k_is)
    (case g_E_NothingUnderWay => k_is)
    (case g_E_NotAhead => k_is)
    (case g_E_SurelyAhead => k_is)
    (case g_m_NoStanding => k_is)
    (case g_m_UnsaidError => k_is)
    (case a_x_InvalidLine => k_is)
    (case a_x_InvalidText => k_is)
    (case a_x_InvalidCell => k_is)
    (case a_x_InvalidHouses => k_is)
    (case a_x_InvalidRoads => k_is)
    (case a_x_InvalidHouse => k_is)
    (case a_x_InvalidSigns => k_is)
    (case a_x_InvalidCount => k_is)
    (case a_x_InvalidLines => k_is)
    (case a_x_InvalidScript => k_is)
    (case a_x_InvalidRows => k_is)
    (case a_x_InvalidLater => k_is)
    (case a_x_InvalidKey => k_is)
    (case a_x_InvalidLife => k_is)
    (case a_x_InvalidLetter => k_is)
    (case a_x_InvalidActs => k_is)
    (case a_x_InvalidAct => k_is)
    (case a_x_InvalidKinds => k_is)
    (case a_x_InvalidIndex => k_is)
    (case a_x_NotJoined => k_is)
    (case a_x_Stopped => k_is)
    (case a_x_Faulty => k_is)
    (case a_x_DoNotFit => k_is)
    (case a_x_SameKey => k_is)
    (case a_x_NotHeld => k_is)
    (case a_x_Held => k_is)
    (case a_x_TooMany => k_is)
    (case a_x_NotStanding => k_is)
    (case a_x_Down => k_is)
    (case a_x_Up => k_is)
    (case a_x_NoLetter => k_is)
    (case a_x_Refused => k_is)
    (case a_x_NotWhole => k_is)
    (case a_x_Turned => k_is)
    (case a_x_NotARoad => k_is)
    (case a_x_NothingUnderWay => k_is)
    (case a_x_NotAhead => k_is)
    (case a_x_SurelyAhead => k_is)
    (case a_d_l_cell => k_is)
    (case a_d_l_box => k_is)
    (case a_d_l_take => k_is)
    (case a_d_l_by_place => k_is)
    (case a_d_l_by_name => k_is)
    (case a_d_l_pairs => k_is)
    (case a_d_l_sorts => k_is)
    (case a_d_l_is => k_is)
    (case a_d_l_kept => k_is)
    (case a_d_l_two_kept => k_is)
    (case a_d_l_thing => k_is)
    (case a_d_l_caught => k_is)
    (case a_d_l_ones_right => k_is)
    (case a_d_l_twos_right => k_is)
    (case a_d_l_grown_right => k_is)
    (case a_d_law => k_is)
    (case l_x_InvalidLine => k_is)
    (case l_x_InvalidText => k_is)
    (case l_x_InvalidCell => k_is)
    (case l_x_InvalidHouses => k_is)
    (case l_x_InvalidRoads => k_is)
    (case l_x_InvalidHouse => k_is)
    (case l_x_InvalidSigns => k_is)
    (case l_x_InvalidCount => k_is)
    (case l_x_InvalidLines => k_is)
    (case l_x_InvalidScript => k_is)
    (case l_x_InvalidRows => k_is)
    (case l_x_InvalidLater => k_is)
    (case l_x_InvalidKey => k_is)
    (case l_x_InvalidLife => k_is)
    (case l_x_InvalidLetter => k_is)
    (case l_x_InvalidActs => k_is)
    (case l_x_InvalidAct => k_is)
    (case l_x_InvalidKinds => k_is)
    (case l_x_InvalidIndex => k_is)
    (case l_x_NotJoined => k_is)
    (case l_x_Stopped => k_is)
    (case l_x_Faulty => k_is)
    (case l_x_DoNotFit => k_is)
    (case l_x_SameKey => k_is)
    (case l_x_NotHeld => k_is)
    (case l_x_Held => k_is)
    (case l_x_TooMany => k_is)
    (case l_x_NotStanding => k_is)
    (case l_x_Down => k_is)
    (case l_x_Up => k_is)
    (case l_x_NoLetter => k_is)
    (case l_x_Refused => k_is)
    (case l_x_NotWhole => k_is)
    (case l_x_Turned => k_is)
    (case l_x_NotARoad => k_is)
    (case l_x_NothingUnderWay => k_is)
    (case l_x_NotAhead => k_is)
    (case l_x_SurelyAhead => k_is)
    (case l_d_l_cell => k_is)
    (case l_d_l_box => k_is)
    (case l_d_l_take => k_is)
    (case l_d_l_by_place => k_is)
    (case l_d_l_by_name => k_is)
    (case l_d_l_pairs => k_is)
    (case l_d_l_sorts => k_is)
    (case l_d_l_is => k_is)
    (case l_d_l_kept => k_is)
    (case l_d_l_two_kept => k_is)
    (case l_d_l_thing => k_is)
    (case l_d_l_caught => k_is)
    (case l_d_l_ones_right => k_is)
    (case l_d_l_twos_right => k_is)
    (case l_d_l_grown_right => k_is)
    (case l_d_law => k_is)
    (case xl_E_InvalidLine => k_is)
    (case xl_E_InvalidText => k_is)
    (case xl_E_InvalidCell => k_is)
    (case xl_E_InvalidHouses => k_is)
    (case xl_E_InvalidRoads => k_is)
    (case xl_E_InvalidHouse => k_is)
    (case xl_E_InvalidSigns => k_is)
    (case xl_E_InvalidCount => k_is)
    (case xl_E_InvalidLines => k_is)
    (case xl_E_InvalidScript => k_is)
    (case xl_E_InvalidRows => k_is)
    (case xl_E_InvalidLater => k_is)
    (case xl_E_InvalidKey => k_is)
    (case xl_E_InvalidLife => k_is)
    (case xl_E_InvalidLetter => k_is)
    (case xl_E_InvalidActs => k_is)
    (case xl_E_InvalidAct => k_is)
    (case xl_E_InvalidKinds => k_is)
    (case xl_E_InvalidIndex => k_is)
    (case xl_E_NotJoined => k_is)
    (case xl_E_Stopped => k_is)
    (case xl_E_Faulty => k_is)
    (case xl_E_DoNotFit => k_is)
    (case xl_E_SameKey => k_is)
    (case xl_E_NotHeld => k_is)
    (case xl_E_Held => k_is)
    (case xl_E_TooMany => k_is)
    (case xl_E_NotStanding => k_is)
    (case xl_E_Down => k_is)
    (case xl_E_Up => k_is)
    (case xl_E_NoLetter => k_is)
    (case xl_E_Refused => k_is)
    (case xl_E_NotWhole => k_is)
    (case xl_E_Turned => k_is)
    (case xl_E_NotARoad => k_is)
    (case xl_E_NothingUnderWay => k_is)
    (case xl_E_NotAhead => k_is)
    (case xl_E_SurelyAhead => k_is)
    (case xl_n_NoStanding => k_is)
    (case xl_u_UnsaidError => k_is)
    (case c_x_InvalidLine => k_is)
    (case kp_x_InvalidLine => k_is)
    (case ty_C_InvalidLine => k_is)
    (case sa_E_InvalidLine => k_is)
    (case kc_C_InvalidLine => k_is)
    (case ti_E_InvalidLine => k_is)
    (case nf_E_InvalidLine_given => k_is)
    (case ga_E_InvalidLine => k_is)
    (case gt_E_InvalidLine => k_is)
    (case hd_C_InvalidLine => k_is)
    (case ncl_E_InvalidLine => k_is)
    (case nsp => k_is)
    (case ntk => k_is)
    (case c_x_InvalidText => k_is)
    (case kp_x_InvalidText => k_is)
    (case ty_C_InvalidText => k_is)
    (case sa_E_InvalidText => k_is)
    (case kc_C_InvalidText => k_is)
    (case ti_E_InvalidText => k_is)
    (case nf_E_InvalidText_given => k_is)
    (case ga_E_InvalidText => k_is)
    (case gt_E_InvalidText => k_is)
    (case hd_C_InvalidText => k_is)
    (case ncl_E_InvalidText => k_is)
    (case c_x_InvalidCell => k_is)
    (case kp_x_InvalidCell => k_is)
    (case ty_C_InvalidCell => k_is)
    (case sa_E_InvalidCell => k_is)
    (case kc_C_InvalidCell => k_is)
    (case ti_E_InvalidCell => k_is)
    (case nf_E_InvalidCell_given => k_is)
    (case ga_E_InvalidCell => k_is)
    (case gt_E_InvalidCell => k_is)
    (case hd_C_InvalidCell => k_is)
    (case ncl_E_InvalidCell => k_is)
    (case c_x_InvalidHouses => k_is)
    (case kp_x_InvalidHouses => k_is)
    (case ty_C_InvalidHouses => k_is)
    (case sa_E_InvalidHouses => k_is)
    (case kc_C_InvalidHouses => k_is)
    (case ti_E_InvalidHouses => k_is)
    (case nf_E_InvalidHouses_given => k_is)
    (case ga_E_InvalidHouses => k_is)
    (case gt_E_InvalidHouses => k_is)
    (case hd_C_InvalidHouses => k_is)
    (case ncl_E_InvalidHouses => k_is)
    (case c_x_InvalidRoads => k_is)
    (case kp_x_InvalidRoads => k_is)
    (case ty_C_InvalidRoads => k_is)
    (case sa_E_InvalidRoads => k_is)
    (case kc_C_InvalidRoads => k_is)
    (case ti_E_InvalidRoads => k_is)
    (case nf_E_InvalidRoads_given => k_is)
    (case ga_E_InvalidRoads => k_is)
    (case gt_E_InvalidRoads => k_is)
    (case hd_C_InvalidRoads => k_is)
    (case ncl_E_InvalidRoads => k_is)
    (case c_x_InvalidHouse => k_is)
    (case kp_x_InvalidHouse => k_is)
    (case ty_C_InvalidHouse => k_is)
    (case sa_E_InvalidHouse => k_is)
    (case kc_C_InvalidHouse => k_is)
    (case ti_E_InvalidHouse => k_is)
    (case nf_E_InvalidHouse_given => k_is)
    (case ga_E_InvalidHouse => k_is)
    (case gt_E_InvalidHouse => k_is)
    (case hd_C_InvalidHouse => k_is)
    (case ncl_E_InvalidHouse => k_is)
    (case c_x_InvalidSigns => k_is)
    (case kp_x_InvalidSigns => k_is)
    (case ty_C_InvalidSigns => k_is)
    (case sa_E_InvalidSigns => k_is)
    (case kc_C_InvalidSigns => k_is)
    (case ti_E_InvalidSigns => k_is)
    (case nf_E_InvalidSigns_given => k_is)
    (case ga_E_InvalidSigns => k_is)
    (case gt_E_InvalidSigns => k_is)
    (case hd_C_InvalidSigns => k_is)
    (case ncl_E_InvalidSigns => k_is)
    (case c_x_InvalidCount => k_is)
    (case kp_x_InvalidCount => k_is)
    (case ty_C_InvalidCount => k_is)
    (case sa_E_InvalidCount => k_is)
    (case kc_C_InvalidCount => k_is)
    (case ti_E_InvalidCount => k_is)
    (case nf_E_InvalidCount_given => k_is)
    (case ga_E_InvalidCount => k_is)
    (case gt_E_InvalidCount => k_is)
    (case hd_C_InvalidCount => k_is)
    (case ncl_E_InvalidCount => k_is)
    (case c_x_InvalidLines => k_is)
    (case kp_x_InvalidLines => k_is)
    (case ty_C_InvalidLines => k_is)
    (case sa_E_InvalidLines => k_is)
    (case kc_C_InvalidLines => k_is)
    (case ti_E_InvalidLines => k_is)
    (case nf_E_InvalidLines_given => k_is)
    (case ga_E_InvalidLines => k_is)
    (case gt_E_InvalidLines => k_is)
    (case hd_C_InvalidLines => k_is)
    (case ncl_E_InvalidLines => k_is)
    (case c_x_InvalidScript => k_is)
    (case kp_x_InvalidScript => k_is)
    (case ty_C_InvalidScript => k_is)
    (case sa_E_InvalidScript => k_is)
    (case kc_C_InvalidScript => k_is)
    (case ti_E_InvalidScript => k_is)
    (case nf_E_InvalidScript_given => k_is)
    (case ga_E_InvalidScript => k_is)
    (case gt_E_InvalidScript => k_is)
    (case hd_C_InvalidScript => k_is)
    (case ncl_E_InvalidScript => k_is)
    (case c_x_InvalidRows => k_is)
    (case kp_x_InvalidRows => k_is)
    (case ty_C_InvalidRows => k_is)
    (case sa_E_InvalidRows => k_is)
    (case kc_C_InvalidRows => k_is)
    (case ti_E_InvalidRows => k_is)
    (case nf_E_InvalidRows_given => k_is)
    (case ga_E_InvalidRows => k_is)
    (case gt_E_InvalidRows => k_is)
    (case hd_C_InvalidRows => k_is)
    (case ncl_E_InvalidRows => k_is)
    (case c_x_InvalidLater => k_is)
    (case kp_x_InvalidLater => k_is)
    (case ty_C_InvalidLater => k_is)
    (case sa_E_InvalidLater => k_is)
    (case kc_C_InvalidLater => k_is)
    (case ti_E_InvalidLater => k_is)
    (case nf_E_InvalidLater_given => k_is)
    (case ga_E_InvalidLater => k_is)
    (case gt_E_InvalidLater => k_is)
    (case hd_C_InvalidLater => k_is)
    (case ncl_E_InvalidLater => k_is)
    (case c_x_InvalidKey => k_is)
    (case kp_x_InvalidKey => k_is)
    (case ty_C_InvalidKey => k_is)
    (case sa_E_InvalidKey => k_is)
    (case kc_C_InvalidKey => k_is)
    (case ti_E_InvalidKey => k_is)
    (case nf_E_InvalidKey_given => k_is)
    (case ga_E_InvalidKey => k_is)
    (case gt_E_InvalidKey => k_is)
    (case hd_C_InvalidKey => k_is)
    (case ncl_E_InvalidKey => k_is)
    (case c_x_InvalidLife => k_is)
    (case kp_x_InvalidLife => k_is)
    (case ty_C_InvalidLife => k_is)
    (case sa_E_InvalidLife => k_is)
    (case kc_C_InvalidLife => k_is)
    (case ti_E_InvalidLife => k_is)
    (case nf_E_InvalidLife_given => k_is)
    (case ga_E_InvalidLife => k_is)
    (case gt_E_InvalidLife => k_is)
    (case hd_C_InvalidLife => k_is)
    (case ncl_E_InvalidLife => k_is)
    (case c_x_InvalidLetter => k_is)
    (case kp_x_InvalidLetter => k_is)
    (case ty_C_InvalidLetter => k_is)
    (case sa_E_InvalidLetter => k_is)
    (case kc_C_InvalidLetter => k_is)
    (case ti_E_InvalidLetter => k_is)
    (case nf_E_InvalidLetter_given => k_is)
    (case ga_E_InvalidLetter => k_is)
    (case gt_E_InvalidLetter => k_is)
    (case hd_C_InvalidLetter => k_is)
    (case ncl_E_InvalidLetter => k_is)
    (case c_x_InvalidActs => k_is)
    (case kp_x_InvalidActs => k_is)
    (case ty_C_InvalidActs => k_is)
    (case sa_E_InvalidActs => k_is)
    (case kc_C_InvalidActs => k_is)
    (case ti_E_InvalidActs => k_is)
    (case nf_E_InvalidActs_given => k_is)
    (case ga_E_InvalidActs => k_is)
    (case gt_E_InvalidActs => k_is)
    (case hd_C_InvalidActs => k_is)
    (case ncl_E_InvalidActs => k_is)
    (case c_x_InvalidAct => k_is)
    (case kp_x_InvalidAct => k_is)
    (case ty_C_InvalidAct => k_is)
    (case sa_E_InvalidAct => k_is)
    (case kc_C_InvalidAct => k_is)
    (case ti_E_InvalidAct => k_is)
    (case nf_E_InvalidAct_given => k_is)
    (case ga_E_InvalidAct => k_is)
    (case gt_E_InvalidAct => k_is)
    (case hd_C_InvalidAct => k_is)
    (case ncl_E_InvalidAct => k_is)
    (case c_x_InvalidKinds => k_is)
    (case kp_x_InvalidKinds => k_is)
    (case ty_C_InvalidKinds => k_is)
    (case sa_E_InvalidKinds => k_is)
    (case kc_C_InvalidKinds => k_is)
    (case ti_E_InvalidKinds => k_is)
    (case nf_E_InvalidKinds_given => k_is)
    (case ga_E_InvalidKinds => k_is)
    (case gt_E_InvalidKinds => k_is)
    (case hd_C_InvalidKinds => k_is)
    (case ncl_E_InvalidKinds => k_is)
    (case c_x_InvalidIndex => k_is)
    (case kp_x_InvalidIndex => k_is)
    (case ty_C_InvalidIndex => k_is)
    (case sa_E_InvalidIndex => k_is)
    (case kc_C_InvalidIndex => k_is)
    (case ti_E_InvalidIndex => k_is)
    (case nf_E_InvalidIndex_given => k_is)
    (case ga_E_InvalidIndex => k_is)
    (case gt_E_InvalidIndex => k_is)
    (case hd_C_InvalidIndex => k_is)
    (case ncl_E_InvalidIndex => k_is)
    (case c_x_NotJoined => k_is)
    (case kp_x_NotJoined => k_is)
    (case ty_C_NotJoined => k_is)
    (case sa_E_NotJoined => k_is)
    (case kc_C_NotJoined => k_is)
    (case ti_E_NotJoined => k_is)
    (case nf_E_NotJoined_house => k_is)
    (case ga_E_NotJoined => k_is)
    (case gt_E_NotJoined => k_is)
    (case hd_C_NotJoined => k_is)
    (case ncl_E_NotJoined => k_is)
    (case c_x_Stopped => k_is)
    (case kp_x_Stopped => k_is)
    (case ty_C_Stopped => k_is)
    (case sa_E_Stopped => k_is)
    (case kc_C_Stopped => k_is)
    (case ti_E_Stopped => k_is)
    (case nf_E_Stopped_at => k_is)
    (case ga_E_Stopped => k_is)
    (case gt_E_Stopped => k_is)
    (case hd_C_Stopped => k_is)
    (case ncl_E_Stopped => k_is)
    (case c_x_Faulty => k_is)
    (case kp_x_Faulty => k_is)
    (case ty_C_Faulty => k_is)
    (case sa_E_Faulty => k_is)
    (case kc_C_Faulty => k_is)
    (case ti_E_Faulty => k_is)
    (case nf_E_Faulty_fault => k_is)
    (case ga_E_Faulty => k_is)
    (case gt_E_Faulty => k_is)
    (case hd_C_Faulty => k_is)
    (case ncl_E_Faulty => k_is)
    (case c_x_DoNotFit => k_is)
    (case kp_x_DoNotFit => k_is)
    (case ty_C_DoNotFit => k_is)
    (case sa_E_DoNotFit => k_is)
    (case kc_C_DoNotFit => k_is)
    (case ti_E_DoNotFit => k_is)
    (case nf_E_DoNotFit_picture => k_is)
    (case ga_E_DoNotFit => k_is)
    (case gt_E_DoNotFit => k_is)
    (case hd_C_DoNotFit => k_is)
    (case ncl_E_DoNotFit => k_is)
    (case c_x_SameKey => k_is)
    (case kp_x_SameKey => k_is)
    (case ty_C_SameKey => k_is)
    (case sa_E_SameKey => k_is)
    (case kc_C_SameKey => k_is)
    (case ti_E_SameKey => k_is)
    (case nf_E_SameKey_key => k_is)
    (case ga_E_SameKey => k_is)
    (case gt_E_SameKey => k_is)
    (case hd_C_SameKey => k_is)
    (case ncl_E_SameKey => k_is)
    (case c_x_NotHeld => k_is)
    (case kp_x_NotHeld => k_is)
    (case ty_C_NotHeld => k_is)
    (case sa_E_NotHeld => k_is)
    (case kc_C_NotHeld => k_is)
    (case ti_E_NotHeld => k_is)
    (case nf_E_NotHeld_key => k_is)
    (case ga_E_NotHeld => k_is)
    (case gt_E_NotHeld => k_is)
    (case hd_C_NotHeld => k_is)
    (case ncl_E_NotHeld => k_is)
    (case c_x_Held => k_is)
    (case kp_x_Held => k_is)
    (case ty_C_Held => k_is)
    (case sa_E_Held => k_is)
    (case kc_C_Held => k_is)
    (case ti_E_Held => k_is)
    (case nf_E_Held_key => k_is)
    (case ga_E_Held => k_is)
    (case gt_E_Held => k_is)
    (case hd_C_Held => k_is)
    (case ncl_E_Held => k_is)
    (case c_x_TooMany => k_is)
    (case kp_x_TooMany => k_is)
    (case ty_C_TooMany => k_is)
    (case sa_E_TooMany => k_is)
    (case kc_C_TooMany => k_is)
    (case ti_E_TooMany => k_is)
    (case nf_E_TooMany_count => k_is)
    (case ga_E_TooMany => k_is)
    (case gt_E_TooMany => k_is)
    (case hd_C_TooMany => k_is)
    (case ncl_E_TooMany => k_is)
    (case c_x_NotStanding => k_is)
    (case kp_x_NotStanding => k_is)
    (case ty_C_NotStanding => k_is)
    (case sa_E_NotStanding => k_is)
    (case kc_C_NotStanding => k_is)
    (case ti_E_NotStanding => k_is)
    (case nf_E_NotStanding_now => k_is)
    (case ga_E_NotStanding => k_is)
    (case gt_E_NotStanding => k_is)
    (case hd_C_NotStanding => k_is)
    (case ncl_E_NotStanding => k_is)
    (case c_x_Down => k_is)
    (case kp_x_Down => k_is)
    (case ty_C_Down => k_is)
    (case sa_E_Down => k_is)
    (case kc_C_Down => k_is)
    (case ti_E_Down => k_is)
    (case nf_E_Down_house => k_is)
    (case ga_E_Down => k_is)
    (case gt_E_Down => k_is)
    (case hd_C_Down => k_is)
    (case ncl_E_Down => k_is)
    (case c_x_Up => k_is)
    (case kp_x_Up => k_is)
    (case ty_C_Up => k_is)
    (case sa_E_Up => k_is)
    (case kc_C_Up => k_is)
    (case ti_E_Up => k_is)
    (case nf_E_Up_house => k_is)
    (case ga_E_Up => k_is)
    (case gt_E_Up => k_is)
    (case hd_C_Up => k_is)
    (case ncl_E_Up => k_is)
    (case c_x_NoLetter => k_is)
    (case kp_x_NoLetter => k_is)
    (case ty_C_NoLetter => k_is)
    (case sa_E_NoLetter => k_is)
    (case kc_C_NoLetter => k_is)
    (case ti_E_NoLetter => k_is)
    (case nf_E_NoLetter_k => k_is)
    (case ga_E_NoLetter => k_is)
    (case gt_E_NoLetter => k_is)
    (case hd_C_NoLetter => k_is)
    (case ncl_E_NoLetter => k_is)
    (case c_x_Refused => k_is)
    (case kp_x_Refused => k_is)
    (case ty_C_Refused => k_is)
    (case sa_E_Refused => k_is)
    (case kc_C_Refused => k_is)
    (case ti_E_Refused => k_is)
    (case nf_E_Refused_at => k_is)
    (case ga_E_Refused => k_is)
    (case gt_E_Refused => k_is)
    (case hd_C_Refused => k_is)
    (case ncl_E_Refused => k_is)
    (case c_x_NotWhole => k_is)
    (case kp_x_NotWhole => k_is)
    (case ty_C_NotWhole => k_is)
    (case sa_E_NotWhole => k_is)
    (case kc_C_NotWhole => k_is)
    (case ti_E_NotWhole => k_is)
    (case nf_E_NotWhole_house => k_is)
    (case ga_E_NotWhole => k_is)
    (case gt_E_NotWhole => k_is)
    (case hd_C_NotWhole => k_is)
    (case ncl_E_NotWhole => k_is)
    (case c_x_Turned => k_is)
    (case kp_x_Turned => k_is)
    (case ty_C_Turned => k_is)
    (case sa_E_Turned => k_is)
    (case kc_C_Turned => k_is)
    (case ti_E_Turned => k_is)
    (case nf_E_Turned_at => k_is)
    (case ga_E_Turned => k_is)
    (case gt_E_Turned => k_is)
    (case hd_C_Turned => k_is)
    (case ncl_E_Turned => k_is)
    (case c_x_NotARoad => k_is)
    (case kp_x_NotARoad => k_is)
    (case ty_C_NotARoad => k_is)
    (case sa_E_NotARoad => k_is)
    (case kc_C_NotARoad => k_is)
    (case ti_E_NotARoad => k_is)
    (case nf_E_NotARoad_u => k_is)
    (case nf_E_NotARoad_v => k_is)
    (case ga_E_NotARoad => k_is)
    (case gt_E_NotARoad => k_is)
    (case hd_C_NotARoad => k_is)
    (case ncl_E_NotARoad => k_is)
    (case c_x_NothingUnderWay => k_is)
    (case kp_x_NothingUnderWay => k_is)
    (case ty_C_NothingUnderWay => k_is)
    (case sa_E_NothingUnderWay => k_is)
    (case kc_C_NothingUnderWay => k_is)
    (case ti_E_NothingUnderWay => k_is)
    (case nf_E_NothingUnderWay_u => k_is)
    (case nf_E_NothingUnderWay_v => k_is)
    (case ga_E_NothingUnderWay => k_is)
    (case gt_E_NothingUnderWay => k_is)
    (case hd_C_NothingUnderWay => k_is)
    (case ncl_E_NothingUnderWay => k_is)
    (case c_x_NotAhead => k_is)
    (case kp_x_NotAhead => k_is)
    (case ty_C_NotAhead => k_is)
    (case sa_E_NotAhead => k_is)
    (case kc_C_NotAhead => k_is)
    (case ti_E_NotAhead => k_is)
    (case nf_E_NotAhead_x => k_is)
    (case nf_E_NotAhead_z => k_is)
    (case ga_E_NotAhead => k_is)
    (case gt_E_NotAhead => k_is)
    (case hd_C_NotAhead => k_is)
    (case ncl_E_NotAhead => k_is)
    (case c_x_SurelyAhead => k_is)
    (case kp_x_SurelyAhead => k_is)
    (case ty_C_SurelyAhead => k_is)
    (case sa_E_SurelyAhead => k_is)
    (case kc_C_SurelyAhead => k_is)
    (case ti_E_SurelyAhead => k_is)
    (case nf_E_SurelyAhead_x => k_is)
    (case nf_E_SurelyAhead_z => k_is)
    (case ga_E_SurelyAhead => k_is)
    (case gt_E_SurelyAhead => k_is)
    (case hd_C_SurelyAhead => k_is)
    (case ncl_E_SurelyAhead => k_is)
    (case r_q_NoStanding => k_exc)
    (case r_kc_NoStanding => k_is)
    (case r_rb_NoStanding => k_is)
    (case r_rt_NoStanding => k_is)
    (case ga_nv_NoStanding => k_is)
    (case gt_nv_NoStanding => k_is)
    (case hd_C_NoStanding => k_is)
    (case ncl_nv_NoStanding => k_is)
    (case nmo_nv_NoStanding => k_is)
    (case ty_C_UnsaidError => k_is)
    (case eb_C_UnsaidError => k_is)
    (case hd_C_UnsaidError => k_is)
    (case z_n_ValueError => k_is)
    (case z_n_abs => k_is)
    (case z_n_dict => k_is)
    (case z_n_int => k_is)
    (case z_n_isinstance => k_is)
    (case z_n_len => k_is)
    (case z_n_max => k_is)
    (case z_n_min => k_is)
    (case z_n_range => k_is)
    (case z_n_repr => k_is)
    (case z_n_sum => k_is)
    (case c_d_l_cell => k_is)
    (case kp_d_l_cell => k_is)
    (case c_d_l_box => k_is)
    (case kp_d_l_box => k_is)
    (case c_d_l_take => k_is)
    (case kp_d_l_take => k_is)
    (case c_d_l_by_place => k_is)
    (case kp_d_l_by_place => k_is)
    (case c_d_l_by_name => k_is)
    (case kp_d_l_by_name => k_is)
    (case c_d_l_pairs => k_is)
    (case kp_d_l_pairs => k_is)
    (case c_d_l_sorts => k_is)
    (case kp_d_l_sorts => k_is)
    (case c_d_l_is => k_is)
    (case kp_d_l_is => k_is)
    (case c_d_l_kept => k_is)
    (case kp_d_l_kept => k_is)
    (case c_d_l_two_kept => k_is)
    (case kp_d_l_two_kept => k_is)
    (case c_d_l_thing => k_is)
    (case kp_d_l_thing => k_is)
    (case c_d_l_caught => k_is)
    (case kp_d_l_caught => k_is)
    (case c_d_l_ones_right => k_is)
    (case kp_d_l_ones_right => k_is)
    (case c_d_l_twos_right => k_is)
    (case kp_d_l_twos_right => k_is)
    (case c_d_l_grown_right => k_is)
    (case kp_d_l_grown_right => k_is)
    (case c_d_law => k_is)
    (case kp_d_law => k_is)
  case S => exact fun K H a ns hl hS => ⟨a, ns, rfl, hS, hl, fun _ => rfl⟩
