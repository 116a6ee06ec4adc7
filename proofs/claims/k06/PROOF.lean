import PyProof.Rows.All
import Wide.All
import OpenK.AllK
import Wide.FinOn
import HandS.ForMost
import HandS.ForExc
import HandS.IsInst
import HandS.StrMore
import HandS.Style
import HandS.Property
import HandS.Flow
import HandS.TryMany
import HandS.ExcInit
import HandS.ExcIs
import HandS.ExcField
import HandS.Defaults
import HandS.Wide
import HandS.Walk
import HandS.FStr
import HandS.Conv
import HandS.SortInts
import HandS.More
import PyProof.CallFns
import PyProof.FString3
import PyProof.Rows.StrIntSpec
import PyProof.P3Eq
import HandS.HotCalls
import PyProof.InstEq
import HandS.Small
import PyProof.Rows.StrSplitMax
import PyProof.StrLawsIn
import PyProof.FitsReplace
import PyProof.ReprRoads
import HandS.NamedTupGet
import HandS.OwnEq
import HandS.MakeKw
import PyProof.StrLawsChain
import HandS.StrSplit
import HandS.Codes
import PySem.Challenge.RW_neverunsaid_k06_whole_logs_behind_falls
set_option Elab.async false
set_option linter.all false
set_option maxRecDepth 100000
set_option maxHeartbeats 4000000
namespace Nv
open PySem PySem.Spec PyProof.Rows L2

/-- a def's promise where no repr is under way -/
structure FnG (P : Program) (w : World) (K : PySem.W.Frag) (mg : Str → Option Value) (base : Heap) (k : Nat)
    (f : Addr) (fd : FuncData) (ps : List Str) (sp : Sp) : Prop where
  len : ∀ vs H Q E, sp vs H Q E → vs.length = ps.length
  run : ∀ (A : Around) (outer : List Env) (s : Shared) (H : Hp) (args : Args) (us : List Value) (vs : List V) (Q : VK) (E : XK),
    A.guards = some [] → Room k A → Env0 P w K mg base A outer s H → BindsTo s fd args (ps.zip us) → Vals vs us →
    sp vs H Q E → codeAny (model P w) A (.call (.ref f) args) (CR (L2.CX P w) outer P w H s Q E) s

section
variable {P : Program} {w : World} {K : PySem.W.Frag} {mg : Str → Option Value} {base : Heap} {k : Nat}
    {f : Addr} {fd : FuncData} {ps : List Str} {sp : Sp}
theorem FnG.mono {j : Nat} (F : FnG P w K mg base j f fd ps sp) (h : j ≤ k) : FnG P w K mg base k f fd ps sp :=
  ⟨F.len, fun A o s H a us vs Q E hg hr => F.run A o s H a us vs Q E hg (hr.mono h)⟩
theorem FnG.imp {sp' : Sp} (F : FnG P w K mg base k f fd ps sp) (h : ∀ vs H Q E, sp' vs H Q E → sp vs H Q E) :
    FnG P w K mg base k f fd ps sp' :=
  ⟨fun vs H Q E z => F.len vs H Q E (h _ _ _ _ z),
    fun A o s H a us vs Q E hg hr he hb hv hs => F.run A o s H a us vs Q E hg hr he hb hv (h _ _ _ _ hs)⟩
/-- a def by its body -/
theorem okG {x qual : Str} {st : Stmt} {N : List Str} (F : Fun K x qual st f fd) (S : FnScope N ps (defScope st))
    (len : ∀ vs H Q E, sp vs H Q E → vs.length = ps.length)
    (body : ∀ (cdv : Value) (A : Around) (outer : List Env) (s : Shared) (H : Hp) (vs : List V) (Q : VK) (E : XK),
      A.guards = some [] → Room k (A.deeper (envOfC qual (defScope st) s.heap.objs.size f cdv)) → sp vs H Q E →
      ∃ t, PSs (cxOf (L2.CX P w) P w K mg base N qual (defScope st) f cdv A outer s H E) (defBody st) t ∧
        t { nx := fun _ H' => Q .non H', rt := Q } (start N vs) H) :
    FnG P w K mg base (k + 1) f fd ps sp := by
  obtain ⟨oc, od, kV, doc, pm, an, cdv, ct, osl, rfl, lk, hcd⟩ := F.ex
  refine ⟨len, ?_⟩
  intro A outer s H args us vs Q E hg hr e0 hb r hsp
  have hl := len _ _ _ _ hsp
  have stays : ∀ b o, base.get? b = some o → s.heap.get? b = some o := fun b o e => (e0.bs b o e).1
  have KX : K.In s.heap := e0.mod.kin.keeps stays
  have kinds : ∀ y ∈ ps.zip us, (defScope st).names.lookup y.1 = some .local ∨
      ((defScope st).names.lookup y.1 = some .cell ∧
        ((cellsFrom (s.heap.objs.size + 1) (defScope st).names []).lookup y.1).isSome = true) := by
    intro y hy
    rcases S.par y.1 (List.of_mem_zip (a := y.1) (b := y.2) hy).1 with q | q
    · exact Or.inl q
    · exact Or.inr ⟨q, PySem.W.cellsFrom_some _ _ _ (Or.inl q)⟩
  refine codeAny_call_function hr.depth (KX _ _ lk) rfl S.co S.gen rfl (PySem.W.codeRec_of KX hcd) (hb _ _ _ _ ?_)
  refine wpAny_newFunctionEnv_cells S.kind kinds ?_
  intro env he s1 x
  subst he
  refine ⟨(e0.mod.nolimit.keeps stays).keeps x.toInCall.keep, codeAny_func ?_⟩
  obtain ⟨t, ht, hq⟩ := body cdv A outer s H vs Q E hg (hr.deeper _) hsp
  have I := inv_start (CX := L2.CX P w) (E := E) S hr.hd e0 hl r x
  refine wpAny_mono (ht.run [] s1 (start N vs) H _ I hq) ?_ (fun _ _ z => z)
  intro fl s' hs
  have fin : ∀ {σ' : L2.St} {H' : Hp} {v : V} {u : Value},
      Inv (cxOf (L2.CX P w) P w K mg base N qual (defScope st) f cdv A outer s H E) [] σ' H' s' → RelV v u → Q v H' →
      CE outer P w H s Q u s' := fun {σ' H' v u} J rv q => ⟨v, H', J.os, J.bare, J.base, J.hok, rv, q⟩
  cases fl with
  | next => obtain ⟨_, _, J, q⟩ := hs; exact fin (v := V.non) (u := Value.none) J rfl q
  | ret u => obtain ⟨_, _, _, J, rv, q⟩ := hs; exact fin J rv q
  | brk => obtain ⟨_, _, _, q⟩ := hs; exact q.elim
  | cont => obtain ⟨_, _, _, q⟩ := hs; exact q.elim
end

/-! calls -/
section
variable {X : Cx} {W : WX} {k : Nat} {f C : Addr} {fd : FuncData} {ps ks : List Str} {sp : Sp} {x m : Str}
    {p pos apos : Pos} {e o : Expr} {es : List Expr} {kws : List Keyword} {ta : TE} {t tk' : TA}
theorem runG {pins : List (Addr × Obj)} {σ : L2.St} {H : Hp} {s : Shared} {Q : VK} {us us2 : List Value} {vs : List V} {kw : List (Str × Value)}
    (F : FnG X.prog X.w X.K X.mg X.base k f fd ps sp) (tk : Takes X W) (hG : X.A.guards = some []) (hr : Room k X.A)
    (hb : BindsTo s fd ⟨us, kw⟩ (ps.zip us2)) (I : Inv X pins σ H s) (r : Vals vs us2) (h : sp vs H Q (WE W σ)) :
    wpAny (model X.prog X.w) X.A (call (.ref f) us kw) (EP X pins σ Q) X.xe s := by
  refine wpAny_call (codeAny_mono (F.run X.A X.stack s H ⟨us, kw⟩ us2 vs Q (WE W σ) hG hr I.env0 hb r h) ?_)
  intro r s' hq
  cases r with
  | error er => exact passAt tk σ pins H s er s' I hq
  | ok fl =>
    cases fl with
    | ret u => exact I.after hq
    | next => exact hq.elim
    | brk => exact hq.elim
    | cont => exact hq.elim
theorem lenG {us : List Value} {vs : List V} {H : Hp} {Q : VK} {E : XK} (F : FnG X.prog X.w X.K X.mg X.base k f fd ps sp)
    (r : Vals vs us) (h : sp vs H Q E) : us.length = ps.length := by
  rw [← r.length]
  exact F.len _ _ _ _ h
/-- all parameters are given by position -/
def Pos1 (fd : FuncData) (ps : List Str) : Prop := ∀ us : List Value, us.length = ps.length → bindArgs fd ⟨us, []⟩ = pure (ps.zip us)
/-- n parameters are given by position, those behind them by their names -/
def Kw1 (fd : FuncData) (ps ks : List Str) (n : Nat) : Prop :=
  ∀ us ws : List Value, us.length = n → ws.length = ks.length → bindArgs fd ⟨us, ks.zip ws⟩ = pure (ps.zip (us ++ ws))
/-- f(e, ..), also where it may raise -/
def tCG (sp : Sp) (W : WX) (t : TA) : TE := fun σ H Q => t σ H fun vs H1 => sp vs H1 Q (WE W σ)
theorem pe_cG (F : FnG X.prog X.w X.K X.mg X.base k f fd ps sp) (b : Pos1 fd ps) (tk : Takes X W) (hG : X.A.guards = some []) (hr : Room k X.A)
    (hm : X.mg x = some (.ref f)) (hk : PySem.W.keepIn X.K (.ref f) = true) (ha : PA X (e :: es) t) (hg : Gl X x := by rfl)
    (hdb : (x == ("__debug__" : Str)) = false := by decide) (he : starEach (e :: es) X.env = (false, eval e X.env) :: starEach es X.env := by rfl)
    (hpl : (backTo pos (starEach es X.env)).any (·.1) = false := by rfl) : PE X (.Call (.Name x p) (e :: es) [] pos) (tCG sp W t) := by
  constructor
  intro pins s σ H Q I h
  refine wpAny_Call_Name_kw (ld_glob I hg hm ?_ hdb)
  refine PySem.W.callWith_K (h₀ := X.base) I.ok.mod.kin hk (thn (ha.run pos pins s σ H _ I h) ?_) he hpl
  intro us s1 ⟨vs, H1, I1, r, q⟩
  exact ⟨I1.kIn, runG F tk hG hr (.of_eq (b _ (lenG F r q))) I1 r q⟩
theorem pe_cG0 (F : FnG X.prog X.w X.K X.mg X.base k f fd ps sp) (b : Pos1 fd ps) (tk : Takes X W) (hG : X.A.guards = some []) (hr : Room k X.A)
    (hm : X.mg x = some (.ref f)) (hk : PySem.W.keepIn X.K (.ref f) = true) (hg : Gl X x := by rfl)
    (hdb : (x == ("__debug__" : Str)) = false := by decide) : PE X (.Call (.Name x p) [] [] pos) (tCG sp W tNil) := by
  constructor
  intro pins s σ H Q I h
  refine wpAny_Call_Name_kw (ld_glob I hg hm ?_ hdb)
  exact PySem.W.callWith_K0 I.kIn hk (runG F tk hG hr (.of_eq (b [] (lenG F .nil h))) I .nil h)
/-- f(k = e, ..), keywords in the parameters' order -/
theorem pe_cGk (F : FnG X.prog X.w X.K X.mg X.base k f fd ps sp) (b : Kw1 fd ps ks 0) (hlen : ps.length = ks.length) (tk : Takes X W) (hG : X.A.guards = some []) (hr : Room k X.A)
    (hm : X.mg x = some (.ref f)) (hk : PySem.W.keepIn X.K (.ref f) = true) (ha : PK X kws t) (hg : Gl X x := by rfl)
    (hall : (backToKw pos (keywordEach kws X.env)).all (·.1.isSome) = true := by rfl) (hks : (backToKw pos (keywordEach kws X.env)).filterMap (·.1) = ks := by rfl)
    (hdb : (x == ("__debug__" : Str)) = false := by decide)
    (hpl : ((backTo pos (starEach [] X.env)).any (·.1) || (backToKw pos (keywordEach kws X.env)).any (·.1.isNone)) = false := by rfl) :
    PE X (.Call (.Name x p) [] kws pos) (tCG sp W t) := by
  constructor
  intro pins s σ H Q I h
  refine wpAny_Call_Name_kw (ld_glob I hg hm ?_ hdb)
  refine PySem.W.callWith_KW0 (h₀ := X.base) I.ok.mod.kin hk hall ?_ hpl
  refine thn (ha.run pos pins s σ H _ I h) ?_
  intro ws s2 ⟨zs, H2, I2, rz, q2⟩
  refine ⟨I2.kIn, ?_⟩
  rw [hks]
  exact runG F tk hG hr (.of_eq (b [] ws rfl ((lenG F rz q2).trans hlen))) I2 rz q2
/-- o.m(e, ..) -/
def tMG (C : Addr) (m : Str) (sp : Sp) (W : WX) (ta : TE) (t : TA) : TE := fun σ H Q => ta σ H fun x H1 => ∃ a dx fs, x = .ref a ∧ H1 a = some (.ins C dx fs) ∧
  fs.lookup m = none ∧ t σ H1 fun vs H2 => sp (x :: vs) H2 Q (WE W σ)
theorem pe_mG {pl : Sem Bool} (he : PE X o ta) (c : Cls X.K C) (hm : Meth X.K C m f) (F : FnG X.prog X.w X.K X.mg X.base k f fd ps sp) (b : Pos1 fd ps) (tk : Takes X W)
    (hG : X.A.guards = some []) (hr : Room k X.A) (ha : PA X (e :: es) t)
    (hst : starEach (e :: es) X.env = (false, eval e X.env) :: starEach es X.env := by rfl) (hpl : (backTo pos (starEach es X.env)).any (·.1) = false := by rfl)
    (ht : eval (.Call (.Attribute o m apos) (e :: es) [] pos) X.env = (do
      let ov ← eval o X.env
      standAt apos.atName
      let (f, first) ← holding [ov] (getMethod ov m pl)
      callWith pos f first (backTo pos (starEach (e :: es) X.env)) (backToKw pos (keywordEach [] X.env))) := by rfl) :
    PE X (.Call (.Attribute o m apos) (e :: es) [] pos) (tMG C m sp W ta t) := by
  constructor
  intro pins s σ H Q I h
  refine PySem.W.methodCall_KW (pl := pl) (thn (he.run pins s σ H _ I h) ?_) ht
  intro u s1 ⟨x, H1, I1, rx, a, dx, fs, ex, ea, l, q⟩
  subst ex
  obtain rfl : u = Value.ref a := rx
  refine getmeth_ok I1 ea c hm l ?_
  refine PySem.W.callWith_K (first := [.ref a]) (h₀ := X.base) I.ok.mod.kin hm.kp (thn (ha.run pos pins s1 σ H1 _ I1 q) ?_) hst hpl
  intro us s2 ⟨vs, H2, I2, r, q2⟩
  have r2 : Vals (V.ref a :: vs) (Value.ref a :: us) := .cons rfl r
  exact ⟨I2.kIn, runG (us := .ref a :: us) F tk hG hr (.of_eq (b _ (lenG F r2 q2))) I2 r2 q2⟩
theorem pe_mG0 {pl : Sem Bool} (he : PE X o ta) (c : Cls X.K C) (hm : Meth X.K C m f) (F : FnG X.prog X.w X.K X.mg X.base k f fd ps sp) (b : Pos1 fd ps) (tk : Takes X W)
    (hG : X.A.guards = some []) (hr : Room k X.A)
    (ht : eval (.Call (.Attribute o m apos) [] [] pos) X.env = (do
      let ov ← eval o X.env
      standAt apos.atName
      let (f, first) ← holding [ov] (getMethod ov m pl)
      callWith pos f first (backTo pos (starEach [] X.env)) (backToKw pos (keywordEach [] X.env))) := by rfl) :
    PE X (.Call (.Attribute o m apos) [] [] pos) (tMG C m sp W ta tNil) := by
  constructor
  intro pins s σ H Q I h
  refine PySem.W.methodCall_KW (pl := pl) (thn (he.run pins s σ H _ I h) ?_) ht
  intro u s1 ⟨x, H1, I1, rx, a, dx, fs, ex, ea, l, q⟩
  subst ex
  obtain rfl : u = Value.ref a := rx
  refine getmeth_ok I1 ea c hm l ?_
  have r2 : Vals [V.ref a] [Value.ref a] := .cons rfl .nil
  exact PySem.W.callWith_K0 (first := [.ref a]) I1.kIn hm.kp (runG (us := [.ref a]) F tk hG hr (.of_eq (b _ (lenG F r2 q))) I1 r2 q)
/-- o.m(k = e, ..) -/
theorem pe_mGk {pl : Sem Bool} (he : PE X o ta) (c : Cls X.K C) (hm : Meth X.K C m f) (F : FnG X.prog X.w X.K X.mg X.base k f fd ps sp) (b : Kw1 fd ps ks 1) (hlen : ps.length = ks.length + 1) (tk : Takes X W)
    (hG : X.A.guards = some []) (hr : Room k X.A) (ha : PK X kws t)
    (hall : (backToKw pos (keywordEach kws X.env)).all (·.1.isSome) = true := by rfl) (hks : (backToKw pos (keywordEach kws X.env)).filterMap (·.1) = ks := by rfl)
    (hpl : ((backTo pos (starEach [] X.env)).any (·.1) || (backToKw pos (keywordEach kws X.env)).any (·.1.isNone)) = false := by rfl)
    (ht : eval (.Call (.Attribute o m apos) [] kws pos) X.env = (do
      let ov ← eval o X.env
      standAt apos.atName
      let (f, first) ← holding [ov] (getMethod ov m pl)
      callWith pos f first (backTo pos (starEach [] X.env)) (backToKw pos (keywordEach kws X.env))) := by rfl) :
    PE X (.Call (.Attribute o m apos) [] kws pos) (tMG C m sp W ta t) := by
  constructor
  intro pins s σ H Q I h
  refine PySem.W.methodCall_KW (pl := pl) (thn (he.run pins s σ H _ I h) ?_) ht
  intro u s1 ⟨x, H1, I1, rx, a, dx, fs, ex, ea, l, q⟩
  subst ex
  obtain rfl : u = Value.ref a := rx
  refine getmeth_ok I1 ea c hm l ?_
  refine PySem.W.callWith_KW0 (first := [.ref a]) (h₀ := X.base) I.ok.mod.kin hm.kp hall ?_ hpl
  refine thn (ha.run pos pins s1 σ H1 _ I1 q) ?_
  intro ws s2 ⟨zs, H2, I2, rz, q2⟩
  refine ⟨I2.kIn, ?_⟩
  rw [hks]
  have r2 : Vals (V.ref a :: zs) (Value.ref a :: ws) := .cons rfl rz
  have hw : ws.length = ks.length := by
    have z := lenG F r2 q2
    rw [List.length_cons, hlen] at z
    omega
  exact runG (us := [.ref a]) F tk hG hr (.of_eq (b [.ref a] ws rfl hw)) I2 r2 q2
end
end Nv

namespace Nv
open PySem PySem.Spec PyProof.Rows L2

/-- the law's call, from an abstract heap that tracks the script alone or nothing -/
theorem law_from {P : Program} {w : World} {K : PySem.W.Frag} {mg mb : Str → Option Value} {k : Nat} {fa a : Addr} {fd : FuncData} {x : Str} {sp : Sp}
    {s₁ : Shared} {vs : List Value} {H : Hp}
    (KX : K.In s₁.heap) (hns : s₁.heap.Ns mainGlobals mg) (hb : s₁.heap.Ns builtinsNs mb) (hbb : ∀ x : Str, x ≠ "__name__" → mb x = bootBuiltins x)
    (hlim : s₁.heap.NoLimit) (hg : s₁.gens = #[]) (ha : s₁.heap.get? a = some { cls := .type "list", data := .seq vs.toArray }) (hr : Room k callerA)
    (F : ∀ base : Heap, K.In base → base.Ns mainGlobals mg → FnG P w K mg base k fa fd [x] sp) (hbind : ∀ (s : Shared) (u : Value), BindsTo s fd ⟨[u], []⟩ [(x, u)])
    (hok : HOk P w H s₁.heap) (only : ∀ b, H b = none ∨ (b = a ∧ K.lookup a = none ∧ ∃ o xs, H b = some (.frz o (.lst xs))))
    (hsp : sp [.ref a] H (fun v _ => v = .bl true) fun _ _ _ => False) :
    codeAny (model P w) callerA (.call (.ref fa) ⟨[.ref a], []⟩)
      (fun r s' => r = .ok (.ret (.bool true)) ∧ OldK s₁.heap s'.heap ∧ s'.os = s₁.os ∧ AllBare s'.gens) s₁ := by
  have notA : ∀ {b : Addr} {o : Obj} {es : Array DictEntry} {ep : Nat}, s₁.heap.get? b = some o → o.data = .dict es ep → H b = none := by
    intro b o es ep e d
    rcases only b with z | ⟨z, _, _⟩
    · exact z
    · subst z
      rw [ha] at e
      cases e
      cases (show Data.seq vs.toArray _ = Data.dict es ep from d)
  have nsKeep : ∀ {b : Addr} {m : Str → Option Value}, s₁.heap.Ns b m → (hidT s₁.heap H).Ns b m := by
    intro b m ⟨o, es, ep, e, d, r⟩
    exact ⟨o, es, ep, hidT_get e (notA e d), d, r⟩
  have kin : K.In (hidT s₁.heap H) := by
    intro b o e
    refine hidT_get (KX b o e) ?_
    rcases only b with z | ⟨z, z2, _⟩
    · exact z
    · rw [z, z2] at e
      cases e
  have lim : (hidT s₁.heap H).NoLimit := by
    obtain ⟨mc, h1, h2⟩ := hlim
    exact ⟨mc, nsKeep h1, h2⟩
  have md : Mod K mg (hidT s₁.heap H) := ⟨kin, nsKeep hns, ⟨mb, nsKeep hb, hbb⟩, lim⟩
  have noF : ∀ b : Addr, b ∉ frs [] := fun b z => by
    cases (show b ∈ ([] : List Addr) from z)
  have e0 : Env0 P w K mg (hidT s₁.heap H) callerA [] s₁ H :=
    ⟨rfl, md, fun b o e => of_hidT e, Nat.le_of_eq (hidT_size _ _), trivial, fun b z => absurd z (noF b), hok, .of_eq hg⟩
  refine codeAny_mono ((F _ kin (nsKeep hns)).run callerA [] s₁ H ⟨[.ref a], []⟩ [.ref a] [.ref a] _ _ rfl hr e0 (hbind s₁ (.ref a)) (.cons rfl .nil) hsp) ?_
  intro r s' h
  cases r with
  | error e =>
    obtain ⟨_, _, _, _, _, _, _, _, _, _, _, _, z⟩ := h
    exact z.elim
  | ok fl =>
    cases fl with
    | next => exact h.elim
    | brk => exact h.elim
    | cont => exact h.elim
    | ret u =>
      obtain ⟨v, H', os, bare, un, hok', rv, q⟩ := h
      have q1 : v = .bl true := q
      subst q1
      obtain rfl : u = Value.bool true := rv
      refine ⟨rfl, OldK.of_keep ?_, os, bare⟩
      intro b o e
      rcases only b with z | ⟨_, _, ob, xs, z⟩
      · exact un.keep b o e z (noF b) (fun z => by cases z)
      · have z2 := un.frzs b ob _ z
        have e1 := (hok b _ z).1
        have e2 := (hok' b _ z2).1
        rw [e] at e1
        cases e1
        exact e2

/-- the end of a law's row: its promise as a FnG -/
theorem walkG {l : PySem.W.OpenLaw} {n k : Nat} {q : Program} {loose : List Str} {XP : (Str → Option Value) → Heap → Prop} {YP : World → Heap → Prop}
    {d : DefRec} {K : Params → PySem.W.Frag} {sp : PySem.W.Frag → Sp} {x : Str}
    (hn : l.most = some n) (hn2 : n ≤ sizeLine) (hdf : d.params.defaults = []) (hr : Room k callerA)
    (hY : ∀ (w : World) (h : Heap), YP w h → (K w.params).In h)
    (F : ∀ (w : World) (mg : Str → Option Value) (fa : Addr) (h : Heap), (K w.params).In h → h.Ns mainGlobals mg → mg d.name = some (.ref fa) →
      ∃ fd : FuncData, (∀ (s : Shared) (u : Value), BindsTo s fd ⟨[u], []⟩ [(x, u)]) ∧
        ∀ base : Heap, (K w.params).In base → base.Ns mainGlobals mg → FnG l.prog w (K w.params) mg base k fa fd [x] (sp (K w.params)))
    (hsp : ∀ (K : PySem.W.Frag) (H : Hp) (a : Addr) (ns : List Int), ns.length ≤ n → SqL K H a (ns.map V.int) → sp K [.ref a] H (fun v _ => v = .bl true) fun _ _ _ => False) :
    PySem.W.WalkO q loose XP YP l.row.toRowW d [] (fun f vs => PySem.call f vs) := by
  refine Att.attach_call hn hdf ?_
  intro w s₀ s₁ mg mb fa o pm cd doc a vs ns G Y ho hd hcd hmg hobj hints hlen hg
  have KX := hY w _ Y
  obtain ⟨fd, hb, hF⟩ := F w mg fa _ KX G.T.g hmg
  have rv := vals_ints hints
  have lv := hints.length
  have hlz : ns.length ≤ sizeLine := Nat.le_trans hlen hn2
  cases hk : (K w.params).lookup a with
  | some ob =>
    have e := KX a ob hk
    rw [hobj] at e
    cases e
    refine law_from (H := fun _ => none) KX G.T.g G.T.b G.T.builtins G.T.nolimit hg hobj hr hF hb (fun b u z => by cases z) (fun _ => .inl rfl) (hsp _ _ a ns hlen ?_)
    exact .inr ⟨_, vs.toArray, _, hk, rfl, rfl, rfl, by rw [List.size_toArray, lv]; exact hlz, by simpa using rv⟩
  | none =>
    have at1 : ∀ (o : HO) , (fun b => if b = a then some o else none : Hp) a = some o := fun o => if_pos rfl
    refine law_from (H := fun b => if b = a then some (.frz { cls := .type "list", data := .seq vs.toArray } (.lst (ns.map V.int))) else none)
      KX G.T.g G.T.b G.T.builtins G.T.nolimit hg hobj hr hF hb ?_ ?_ (hsp _ _ a ns hlen (.inl (.inr ⟨_, at1 _⟩)))
    · intro b u z
      by_cases h : b = a
      · subst h
        rw [at1] at z
        cases z
        exact ⟨hobj, by rw [List.length_map]; exact hlz, vs, _, rv, hobj⟩
      · have z2 := (if_neg h).symm.trans z
        cases z2
    · intro b
      by_cases h : b = a
      · exact .inr ⟨h, hk, _, _, if_pos h⟩
      · exact .inl (if_neg h)
end Nv

namespace Nv
open PySem PySem.Spec PyProof.Rows L2

/-! data that stands in the heap, dicts too -/
def keyD : Key → PyData
  | .inl i => .int i
  | .inr x => .str x
mutual
inductive DV (H : Hp) : V → PyData → Prop
  | non : DV H .non .none
  | bl (b : Bool) : DV H (.bl b) (.bool b)
  | int (i : Int) : DV H (.int i) (.int i)
  | str (x : Str) : DV H (.str x) (.str x)
  | lst {a : Addr} {xs : List V} {ds : List PyData} : H a = some (.lst xs) → a ≠ sysModules → DVs H xs ds → DV H (.ref a) (.list ds)
  | tup {a : Addr} {xs : List V} {ds : List PyData} : H a = some (.tup xs) → DVs H xs ds → DV H (.ref a) (.tuple ds)
  | dct {a : Addr} {kvs : List (Key × V)} {ds : List (PyData × PyData)} : H a = some (.dK kvs) → DVk H kvs ds → DV H (.ref a) (.dict ds)
inductive DVs (H : Hp) : List V → List PyData → Prop
  | nil : DVs H [] []
  | cons {v : V} {vs : List V} {d : PyData} {ds : List PyData} : DV H v d → DVs H vs ds → DVs H (v :: vs) (d :: ds)
inductive DVk (H : Hp) : List (Key × V) → List (PyData × PyData) → Prop
  | nil : DVk H [] []
  | cons {k : Key} {v : V} {vs : List (Key × V)} {d : PyData} {ds : List (PyData × PyData)} : DV H v d → DVk H vs ds → DVk H ((k, v) :: vs) ((keyD k, d) :: ds)
end
mutual
theorem DV.mono {H H' : Hp} (e : ∀ a o, H a = some o → H' a = some o) : ∀ {v : V} {d : PyData}, DV H v d → DV H' v d
  | _, _, .non => .non
  | _, _, .bl b => .bl b
  | _, _, .int i => .int i
  | _, _, .str x => .str x
  | _, _, .lst h n r => .lst (e _ _ h) n (DVs.mono e r)
  | _, _, .tup h r => .tup (e _ _ h) (DVs.mono e r)
  | _, _, .dct h r => .dct (e _ _ h) (DVk.mono e r)
theorem DVs.mono {H H' : Hp} (e : ∀ a o, H a = some o → H' a = some o) : ∀ {vs : List V} {ds : List PyData}, DVs H vs ds → DVs H' vs ds
  | _, _, .nil => .nil
  | _, _, .cons h r => .cons (DV.mono e h) (DVs.mono e r)
theorem DVk.mono {H H' : Hp} (e : ∀ a o, H a = some o → H' a = some o) : ∀ {vs : List (Key × V)} {ds : List (PyData × PyData)}, DVk H vs ds → DVk H' vs ds
  | _, _, .nil => .nil
  | _, _, .cons h r => .cons (DV.mono e h) (DVk.mono e r)
end

section
variable {X : Cx} {pins : List (Addr × Obj)} {σ : L2.St} {H : Hp} {s : Shared}
theorem readsKey {w : World} {h : Heap} {k : Key} {v : Value} (e : keyIs k v = true) : Reads h v (keyD k) [] := by
  rcases keyIs_shape e with ⟨i, t, rfl, rfl⟩ | ⟨x, t, rfl, rfl⟩
  · exact .int i t
  · exact .str x t
mutual
theorem DV.reads (I : Inv X pins σ H s) : ∀ {v : V} {d : PyData} {u : Value}, DV H v d → RelV v u → ∃ as, Reads s.heap u d as ∧ sysModules ∉ as
  | _, _, u, .non, r => by
    cases (show u = Value.none from r)
    exact ⟨[], .none, by simp⟩
  | _, _, u, .bl b, r => by
    cases (show u = Value.bool b from r)
    exact ⟨[], .bool b, by simp⟩
  | _, _, u, .int i, r => by
    obtain ⟨t, rfl⟩ := (show ∃ t, u = Value.int i t from r)
    exact ⟨[], .int i t, by simp⟩
  | _, _, u, .str x, r => by
    obtain ⟨t, rfl⟩ := (show ∃ t, u = Value.str x t from r)
    exact ⟨[], .str x t, by simp⟩
  | _, _, u, @DV.lst _ a xs ds h n q, r => by
    cases (show u = Value.ref a from r)
    obtain ⟨_, its, m, rv, e⟩ := (show ObjOk X.prog X.w H s.heap a (.lst xs) from I.hok a _ h)
    obtain ⟨as, ra, na⟩ := DVs.reads I q rv
    refine ⟨a :: as, .list e rfl rfl ra, fun z => ?_⟩
    rcases List.mem_cons.mp z with z | z
    · exact n z.symm
    · exact na z
  | _, _, u, @DV.tup _ a xs ds h q, r => by
    cases (show u = Value.ref a from r)
    obtain ⟨_, its, rv, o, e1, e2, m, e3⟩ := (show ObjOk X.prog X.w H s.heap a (.tup xs) from I.hok a _ h)
    obtain ⟨as, ra, na⟩ := DVs.reads I q rv
    exact ⟨as, .tuple e1 e2 e3 ra, na⟩
  | _, _, u, @DV.dct _ a kvs ds h q, r => by
    cases (show u = Value.ref a from r)
    obtain ⟨_, ns, vs, rel, o, es, ep, e1, e2, e3, _, pr, _⟩ := (show ObjOk X.prog X.w H s.heap a (.dK kvs) from I.hok a _ h)
    obtain ⟨as, bs, k1, k2, n1, n2⟩ := DVk.reads I q rel pr
    refine ⟨a :: as ++ bs, .dict e1 e2.1 e3 k1 k2, fun z => ?_⟩
    have na : a ≠ sysModules := fun z => by
      rw [z] at ns
      simp at ns
    rcases List.mem_cons.mp z with z | z
    · exact na z.symm
    · rcases List.mem_append.mp z with z | z
      · exact n1 z
      · exact n2 z
theorem DVs.reads (I : Inv X pins σ H s) : ∀ {vs : List V} {ds : List PyData} {us : List Value}, DVs H vs ds → Vals vs us → ∃ as, ReadsAll s.heap us ds as ∧ sysModules ∉ as
  | _, _, _, .nil, .nil => ⟨[], .nil, by simp⟩
  | _, _, _, .cons h q, .cons r t => by
    obtain ⟨as, r1, n1⟩ := DV.reads I h r
    obtain ⟨bs, r2, n2⟩ := DVs.reads I q t
    exact ⟨as ++ bs, .cons r1 r2, fun z => (List.mem_append.mp z).elim n1 n2⟩
theorem DVk.reads (I : Inv X pins σ H s) : ∀ {kvs : List (Key × V)} {ds : List (PyData × PyData)} {vs : List (Key × Value)} {es : List DictEntry}, DVk H kvs ds → KV kvs vs → Pairs (mixKind X.prog X.w) es vs →
    ∃ as bs, ReadsAll s.heap (es.map (fun x => x.key)) (ds.map (fun x => x.1)) as ∧ ReadsAll s.heap (es.map (fun x => x.val)) (ds.map (fun x => x.2)) bs ∧ sysModules ∉ as ∧ sysModules ∉ bs
  | _, _, _, _, .nil, .nil, p => by
    cases p
    exact ⟨[], [], .nil, .nil, by simp, by simp⟩
  | _, _, _, _, .cons (k := k) h q, .cons r t, p => by
    cases p with
    | cons p1 p2 p3 =>
      obtain ⟨rk, rv⟩ := r
      rw [← rk, mixKind_is] at p1
      rw [← p2] at rv
      obtain ⟨as, r1, n1⟩ := DV.reads I h rv
      obtain ⟨bs, cs, r2, r3, n2, n3⟩ := DVk.reads I q t p3
      have rd := readsKey (w := X.w) (h := s.heap) p1
      exact ⟨[] ++ bs, as ++ cs, .cons rd r2, .cons r1 r3, by simpa using n2, fun z => (List.mem_append.mp z).elim n1 n3⟩
end

/-- repr(x), x a list, a tuple or a dict of data -/
def rRepr : List V → Hp → VK → Prop := fun xs H Q => ∃ (a : Addr) (d : PyData), xs = [.ref a] ∧ DV H (.ref a) d ∧ d.showable = true ∧ d.depth ≤ 60 ∧ d.shown.length ≤ sizeLine ∧ Q (.str d.shown) H
theorem call_repr (hG : X.A.guards = some []) (hu : X.A.units + 64 < cLine) : CallR X (.builtin "repr") rRepr := by
  intro pins s σ H xs us Q I r h
  obtain ⟨a, d, rfl, hd, hs, hp, hz, q⟩ := h
  cases r with
  | cons r1 r2 =>
    cases r2
    cases r1
    obtain ⟨as, rd, na⟩ := DV.reads I hd rfl
    exact repr_of_reads' rd hs (fun _ => na) hG (by omega) (fun _ _ e => e) (fun h' u tk k => ⟨.str d.shown, H, I.kept k, ⟨u, rfl⟩, q⟩) hz
end
end Nv

namespace PySem.W
open PySem PySem.Spec PySem.Calls PyProof.Rows
section
variable {prog : Program} {w : World} {A : Around} {E : Value → Shared → Prop} {s : Shared} {K : Frag} {x D : Addr} {ox : Obj} {od : Option Obj}
/-- what isinstance asks of the class D of an own exception -/
structure NvCls (K : Frag) (D : Addr) : Prop where
  ga : findIn K (.ref D) "__getattribute__" = some (some (.builtin "BaseException.__getattribute__"))
  gt : findIn K (.ref D) "__getattr__" = some none
  sub : subIn K (.ref D) (.type "BaseException") = some true
  dct : hasDictIn K D = true
  cl : findIn K (.ref D) "__class__" = some (some (.builtin "object.__class__"))
  sp : specialIn K (.builtin "object.__class__") "__get__" = some (some (.builtin "getset_descriptor.__get__"))
  tk : takesIn K (.builtin "object.__class__") = some true
  mo : mroIn K D (.type "object") = some true
theorem nv_find (c : NvCls K D) : findObj K D od "__class__" = some (.bind (.builtin "getset_descriptor.__get__") (.builtin "object.__class__")) := by
  have hs : (clsIn K D).isSome = true := by
    obtain ⟨cd, h, _⟩ := any_some c.dct
    rw [h]
    rfl
  cases od with
  | none => exact findObj_dataN hs c.cl c.sp c.tk
  | some o => exact findObj_data hs c.cl c.sp c.tk
theorem nv_class {Q : Option Value → Shared → Prop} (c : NvCls K D) (X : K.In s.heap) (I : InstAt s.heap x ox D od)
    (h : Q (some (.ref D)) { s with toks := s.toks + 1 }) : wpAny (model prog w) A (getAttr? (.ref x) "__class__") Q E s := by
  have e1 : (false && onTheHeap (Value.builtin "BaseException.__getattribute__")) = false := rfl
  have e2 : (Value.builtin "BaseException.__getattribute__" == Value.builtin "object.__getattribute__") = false := by decide +kernel
  have e3 : (onTheHeap (Value.ref D) && Value.builtin "BaseException.__getattribute__" == Value.builtin "object.__getattribute__") = false := by
    rw [e2]
    rfl
  obtain ⟨hp, g, d, t, os⟩ := s
  have T0 := I.type (M := model prog w)
  have T1 := looks_findIn (M := model prog w) X c.ga
  have T2 := looks_findIn (M := model prog w) X c.gt
  have T3 := looks_find (M := model prog w) X I (nv_find (od := od) c)
  have T4 : Looks (model prog w) hp (isInstance (.ref x) (.type "BaseException")) true := T0.andThen (looks_subIn X c.sub)
  unfold getAttr? getAttrBy? getAttrBy
  refine wpAny_bind (wpAny_mkText (wpAny_bind (wpAny_attempt ?_)))
  refine wpAny_holding (wpAny_bind (T0.at (wpAny_bind (T1.at ?_))))
  show wpAny _ _ (if (onTheHeap (Value.ref D) && Value.builtin "BaseException.__getattribute__" == Value.builtin "object.__getattribute__") = true then _ else _) _ _ _
  rw [e3, if_neg Bool.false_ne_true]
  unfold getAttrByItsOwn hookBefore
  refine wpAny_bind ?_
  rw [if_pos (show onTheHeap (Value.ref D) = true from rfl)]
  refine T2.at (wpAny_bind (wpAny_attempt (wpAny_holding ?_)))
  unfold callGetattribute
  rw [e1, if_neg Bool.false_ne_true]
  unfold boundAndCalled
  rw [PySem.F.excAttr_ValueError.ga.bind (.ref x)]
  refine wpAny_bind (wpAny_pure ?_)
  show wpAny _ _ (call (.builtin "BaseException.__getattribute__") [.ref x, .str "__class__" t]) _ _ _
  refine wpAny_call (codeAny_call_builtin PySem.F.excAttr_ValueError.ga.plain PySem.F.entry_bexc_ga ?_)
  refine @check_slot (model prog w) _ _ ⟨hp, g, d, t + 1, os⟩ "BaseException.__getattribute__" "BaseException" "__getattribute__" (.ref x)
    [.str "__class__" t] [] _ (by decide +kernel) (by decide +kernel) T4 (PySem.F.args_bexc_ga (.ref x) (.str "__class__" t)) ?_
  unfold Builtin.«object.__getattribute__»
  refine wpAny_bind (wpAny_of_eq (a := ((Value.ref x : Value), [Value.str "__class__" t])) (by first | rfl | (simp only [slotArgs]; rfl)) ?_)
  refine wpAny_bind (wpAny_pure (wpAny_bind (T0.at (wpAny_bind (T3.at ?_)))))
  show wpAny _ _ (holding [Value.builtin "object.__class__"] (call (.builtin "getset_descriptor.__get__") [.builtin "object.__class__", .ref x, .ref D]) >>= ret) _ _ _
  refine wpAny_bind (wpAny_holding (wpAny_call (class_get (s := ⟨hp, g, d, t + 1, os⟩) (ox := ox) (od := od) X I c.mo ?_)))
  refine wpAny_pure ?_
  show wpAny _ _ (handedOut (.ref D)) _ _ _
  rw [handedOut_of (v := .ref D) rfl]
  first
    | exact wpAny_pure (wpAny_pure h)
    | exact wpAny_pure h
    | exact wpAny_pure (wpAny_bind (wpAny_pure (wpAny_pure h)))
theorem nv_kit (c : NvCls K D) : KitX K (.ref x) (.ref D) (fun h => ∃ od, InstAt h x ox D od) := by
  obtain ⟨cdD, hcD, _⟩ := any_some c.dct
  refine ⟨fun _ _ _ ⟨_, I⟩ => I.type, fun _ _ X _ => ?_, fun h tp dd its n sl X htp => ?_, fun X ⟨_, I⟩ k => nv_class c X I k⟩
  · unfold clsIn at hcD
    split at hcD
    · rename_i ho
      intro A' Q' E' s' k q
      unfold isType loadHead
      exact wpAny_bind (wpAny_loadPart (k _ _ (X _ _ ho)) (wpAny_pure q))
    · cases hcD
  · cases q : (Value.ref D == Value.ref tp) with
    | false => rfl
    | true =>
      have e : D = tp := Value.ref.inj (beq_iff_eq.mp q)
      subst e
      unfold clsIn at hcD
      split at hcD
      · rename_i ho
        have z := (X _ _ ho).symm.trans htp
        cases z
      · cases hcD
end
end PySem.W
namespace Nv
open PySem PySem.Spec PyProof.Rows L2

/-- isinstance(e, c), e the exception that the suite holds, with a dict of its own or without -/
def rIsX (K : PySem.W.Frag) (cls : Value) (a : Addr) : List V → Hp → VK → Prop := fun xs H Q => ∃ (D : Addr) (c : V) (cv : Value) (b : Bool), xs = [.ref a, c] ∧ cls = .ref D ∧
  PySem.W.NvCls K D ∧ (∀ u, RelV c u → u = cv) ∧ PySem.W.kitOne K (.ref D) cv = some b ∧ (∀ dd, H dd = H dd) ∧ Q (.bl b) H
/-- the dict of the held exception, if it has one, stands in the heap -/
def XDict (H : Hp) (d : Option Addr) : Prop := ∀ dd, d = some dd → ∃ fs, H dd = some (.xd fs)
def rIsXd (K : PySem.W.Frag) (cls : Value) (d : Option Addr) (a : Addr) : List V → Hp → VK → Prop := fun xs H Q => ∃ (D : Addr) (c : V) (cv : Value) (b : Bool), xs = [.ref a, c] ∧ cls = .ref D ∧
  PySem.W.NvCls K D ∧ (∀ u, RelV c u → u = cv) ∧ PySem.W.kitOne K (.ref D) cv = some b ∧ XDict H d ∧ Q (.bl b) H
theorem call_isX {X : Cx} {a : Addr} {oe : Obj} {cls : Value} {d : Option Addr} {pn : List (Addr × Obj)} (hz : Zc cls d oe) (hf : ∃ vs, oe.data = .fields vs) :
    CallR (X.suite a ((a, oe) :: pn)) (.builtin "isinstance") (rIsXd X.K cls d a) := by
  intro pins s σ H xs us Q I r h
  obtain ⟨D, c, cv, b, rfl, rfl, C, hcv, e, hx, q⟩ := h
  cases r with
  | cons rx rr =>
    cases rr with
    | cons rt rr =>
      cases rr
      cases rx
      have ec := hcv _ rt
      subst ec
      obtain ⟨hget, _⟩ := I.pin (a, oe) (List.mem_append.mpr (.inl List.mem_cons_self))
      obtain ⟨vs, hv⟩ := hf
      have J : ∃ od, PySem.W.InstAt s.heap a oe D od := by
        have no : PySem.W.notCls oe = true := by
          unfold PySem.W.notCls
          rw [hv] <;> rfl
        cases d with
        | none => exact ⟨none, hget, hz.1, no, by rw [hz.2]; trivial⟩
        | some dd =>
          obtain ⟨fs, hd⟩ := hx dd rfl
          obtain ⟨mA, ⟨od, es, ep, ho, _⟩, _⟩ := (show ObjOk X.prog X.w H s.heap dd (.xd fs) from I.hok dd _ hd)
          exact ⟨some od, hget, hz.1, no, by rw [hz.2]; exact ho⟩
      exact PySem.W.kia_one (PySem.W.nv_kit C) I.kIn J e (fun z => nomatch z) fun tk => ⟨.bl b, H, I.kept (t' := tk) fun _ _ z => z, rfl, q⟩
end Nv

namespace Nv
open PySem PySem.Spec PyProof.Rows L2

/-- an except clause's class, the slot of its name, the reading of its suite -/
abbrev Cls3 := Value × Nat × (Addr → Value → Option Addr → TS)
/-- the ends behind a suite: its name is gone -/
def gone (i : Nat) (D : Ends) : Ends :=
  { nx := fun σ' H' => D.nx (σ'.set i none) H', rt := D.rt, bk := fun σ' H' => D.bk (σ'.set i none) H', ct := fun σ' H' => D.ct (σ'.set i none) H' }
def wAsN (K : PySem.W.Frag) (Wout : WX) (D : Ends) : List Cls3 → WX
  | [] => Wout
  | (c, i, ts) :: r => fun cls d σ H => ∃ b, PySem.W.exmOne K cls c = some b ∧
      (b = true → ∀ a, H a = none → ts a cls d (gone i D) (σ.set i (some (.ref a))) H) ∧ (b = false → wAsN K Wout D r cls d σ H)
inductive HdsAs (X : Cx) : List ExceptHandler → List Cls3 → Prop
  | nil : HdsAs X [] []
  | cons {x n : Str} {c : Value} {i : Nat} {ts : Addr → Value → Option Addr → TS} {b₀ : Stmt} {suite : List Stmt} {np pos' : Pos} {hds : List ExceptHandler} {l : List Cls3}
      (hi : X.N[i]? = some n) (hln : X.env.kindOf n = some .local) (hc : Names X x c)
      (hsu : ∀ (a : Addr) (oe : Obj) (cls : Value) (d : Option Addr) (pn : List (Addr × Obj)), Zc cls d oe → (∃ vs, oe.data = .fields vs) → PSs (X.suite a ((a, oe) :: pn)) (b₀ :: suite) (ts a cls d))
      (r : HdsAs X hds l) : HdsAs X (.ExceptHandler (some (.Name x np)) (some n) (b₀ :: suite) pos' :: hds) ((c, i, ts) :: l)

section
variable {X : Cx} {pins : List (Addr × Obj)} {σ : L2.St} {H : Hp}
theorem field_not_frame {B h : Heap} {l : List Env} {a : Addr} {o : Obj} {vs : Array Value} (ff : h.FunFrames B l) (e : h.get? a = some o) (dd : o.data = .fields vs) : a ∉ frs l := fun hm => by
  obtain ⟨_, o', e', hnf⟩ := ff.mem hm
  rw [e] at e'
  cases e'
  exact hnf _ dd
/-- the clauses, one behind another, at an exception that is on the ground -/
theorem clauses (hs : X.stack = X.env :: X.outer) (hf : X.env.frame = some X.env.locals) (hN : X.N.Nodup) {Wout : WX} (tk : Takes X Wout) {D : Ends} {sI s' : Shared} {a : Addr} {B h3 : Heap} {cls : Value} {d : Option Addr}
    (ok : X.Ok) (J : Inv X pins σ H sI) (nb : ∀ b o, sI.heap.get? b = some o → b ∉ frs X.stack → B.get? b = some o) (na : H a = none) (os : s'.os = sI.os) (ag : AllBare s'.gens)
    (up : sI.heap.UpToSlots s'.heap) (up3 : s'.heap.UpToSlots h3) (fl3 : HandSPX.FlyingZ B (X.env :: X.outer) a (Zc cls d) h3) :
    ∀ {hds : List ExceptHandler} {l : List Cls3}, HdsAs X hds l → wAsN X.K Wout D l cls d σ H → wpAny (model X.prog X.w) X.A (handleBy (.ref a) X.env hds) (SP X pins D) X.xe { s' with heap := h3 } := by
  have J3 : Inv X pins σ H { s' with heap := h3 } := J.landed nb fl3.1 (up.trans up3) os ag
  obtain ⟨oe3, vs3, he3, hz3, hd3⟩ := fl3.there
  have nfr := field_not_frame fl3.2.2.1 he3 hd3
  have nL : a ≠ X.env.locals := fun z => nfr (List.mem_filterMap.mpr ⟨X.env, List.mem_cons_self, by rw [hf, z]⟩)
  have nF : a ∉ X.fs := fun hm => by
    obtain ⟨e, he, q⟩ := List.mem_filterMap.mp hm
    exact nfr (List.mem_filterMap.mpr ⟨e, List.mem_cons_of_mem _ he, q⟩)
  have S3 := J3.suite he3 hd3 na nL nF
  intro hds l hk
  induction hk with
  | nil =>
    intro w
    refine wpAny_handleBy_nil ?_
    obtain ⟨_, _, _, oe, vs, T, oT, _, he, hz, hd, h1, _⟩ := id fl3
    unfold PySem.passOn
    refine wpAny_bind (wpAny_field he hd h1 ?_)
    rw [if_neg (show ¬ ((Value.ref T == Value.none) = true) from by simp)]
    have fin : wpAny (model X.prog X.w) X.A (setFlight (.ref a) X.env.frame) (fun _ s4 => wpAny (model X.prog X.w) X.A (throw (.ref a) : Sem Flow) (SP X pins D) X.xe s4) X.xe { s' with heap := h3 } := by
      rw [hf]
      refine HandSPX.setFlight_upZ fl3 ?_
      intro h4 hh4 up4
      refine wpAny_throw (tk _ _ ?_)
      exact ⟨a, B, sI, pins, σ, H, cls, d, rfl, J, nb, (up.trans up3).trans up4, .inr (.inr (by rw [hs]; exact hh4)), na, os, ag, w⟩
    first
      | exact wpAny_bind (wpAny_pure (wpAny_bind fin))
      | exact wpAny_bind fin
  | @cons x n c i ts b₀ suite np pos' hds2 l2 hi hln hc hsu r ih =>
    intro w
    obtain ⟨b, hb1, hyes, hno⟩ := w
    refine wpAny_handleBy_cons (codeAny_handlers_test ?_) (by intro q; cases q)
    have LT : PySem.W.Looks (model X.prog X.w) h3 (typeOf (.ref a)) cls := fun A Q E s k q => wpAny_typeOf_ref (k _ _ he3) (by rw [hz3.1]; exact q)
    have LM := PySem.W.exm_one (M := model X.prog X.w) (J3.kIn) LT hb1
    have test : ∀ {Q : Value → Shared → Prop} {E : Value → Shared → Prop}, Q c { s' with heap := h3 } →
        wpAny (model X.prog X.w) (X.A.mark (some (.ref a))) (eval (.Name x np) X.env) Q E { s' with heap := h3 } := by
      intro Q E q
      obtain ⟨hg, hdbg, hm | ⟨hm, hv, hnn⟩⟩ := hc
      · exact ld_glob (X := X.suite a ((a, oe3) :: (X.pn ++ pins))) S3 hg hm q hdbg
      · exact ld_blt (X := X.suite a ((a, oe3) :: (X.pn ++ pins))) S3 hg hm hv q hnn hdbg
    refine test (LM.here ?_)
    cases b with
    | false =>
      show wpAny _ X.A (handleBy (.ref a) X.env hds2) _ _ _
      exact ih (hno rfl)
    | true =>
      refine codeAny_handlers_suite_as ?_
      refine HandSPX.lands_againZ fl3 ?_
      intro h4 fl4 up4
      have J4 : Inv X pins σ H { s' with heap := h4 } := J.landed nb fl4.1 ((up.trans up3).trans up4) os ag
      obtain ⟨oe4, vs4, he4, hz4, hd4⟩ := fl4.there
      have S4 := J4.suite he4 hd4 na nL nF
      refine store_ok (X := X.suite a ((a, oe4) :: (X.pn ++ pins))) (v := .ref a) S4 hN hi (.inl hln) rfl ?_ (.inr hln)
      intro s5 S5
      refine wpAny_mono ((hsu a oe4 cls d (X.pn ++ pins) hz4 ⟨_, hd4⟩).run [] s5 _ H _ S5 (hyes rfl a na)) ?_ (fun _ _ z => z.elim)
      intro f s6 hsp
      have end_ : ∀ {σ6 : L2.St} {H6 : Hp} {Q : Shared → Prop}, Inv (X.suite a ((a, oe4) :: (X.pn ++ pins))) [] σ6 H6 s6 → (∀ s7, Inv X pins (σ6.set i none) H6 s7 → Q s7) →
          wpAny (model X.prog X.w) X.A (do bindName X.env n .none; unbindBehindTheSuite X.env n pos') (fun _ s7 => Q s7) X.xe s6 :=
        fun {σ6 H6 Q} S6 hq => gone_ok (S6.unsuite ok) hN hi hln hq
      cases f with
      | ret u =>
        obtain ⟨v6, σ6, H6, S6, r6, q6⟩ := hsp
        exact end_ S6 fun s7 J7 => ⟨_, _, _, J7, r6, q6⟩
      | next =>
        obtain ⟨σ6, H6, S6, q6⟩ := hsp
        exact end_ S6 fun s7 J7 => ⟨_, _, J7, q6⟩
      | brk =>
        obtain ⟨σ6, H6, S6, q6⟩ := hsp
        exact end_ S6 fun s7 J7 => ⟨_, _, J7, q6⟩
      | cont =>
        obtain ⟨σ6, H6, S6, q6⟩ := hsp
        exact end_ S6 fun s7 J7 => ⟨_, _, J7, q6⟩

/-- try: body / except x1 as n1: .. / except x2 as n2: .. -/
theorem ps_try_asN {body : List Stmt} {h₀ : ExceptHandler} {hds : List ExceptHandler} {l : List Cls3} {pos : Pos} {tb : WX → TS} {Wout : WX}
    (hs : X.stack = X.env :: X.outer) (hf : X.env.frame = some X.env.locals) (hN : X.N.Nodup) (tk : Takes X Wout)
    (hb : ∀ (W : WX) (pn : List (Addr × Obj)) (xe : Value → Shared → Prop), Takes (X.tr pn xe) W → PassesOwn (model X.prog X.w) X.A X.env xe → PSs (X.tr pn xe) body (tb W))
    (hh : HdsAs X (h₀ :: hds) l) : PS X (.Try body (h₀ :: hds) [] [] pos) (fun D σ H => tb (wAsN X.K Wout D l) D σ H) := by
  constructor
  intro pins s σ H D I h
  have ok := I.ok
  have hfr : X.A.frames = some (X.env :: X.outer) := by rw [ok.frames, hs]
  refine wpAny_Try_except ?_
  have run := (hb (wAsN X.K Wout D l) (X.pn ++ pins) (fun e s₁ => wpAny (model X.prog X.w) X.A (noteFrame e X.env)
    (fun _ s₂ => wpAny (model X.prog X.w) X.A (setFlight e none) (fun _ s₃ => wpAny (model X.prog X.w) X.A (handleBy e X.env (h₀ :: hds)) (SP X pins D) X.xe s₃) X.xe s₂) X.xe s₁) ?_ PassesOwn.looking).run [] s σ H D (I.toTry _) h
  · refine wpAny_mono run ?_ (fun e s1 he => he)
    intro f s1 hsp
    cases f with
    | next =>
      obtain ⟨σ', H', J', q⟩ := hsp
      exact wpAny_execs_nil ⟨σ', H', J'.ofTry ok, q⟩
    | brk =>
      obtain ⟨σ', H', J', q⟩ := hsp
      exact ⟨σ', H', J'.ofTry ok, q⟩
    | cont =>
      obtain ⟨σ', H', J', q⟩ := hsp
      exact ⟨σ', H', J'.ofTry ok, q⟩
    | ret u =>
      obtain ⟨v, σ', H', J', r, q⟩ := hsp
      exact ⟨v, σ', H', J'.ofTry ok, r, q⟩
  · intro u s' xx
    obtain ⟨a, B, sI, pins', σ', H', cls, d, rfl, J', nb, up, sky, na, os, ag, w⟩ := xx
    have J : Inv X pins σ' H' sI := J'.ofTry ok
    have sky' : Sky B (X.env :: X.outer) a (Zc cls d) X.env.locals s'.heap := by
      rw [← hs]
      exact sky
    show wpAny (model X.prog X.w) X.A (noteFrame (.ref a) X.env) _ _ _
    refine Sky.land Zc.steady hfr hf sky' ?_
    intro h3 fl3 up3
    exact clauses hs hf hN tk ok J nb na os ag up up3 fl3 hh w
end
end Nv

namespace Nv
open PySem PySem.Spec PyProof.Rows L2

/-! own errors with one attribute -/
def spXI (K : PySem.W.Frag) (f : Str) : Sp := fun vs H Q _ => ∃ (a C : Addr) (v : V), vs = [.ref a, v] ∧ OexC K C ∧ PySem.W.findIn K (.ref C) f = some none ∧
  H a = some (exo a C none) ∧ ∀ dx, H dx = none → dx ≠ a → Q .non (upd (upd H dx (exd dx [(f, v)])) a (exo a C (some dx)))
section
variable {P : Program} {w : World} {K : PySem.W.Frag} {mg : Str → Option Value} {base : Heap}
theorem ok_xi {qual f : Str} {st : Stmt} {fI : Addr} {fd : FuncData} {p1 p2 p3 p4 : Pos} (F : Fun K "__init__" qual st fI fd) (S : FnScope ["self", f] ["self", f] (defScope st))
    (hb : defBody st = [.Assign [.Attribute (.Name "self" p1) f p2] (.Name f p3) p4]) (hd : (f == ("__debug__" : Str)) = false) (hcd : (f == ("__classdict__" : Str)) = false) :
    FnOk P w K mg base CX0 1 fI fd ["self", f] (spXI K f) := by
  refine F.ok S (fun vs H Q E h => ?_) (fun cdv A outer s H vs Q E hr h => ?_)
  · obtain ⟨a, C, v, rfl, _⟩ := h
    rfl
  · obtain ⟨a, C, v, rfl, T, hn, he, q⟩ := h
    have v0 : Vis (defScope st) "self" := by
      rcases S.par "self" (by simp) with z | z
      · exact .inl z
      · exact .inr (.inl z)
    have v1 : Vis (defScope st) f := by
      rcases S.par f (by simp) with z | z
      · exact .inl z
      · exact .inr (.inl z)
    rw [hb]
    refine ⟨_, pss_one (ps_ost (pe_var (i := 0) rfl v0) (pe_var (i := 1) rfl v1 hd hcd) rfl), ?_⟩
    exact ⟨_, rfl, _, rfl, a, C, rfl, T, hn, .inl ⟨he, fun dx h1 h2 => q dx h1 h2⟩⟩
end
/-- what stands of an own error class with one attribute f: at C, its __init__ at fI -/
structure ErrT (K : PySem.W.Frag) (mg : Str → Option Value) (x f : Str) (C fI : Addr) : Prop where
  gC : mg x = some (.ref C)
  T : OexC K C
  iC : PySem.W.findIn K (.ref C) "__init__" = some (some (.ref fI))
  tI : PySem.W.typeIn K (.ref fI) = some (.type "function")
  noF : PySem.W.findIn K (.ref C) f = some none
  nv : PySem.W.NvCls K C
theorem ErrT.xf {K : PySem.W.Frag} {mg : Str → Option Value} {x f : Str} {C fI : Addr} (T : ErrT K mg x f C fI) : XfC K C := ⟨T.nv.ga, T.nv.gt, T.nv.sub, T.nv.dct⟩
section
variable {X : Cx} {W : WX} {e : Expr} {te : TE} {p pos pos2 : Pos} {x f : Str} {C fI : Addr} {fd : FuncData}
theorem pmk_imp {t t' : L2.St → Hp → XK → Prop} (h : PMk X e t) (i : ∀ σ H Q, t' σ H Q → t σ H Q) : PMk X e t' := fun pins s σ H Q I q => h pins s σ H Q I (i _ _ _ q)
/-- C(e): a new error -/
def tErr (C : Addr) (f : Str) (te : TE) : L2.St → Hp → XK → Prop := fun σ H Q => te σ H fun v H1 => ∀ d, H1 d = none → Q (.ref C) (some d) (upd H1 d (.xd [(f, v)]))
theorem exo_end {H1 : Hp} {a dx C : Addr} {f : Str} {v : V} (na : H1 a = none) (nd : dx ≠ a) : upd (del (upd (upd (upd H1 a (exo a C none)) dx (exd dx [(f, v)])) a (exo a C (some dx))) a) dx (.xd [(f, v)]) = upd H1 dx (.xd [(f, v)]) := by
  funext b
  by_cases h : b = dx
  · subst h
    rw [upd_same, upd_same]
  · rw [upd_ne h, upd_ne h]
    by_cases g : b = a
    · subst g
      rw [del_same, na]
    · rw [del_ne g, upd_ne g, upd_ne h, upd_ne g]
/-- one argument, its reading made monotone -/
theorem pa_any (he : PE X e te) (hs : starEach (e :: []) X.env = (false, eval e X.env) :: starEach [] X.env := by rfl) :
    PA X [e] (fun σ H Q => ∃ R : V → Hp → Prop, te σ H R ∧ ∀ v H1, R v H1 → Q [v] H1) := by
  constructor
  intro pos pins s σ H Q I ⟨R, h, k⟩
  have z := (pa_cons he pa_nil hs).run pos pins s σ H (fun vs H1 => ∃ v, vs = [v] ∧ R v H1) I
  have z2 : te σ H (fun v H1 => R v H1) := h
  have he2 : PE X e (fun σ' H' Q' => te σ' H' R ∧ ∀ v H1, R v H1 → Q' v H1) := by
    constructor
    intro pins s σ H Q I ⟨h1, h2⟩
    exact thn (he.run pins s σ H R I h1) fun u s1 ⟨v, H1, I1, r, q⟩ => ⟨v, H1, I1, r, h2 v H1 q⟩
  exact (pa_cons he2 pa_nil hs).run pos pins s σ H Q I ⟨h, fun v H1 q => k v H1 q⟩
theorem pmk_err (T : ErrT X.K X.mg x f C fI) (F : FnOk X.prog X.w X.K X.mg X.base CX0 1 fI fd ["self", f] (spXI X.K f)) (hb : Binds X.K fd ["self", f] []) (hr : Room 2 X.A) (he : PE X e te) (hg : Gl X x := by rfl)
    (hdb : (x == ("__debug__" : Str)) = false := by decide) (hs : starEach (e :: []) X.env = (false, eval e X.env) :: starEach [] X.env := by rfl) (hpl : (backTo pos (starEach [] X.env)).any (·.1) = false := by rfl) :
    PMk X (.Call (.Name x p) [e] [] pos) (tErr C f te) := by
  refine pmk_imp (pmk_oex (CX := CX0) (dvs := []) (ds := []) T.T T.iC T.tI F hr hb .nil pass0 hg T.gC (pa_any he hs) hdb hs hpl) ?_
  intro σ H Q h
  refine ⟨_, h, fun v H1 k => ⟨by show 1 ≤ 1000; decide, fun a na => ?_⟩⟩
  refine ⟨a, C, v, rfl, T.T, T.noF, upd_same, fun dx h1 h2 => ⟨rfl, dx, [(f, v)], upd_same, ?_, ?_, ?_⟩⟩
  · rw [upd_ne h2, upd_same]
  · rw [upd_ne h2] at h1
    exact h1
  · rw [exo_end na h2]
    rw [upd_ne h2] at h1
    exact k dx h1
/-- raise C(e) -/
def tRaise1 (C : Addr) (f : Str) (W : WX) (te : TE) : TS := fun _ σ H => tErr C f te σ H fun cls d H' => W cls d σ H'
theorem ps_err (hc : X.calm = true) (tk : Takes X W) (T : ErrT X.K X.mg x f C fI) (F : FnOk X.prog X.w X.K X.mg X.base CX0 1 fI fd ["self", f] (spXI X.K f)) (hb : Binds X.K fd ["self", f] []) (hr : Room 2 X.A) (he : PE X e te) (hg : Gl X x := by rfl)
    (hdb : (x == ("__debug__" : Str)) = false := by decide) (hs : starEach (e :: []) X.env = (false, eval e X.env) :: starEach [] X.env := by rfl) (hpl : (backTo pos (starEach [] X.env)).any (·.1) = false := by rfl) :
    PS X (.Raise (some (.Call (.Name x p) [e] [] pos)) none pos2) (tRaise1 C f W te) := ps_raise hc tk (pmk_err T F hb hr he hg hdb hs hpl)
end

/-! displays whose place is not that of sys.modules -/
section
variable {X : Cx} {es : List Expr} {t : TA} {pos : Pos}
def tLst1 (t : TA) : TE := fun σ H Q => t σ H fun xs H1 => xs.length ≤ sizeLine ∧ ∀ p, H1 p = none → p ≠ sysModules → Q (.ref p) (upd H1 p (.lst xs))
theorem pe_lst1 (h : PA X es t) : PE X (.List es pos) (tLst1 t) := by
  constructor
  intro pins s σ H Q I hq
  refine wpAny_List_spliced (thn (h.run pos pins s σ H _ I hq) ?_)
  intro us s1 ⟨xs, H1, I1, r, z, q⟩
  have hf : H1 s1.heap.objs.size = none := I1.hok.fresh (Nat.le_refl _)
  refine ⟨by rw [← r.length]; exact z, ?_⟩
  refine ⟨.ref s1.heap.objs.size, upd H1 s1.heap.objs.size (.lst xs), I1.laid (t' := s1.toks) (fun b u e => Heap.get?_push_of_some _ e) (Nat.le_refl _) ?_, rfl, q _ hf (Nat.ne_of_gt I1.big)⟩
  exact ⟨z, us, 0, r, Heap.get?_push_size _ rfl⟩
end
end Nv

namespace Nv
open PySem PySem.Spec PyProof.Rows L2

/-! a def, a method, an __init__ of the text as they stand behind the top -/
structure DefT (K : PySem.W.Frag) (mg : Str → Option Value) (x : Str) (st : Stmt) (ps : List Str) : Type where
  f : Addr
  fd : FuncData
  F : Fun K x x st f fd
  m : mg x = some (.ref f)
  b : Pos1 fd ps
  kb : Kw1 fd ps ps 0
structure MethT (K : PySem.W.Frag) (C : Addr) (x qual : Str) (st : Stmt) (ps : List Str) : Type where
  f : Addr
  fd : FuncData
  F : Fun K x qual st f fd
  me : Meth K C x f
  b : Pos1 fd ps
  kb : Kw1 fd ps ps.tail 1
structure InitT (K : PySem.W.Frag) (C : Addr) (qual : Str) (st : Stmt) (ps : List Str) : Type where
  f : Addr
  fd : FuncData
  F : Fun K "__init__" qual st f fd
  bi : Binds K fd ps []
  kb : Kw1 fd ps ps.tail 1
structure PropT (K : PySem.W.Frag) (C : Addr) (x qual : Str) (st : Stmt) : Type where
  p : Addr
  g : Addr
  fd : FuncData
  F : Fun K x qual st g fd
  po : PropOf K C x p g
  bi : Binds K fd ["self"] []

/-- a body that lets nothing out -/
theorem okG0 {P : Program} {w : World} {K : PySem.W.Frag} {mg : Str → Option Value} {base : Heap} {k : Nat} {f : Addr} {fd : FuncData} {ps : List Str} {sp : Sp} {x qual : Str} {st : Stmt} {N : List Str}
    (F : Fun K x qual st f fd) (S : FnScope N ps (defScope st)) (len : ∀ vs H Q E, sp vs H Q E → vs.length = ps.length)
    (body : ∀ (cdv : Value) (A : Around) (outer : List Env) (s : Shared) (H : Hp) (vs : List V) (Q : VK) (E : XK),
      A.guards = some [] → Room k (A.deeper (envOfC qual (defScope st) s.heap.objs.size f cdv)) → sp vs H Q E →
      ∃ t, PSs (cxOf (L2.CX P w) P w K mg base N qual (defScope st) f cdv A outer s H E).nox (defBody st) t ∧
        t { nx := fun _ H' => Q .non H', rt := Q } (start N vs) H) : FnG P w K mg base (k + 1) f fd ps sp :=
  okG F S len fun cdv A outer s H vs Q E hg hr hsp => by
    obtain ⟨t, h, q⟩ := body cdv A outer s H vs Q E hg hr hsp
    exact ⟨t, h.nox, q⟩

/-! the kinds of data -/
def tyName : PyData → String
  | .none => "NoneType"
  | .bool _ => "bool"
  | .int _ => "int"
  | .str _ => "str"
  | .list _ => "list"
  | .tuple _ => "tuple"
  | .dict _ => "dict"
theorem DV.ty {K : PySem.W.Frag} {H : Hp} {v : V} {d : PyData} (h : DV H v d) : TyX K H v (.type (tyName d)) := by
  cases h with
  | non => exact .base .non
  | bl b => exact .base (.bl b)
  | int i => exact .base (.int i)
  | str x => exact .base (.str x)
  | lst e _ _ => exact .base (.lst e)
  | tup e _ => exact .base (.tup e)
  | dct e _ => exact .base (.dK e)
theorem r_isi {K : PySem.W.Frag} {H : Hp} {Q : VK} {v : V} {d : PyData} {T : String} {b : Bool} (h : DV H v d) (e : kitB (tyName d) T = some b) (q : Q (.bl b) H) : rIsi K [v, .ty T] H Q :=
  ⟨v, .ty T, _, _, b, rfl, .ty T, h.ty, kit_ty e, q⟩
def isI : PyData → Bool
  | .int _ => true
  | _ => false
def isB : PyData → Bool
  | .bool _ => true
  | _ => false
def isS : PyData → Bool
  | .str _ => true
  | _ => false
def isL : PyData → Bool
  | .list _ => true
  | _ => false
theorem kit_int (d : PyData) : kitB (tyName d) "int" = some (isI d || isB d) := by
  cases d with
  | none => exact (by decide +kernel : kitB "NoneType" "int" = some false)
  | bool b => exact (by decide +kernel : kitB "bool" "int" = some true)
  | int i => exact (by decide +kernel : kitB "int" "int" = some true)
  | str x => exact (by decide +kernel : kitB "str" "int" = some false)
  | list l => exact (by decide +kernel : kitB "list" "int" = some false)
  | tuple l => exact (by decide +kernel : kitB "tuple" "int" = some false)
  | dict l => exact (by decide +kernel : kitB "dict" "int" = some false)
theorem kit_bool (d : PyData) : kitB (tyName d) "bool" = some (isB d) := by
  cases d with
  | none => exact (by decide +kernel : kitB "NoneType" "bool" = some false)
  | bool b => exact (by decide +kernel : kitB "bool" "bool" = some true)
  | int i => exact (by decide +kernel : kitB "int" "bool" = some false)
  | str x => exact (by decide +kernel : kitB "str" "bool" = some false)
  | list l => exact (by decide +kernel : kitB "list" "bool" = some false)
  | tuple l => exact (by decide +kernel : kitB "tuple" "bool" = some false)
  | dict l => exact (by decide +kernel : kitB "dict" "bool" = some false)
theorem kit_str (d : PyData) : kitB (tyName d) "str" = some (isS d) := by
  cases d with
  | none => exact (by decide +kernel : kitB "NoneType" "str" = some false)
  | bool b => exact (by decide +kernel : kitB "bool" "str" = some false)
  | int i => exact (by decide +kernel : kitB "int" "str" = some false)
  | str x => exact (by decide +kernel : kitB "str" "str" = some true)
  | list l => exact (by decide +kernel : kitB "list" "str" = some false)
  | tuple l => exact (by decide +kernel : kitB "tuple" "str" = some false)
  | dict l => exact (by decide +kernel : kitB "dict" "str" = some false)
theorem kit_list (d : PyData) : kitB (tyName d) "list" = some (isL d) := by
  cases d with
  | none => exact (by decide +kernel : kitB "NoneType" "list" = some false)
  | bool b => exact (by decide +kernel : kitB "bool" "list" = some false)
  | int i => exact (by decide +kernel : kitB "int" "list" = some false)
  | str x => exact (by decide +kernel : kitB "str" "list" = some false)
  | list l => exact (by decide +kernel : kitB "list" "list" = some true)
  | tuple l => exact (by decide +kernel : kitB "tuple" "list" = some false)
  | dict l => exact (by decide +kernel : kitB "dict" "list" = some false)

/-! str * int -/
def rMulS : R2 := fun x y H Q => ∃ (z : Str) (k : Int), x = .str z ∧ y = .int k ∧ PySem.MulOk z k ∧ Q (.str (Txt.mul z k)) H
theorem op_mul_str {X : Cx} : OpR X (binaryOp .Mult) rMulS := by
  intro pins s σ H x y v u Q I rx ry h
  obtain ⟨z, k, rfl, rfl, hok, q⟩ := h
  obtain ⟨t, rfl⟩ := (show ∃ t, v = Value.str z t from rx)
  obtain ⟨t2, rfl⟩ := (show ∃ t, u = Value.int k t from ry)
  exact PySem.SB.mul hok fun t' tk => ⟨.str (Txt.mul z k), H, I.tok tk, ⟨t', rfl⟩, q⟩

/-! heaps -/
/-- all that was tracked stands as it was, but what stands at p -/
def Ext1 (p : Addr) (H H' : Hp) : Prop := ∀ a o, a ≠ p → H a = some o → H' a = some o
theorem Ext1.refl (p : Addr) (H : Hp) : Ext1 p H H := fun _ _ _ h => h
theorem Ext1.trans {p : Addr} {H H1 H2 : Hp} (a : Ext1 p H H1) (b : Ext1 p H1 H2) : Ext1 p H H2 := fun c o n h => b c o n (a c o n h)
theorem Same.ext1 {p : Addr} {H H' : Hp} (e : Same H H') : Ext1 p H H' := fun a o _ h => e a o h
theorem Same.new {H : Hp} {p : Addr} {o : HO} (n : H p = none) : Same H (upd H p o) := fun b u e => by
  rw [upd_ne (ne_of_none e n)]
  exact e
theorem Ext1.upd {p : Addr} {H : Hp} {o : HO} : Ext1 p H (upd H p o) := fun a u n h => by
  rw [upd_ne n]
  exact h
end Nv

namespace Nv
open PySem PySem.Spec PyProof.Rows L2

/-! what a step asks of the heap, kept whole -/
def rFld (K : PySem.W.Frag) (f : Str) : V → Hp → VK → Prop := fun x H Q => ∃ a C dx fs v, x = .ref a ∧ H a = some (.ins C dx fs) ∧ Cls K C ∧ NoAttr K C f ∧ fs.lookup f = some v ∧ Q v H
def rStF (K : PySem.W.Frag) (f : Str) : V → V → Hp → (Hp → Prop) → Prop := fun x y H R => ∃ a C dx fs, x = .ref a ∧ H a = some (.ins C dx fs) ∧ Cls K C ∧ NoAttr K C f ∧ fs.length < 1000 ∧ R (upd H a (.ins C dx (putF f y fs)))
def rMeth (C : Addr) (m : Str) : V → Hp → (Hp → Prop) → Prop := fun x H R => ∃ a dx fs, x = .ref a ∧ H a = some (.ins C dx fs) ∧ fs.lookup m = none ∧ R H
def rPrp (C : Addr) (sp : Sp) (dvs : List V) (E : XK) : V → Hp → VK → Prop := fun x H Q => ∃ a dx fs, x = .ref a ∧ H a = some (.ins C dx fs) ∧ sp (.ref a :: dvs) H Q E
/-- a new object's heap by a name of its own -/
theorem gen_new {H : Hp} {p : Addr} (o : HO) (h : H p = none) : ∃ H', upd H p o = H' ∧ Same H H' ∧ H' p = some o :=
  ⟨_, rfl, fun b u e => by rw [upd_ne (ne_of_none e h)]; exact e, upd_same⟩
def rXf (a : Addr) (cls : Value) (d : Option Addr) (C : Addr) (f : Str) : V → Hp → VK → Prop := fun x H Q => x = .ref a ∧ cls = .ref C ∧ ∃ (dd : Addr) (fs : List (Str × V)) (v : V), d = some dd ∧ H dd = some (.xd fs) ∧ fs.lookup f = some v ∧ Q v H
theorem e_xf {a : Addr} {cls : Value} {d : Option Addr} {C : Addr} {f : Str} {te : TE} {σ : L2.St} {H : Hp} {Q : VK} : tXf a cls d C f te σ H Q = te σ H (fun x H1 => rXf a cls d C f x H1 Q) := rfl
theorem r_xf {a dd C : Addr} {f : Str} {v : V} {H : Hp} {Q : VK} (h : H dd = some (.xd [(f, v)])) (q : Q v H) : rXf a (.ref C) (some dd) C f (.ref a) H Q :=
  ⟨rfl, rfl, dd, _, v, rfl, h, by simp [List.lookup], q⟩
theorem r_isX {K : PySem.W.Frag} {D U dd a : Addr} {f : Str} {v : V} {H : Hp} {Q : VK} {b : Bool} (n : PySem.W.NvCls K D) (k : PySem.W.kitOne K (.ref D) (.ref U) = some b) (h : H dd = some (.xd [(f, v)])) (q : Q (.bl b) H) :
    rIsXd K (.ref D) (some dd) a [.ref a, .ref U] H Q := ⟨D, .ref U, .ref U, b, rfl, rfl, n, fun u r => r, k, fun x e => by cases e; exact ⟨_, h⟩, q⟩
theorem e_wipe0 {σ : L2.St} : wipe σ [] = σ := rfl
theorem e_wipe1 {σ : L2.St} {v : Nat} {vs : List Nat} : wipe σ (v :: vs) = (wipe σ vs).set v none := rfl
theorem e_disp {trs : List (TE × TE)} {σ : L2.St} {H : Hp} {Q : VK} : tDisp trs σ H Q = ∀ p, H p = none → tPairs trs σ (upd H p (.dK [])) fun ps H2 => H2 p = some (.dK []) ∧ ∃ kvs : List (Key × V), ps = kvs.map (fun kv => (kV kv.1, kv.2)) ∧ kvs.length ≤ 15 ∧ Q (.ref p) (upd H2 p (.dK (mergeK [] kvs))) := rfl
theorem e_tyes {σ : L2.St} {H : Hp} {R : Bool → Hp → Prop} : tYes σ H R = R true H := rfl
def rP2 (k : V → V → Prop) (vs : List V) : Prop := ∃ v w, vs = [v, w] ∧ k v w
def rP3 (k : V → V → V → Prop) (vs : List V) : Prop := ∃ u v w, vs = [u, v, w] ∧ k u v w
theorem e_rP2 {k : V → V → Prop} {a b : V} : rP2 k [a, b] = k a b := propext ⟨fun ⟨_, _, e, h⟩ => by cases e; exact h, fun h => ⟨_, _, rfl, h⟩⟩
theorem e_rP3 {k : V → V → V → Prop} {a b c : V} : rP3 k [a, b, c] = k a b c := propext ⟨fun ⟨_, _, _, e, h⟩ => by cases e; exact h, fun h => ⟨_, _, _, rfl, h⟩⟩
def rUnp (K : PySem.W.Frag) (n : Nat) : V → Hp → (List V → Prop) → Prop := fun v H R => ∃ a xs, v = .ref a ∧ SqT K H a xs ∧ xs.length = n ∧ R xs
theorem r_fld {K : PySem.W.Frag} {f : Str} {a C dx : Addr} {fs : List (Str × V)} {v : V} {H : Hp} {Q : VK} (h : H a = some (.ins C dx fs)) (c : Cls K C) (n : NoAttr K C f) (l : fs.lookup f = some v) (q : Q v H) : rFld K f (.ref a) H Q :=
  ⟨a, C, dx, fs, v, rfl, h, c, n, l, q⟩
theorem r_stF {K : PySem.W.Frag} {f : Str} {a C dx : Addr} {fs : List (Str × V)} {y : V} {H : Hp} {R : Hp → Prop} (h : H a = some (.ins C dx fs)) (c : Cls K C) (n : NoAttr K C f) (l : fs.length < 1000) (q : R (upd H a (.ins C dx (putF f y fs)))) : rStF K f (.ref a) y H R :=
  ⟨a, C, dx, fs, rfl, h, c, n, l, q⟩
theorem r_meth {C a dx : Addr} {m : Str} {fs : List (Str × V)} {H : Hp} {R : Hp → Prop} (h : H a = some (.ins C dx fs)) (l : fs.lookup m = none) (q : R H) : rMeth C m (.ref a) H R := ⟨a, dx, fs, rfl, h, l, q⟩
theorem r_prp {C a dx : Addr} {sp : Sp} {dvs : List V} {E : XK} {fs : List (Str × V)} {H : Hp} {Q : VK} (h : H a = some (.ins C dx fs)) (q : sp (.ref a :: dvs) H Q E) : rPrp C sp dvs E (.ref a) H Q := ⟨a, dx, fs, rfl, h, q⟩
theorem r_unp {K : PySem.W.Frag} {n : Nat} {a : Addr} {xs : List V} {H : Hp} {R : List V → Prop} (h : SqT K H a xs) (l : xs.length = n) (q : R xs) : rUnp K n (.ref a) H R := ⟨a, xs, rfl, h, l, q⟩
theorem r_setL {p : Addr} {i : Int} {xs : List V} {j : Nat} {v : V} {H : Hp} {R : Hp → Prop} (h : H p = some (.lst xs)) (e : ixN xs.length i = some j) (q : R (upd H p (.lst (xs.set j v)))) : rSetL (.ref p) (.int i) v H R := ⟨p, xs, i, j, rfl, rfl, h, e, q⟩
/-! the readings, one step each, as equations -/
section
variable {σ : L2.St} {H : Hp} {Q : VK} {D : Ends} {t u : TS} {ta tb te tc : TE} {tt tu : TT} {tr : TA} {to th tl : TO} {i j l : Nat} {v x y : V} {r : R2} {K : PySem.W.Frag} {f : Str} {g : TG} {gs : TGs}
theorem e_seq : tSeq t u D σ H = t { D with nx := u D } σ H := rfl
theorem e_next : tNext D σ H = D.nx σ H := rfl
theorem e_asg : tAsg te g D σ H = te σ H (fun x H1 => g x σ H1 D.nx) := rfl
theorem e_gname {R : L2.St → Hp → Prop} : gName i v σ H R = R (σ.set i (some v)) H := rfl
theorem e_gtup {n : Nat} {R : L2.St → Hp → Prop} : gTup K n gs v σ H R = rUnp K n v H (fun xs => gs xs σ H R) := rfl
theorem e_gcons {a : V} {vs : List V} {R : L2.St → Hp → Prop} : gCons g gs (a :: vs) σ H R = g a σ H (fun σ' H' => gs vs σ' H' R) :=
  propext ⟨fun ⟨_, _, e, h⟩ => by cases e; exact h, fun h => ⟨_, _, rfl, h⟩⟩
theorem e_gnil {R : L2.St → Hp → Prop} : gNil [] σ H R = R σ H := propext ⟨fun h => h.2, fun h => ⟨rfl, h⟩⟩
theorem e_gsub {s : TSet} {R : L2.St → Hp → Prop} : gSub ta tb s v σ H R = ta σ H (fun o H1 => tb σ H1 fun i H2 => s o i v H2 fun H3 => R σ H3) := rfl
theorem e_ret : tRet te D σ H = te σ H D.rt := rfl
theorem e_retN : tRetN D σ H = D.rt .non H := rfl
theorem e_if : tIfS tt t u D σ H = tt σ H (fun b H1 => if b = true then t D σ H1 else u D σ H1) := rfl
theorem e_drop : tDrop te D σ H = te σ H (fun _ H1 => D.nx σ H1) := rfl
theorem e_par : tPar i j tr D σ H = tr σ H (fun vs H1 => rP2 (fun v w => D.nx ((σ.set i (some v)).set j (some w)) H1) vs) := rfl
theorem e_par3 : tPar3 i j l tr D σ H = tr σ H (fun vs H1 => rP3 (fun u v w => D.nx (((σ.set i (some u)).set j (some v)).set l (some w)) H1) vs) := rfl
theorem e_sfld : sFld K ta te f D σ H = te σ H (fun y H1 => ta σ H1 fun x H2 => rStF K f x y H2 fun H3 => D.nx σ H3) := rfl
theorem e_var : tVar i σ H Q = ∃ v, σ[i]? = some (some v) ∧ Q v H := rfl
theorem e_c : tC v σ H Q = Q v H := rfl
theorem e_op : tOp r ta tb σ H Q = ta σ H (fun x H1 => tb σ H1 fun y H2 => r x y H2 Q) := rfl
theorem e_un {ru : V → Hp → VK → Prop} : tUn ru ta σ H Q = ta σ H (fun x H1 => ru x H1 Q) := rfl
theorem e_ri {C : Int → Int → Prop} {g : Int → Int → V} {a b : Int} : rI C g (.int a) (.int b) H Q = (C a b ∧ Q (g a b) H) :=
  propext ⟨fun ⟨_, _, e1, e2, c, q⟩ => by cases e1; cases e2; exact ⟨c, q⟩, fun ⟨c, q⟩ => ⟨_, _, rfl, rfl, c, q⟩⟩
theorem e_ri0 {g : Int → Int → V} {a b : Int} : rI0 g (.int a) (.int b) H Q = Q (g a b) H :=
  propext ⟨fun ⟨_, _, e1, e2, q⟩ => by cases e1; cases e2; exact q, fun q => ⟨_, _, rfl, rfl, q⟩⟩
theorem e_ru {g : Int → V} {a : Int} : rU g (.int a) H Q = Q (g a) H :=
  propext ⟨fun ⟨_, e1, q⟩ => by cases e1; exact q, fun q => ⟨_, rfl, q⟩⟩
theorem e_eq : rEq x y H Q = (scal x y = true ∧ Q (.bl (decide (x = y))) H) := rfl
theorem e_ne : rNe x y H Q = (scal x y = true ∧ Q (.bl (!decide (x = y))) H) := rfl
theorem e_test {R : Bool → Hp → Prop} : tTest te σ H R = te σ H (fun x H' => ∃ k, x = .bl k ∧ R k H') := rfl
theorem e_B {R : Bool → Hp → Prop} : tB te σ H R = te σ H (fun x H1 => ∃ c, x = .bl c ∧ R c H1) := rfl
theorem e_and {R : Bool → Hp → Prop} : tAnd tt tu σ H R = tt σ H (fun c H1 => if c = true then tu σ H1 R else R false H1) := rfl
theorem e_or {R : Bool → Hp → Prop} : tOr tt tu σ H R = tt σ H (fun c H1 => if c = true then R true H1 else tu σ H1 R) := rfl
theorem e_not {R : Bool → Hp → Prop} : tNot tt σ H R = tt σ H (fun c H1 => R (!c) H1) := rfl
theorem e_andV : tAndV ta tb σ H Q = ta σ H (fun x H1 => ∃ c, x = .bl c ∧ if c = true then tb σ H1 Q else Q (.bl false) H1) := rfl
theorem e_orV : tOrV ta tb σ H Q = ta σ H (fun x H1 => ∃ c, x = .bl c ∧ if c = true then Q (.bl true) H1 else tb σ H1 Q) := rfl
theorem e_notV : tNotV ta σ H Q = ta σ H (fun x H1 => ∃ c, x = .bl c ∧ Q (.bl (!c)) H1) := rfl
theorem e_ifE : tIf tt ta tb σ H Q = tt σ H (fun c H1 => if c = true then ta σ H1 Q else tb σ H1 Q) := rfl
theorem e_cb {rc : List V → Hp → VK → Prop} : tCB rc tr σ H Q = tr σ H (fun vs H1 => rc vs H1 Q) := rfl
theorem e_nil {R : List V → Hp → Prop} : tNil σ H R = R [] H := rfl
theorem e_cons {R : List V → Hp → Prop} : tCons ta tr σ H R = ta σ H (fun x H1 => tr σ H1 fun xs H2 => R (x :: xs) H2) := rfl
theorem e_tup : tTup tr σ H Q = tr σ H (fun xs H1 => xs.length ≤ sizeLine ∧ ∀ p, H1 p = none → Q (.ref p) (upd H1 p (.tup xs))) := rfl
theorem e_lst1 : tLst1 tr σ H Q = tr σ H (fun xs H1 => xs.length ≤ sizeLine ∧ ∀ p, H1 p = none → p ≠ sysModules → Q (.ref p) (upd H1 p (.lst xs))) := rfl
theorem e_fld : tFld K ta f σ H Q = ta σ H (fun x H1 => rFld K f x H1 Q) := rfl
theorem e_slice {rs : V → Option Int → Option Int → Hp → VK → Prop} : L2.tSl rs te tl th σ H Q = te σ H (fun x H1 => tl σ H1 fun a H2 => th σ H2 fun b H3 => rs x a b H3 Q) := rfl
theorem e_nopart {R : Option Int → Hp → Prop} : tNoPart σ H R = R none H := rfl
theorem e_part {R : Option Int → Hp → Prop} : tPart te σ H R = te σ H (fun x H1 => ∃ i, x = .int i ∧ R (some i) H1) := rfl
theorem e_bm0 {T : String} {rm : V → List V → Hp → VK → Prop} : tBM0 K T rm te σ H Q = te σ H (fun x H1 => tyV K T x H1 ∧ rm x [] H1 Q) := rfl
theorem e_bm {T : String} {rm : V → List V → Hp → VK → Prop} : tBM K T rm te tr σ H Q = te σ H (fun x H1 => tyV K T x H1 ∧ tr σ H1 fun xs H2 => rm x xs H2 Q) := rfl
theorem e_m1 {rm : V → List V → Hp → VK → Prop} : tM1 rm ta te σ H Q = ta σ H (fun x H1 => (∃ a, x = .str a) ∧ te σ H1 fun y H2 => rm x [y] H2 Q) := rfl
theorem e_cg {sp : Sp} {W : WX} : tCG sp W tr σ H Q = tr σ H (fun vs H1 => sp vs H1 Q (WE W σ)) := rfl
theorem e_mg {C : Addr} {m : Str} {sp : Sp} {W : WX} : tMG C m sp W ta tr σ H Q = ta σ H (fun x H1 => rMeth C m x H1 fun H1' => tr σ H1' fun vs H2 => sp (x :: vs) H2 Q (WE W σ)) :=
  by
    unfold tMG rMeth
    rfl
theorem e_make {C : Addr} {sp : Sp} {dvs : List V} {E : XK} : tMake C sp dvs E tr σ H Q = tr σ H (fun vs H1 => ∀ x dx, H1 x = none → H1 dx = none → dx ≠ x →
  sp (.ref x :: (vs ++ dvs)) (upd (upd H1 dx (.own x)) x (.ins C dx [])) (fun v H2 => v = .non ∧ Q (.ref x) H2) E) := rfl
theorem e_prop {C : Addr} {sp : Sp} {dvs : List V} {E : XK} : tProp C sp dvs E ta σ H Q = ta σ H (fun x H1 => rPrp C sp dvs E x H1 Q) := rfl
theorem e_raise1 {C : Addr} {W : WX} : tRaise1 C f W te D σ H = te σ H (fun v H1 => ∀ d, H1 d = none → W (.ref C) (some d) σ (upd H1 d (.xd [(f, v)]))) := rfl
theorem e_chain {r' : R2} : tChain r r' ta tb tc σ H Q = ta σ H (fun x H1 => tb σ H1 fun y H2 => r x y H2 fun z H3 => ∃ k, z = .bl k ∧ (if k = true then tc σ H3 fun w' H4 => r' y w' H4 Q else Q (.bl false) H3)) := rfl
theorem e_mulS {z : Str} {k : Int} : rMulS (.str z) (.int k) H Q = (PySem.MulOk z k ∧ Q (.str (Txt.mul z k)) H) :=
  propext ⟨fun ⟨_, _, e1, e2, c, q⟩ => by cases e1; cases e2; exact ⟨c, q⟩, fun ⟨c, q⟩ => ⟨_, _, rfl, rfl, c, q⟩⟩
theorem e_slS {z : Str} {lo hi : Option Int} : rSlS (.str z) lo hi H Q = (z.length ≤ sizeLine ∧ Q (.str (cutS z lo hi)) H) :=
  propext ⟨fun ⟨_, e1, c, q⟩ => by cases e1; exact ⟨c, q⟩, fun ⟨c, q⟩ => ⟨_, rfl, c, q⟩⟩
theorem e_ixL {p : Addr} {i : Int} : rIxL K (.ref p) (.int i) H Q = ∃ xs v, SqL K H p xs ∧ atI xs i = some v ∧ Q v H :=
  propext ⟨fun ⟨_, xs, _, v, e1, e2, c, d, q⟩ => by cases e1; cases e2; exact ⟨xs, v, c, d, q⟩, fun ⟨xs, v, c, d, q⟩ => ⟨_, xs, _, v, rfl, rfl, c, d, q⟩⟩
theorem e_ixT {p : Addr} {i : Int} : rIxT K (.ref p) (.int i) H Q = ∃ xs v, SqT K H p xs ∧ atI xs i = some v ∧ Q v H :=
  propext ⟨fun ⟨_, xs, _, v, e1, e2, c, d, q⟩ => by cases e1; cases e2; exact ⟨xs, v, c, d, q⟩, fun ⟨xs, v, c, d, q⟩ => ⟨_, xs, _, v, rfl, rfl, c, d, q⟩⟩
theorem e_ixS {z : Str} {i : Int} : rIxS (.str z) (.int i) H Q = ∃ c, z.length ≤ sizeLine ∧ atI z.cps.toList i = some c ∧ Q (.str ⟨#[c]⟩) H :=
  propext ⟨fun ⟨_, _, c, e1, e2, d, a, q⟩ => by cases e1; cases e2; exact ⟨c, d, a, q⟩, fun ⟨c, d, a, q⟩ => ⟨_, _, c, rfl, rfl, d, a, q⟩⟩
theorem e_setL {p : Addr} {k : Int} {R : Hp → Prop} : rSetL (.ref p) (.int k) v H R = ∃ xs j, H p = some (.lst xs) ∧ ixN xs.length k = some j ∧ R (upd H p (.lst (xs.set j v))) :=
  propext ⟨fun ⟨_, xs, _, j, e1, e2, c, d, q⟩ => by cases e1; cases e2; exact ⟨xs, j, c, d, q⟩, fun ⟨xs, j, c, d, q⟩ => ⟨_, xs, _, j, rfl, rfl, c, d, q⟩⟩
theorem r_ixL {p : Addr} {i : Int} {xs : List V} {v : V} (h : SqL K H p xs) (e : atI xs i = some v) (q : Q v H) : rIxL K (.ref p) (.int i) H Q := ⟨_, xs, _, v, rfl, rfl, h, e, q⟩
theorem r_ixT {p : Addr} {i : Int} {xs : List V} {v : V} (h : SqT K H p xs) (e : atI xs i = some v) (q : Q v H) : rIxT K (.ref p) (.int i) H Q := ⟨_, xs, _, v, rfl, rfl, h, e, q⟩
end
theorem e_cxK {CX : CXT} {P : Program} {w : World} {mg : Str → Option Value} {base : Heap} {N : List Str} {qual : Str} {scope : Scope} {f : Addr} {cd : Value} {A : Around} {outer : List Env} {s : Shared} {H : Hp} {E : XK} {K : PySem.W.Frag} :
    (cxOf CX P w K mg base N qual scope f cd A outer s H E).K = K := rfl
theorem e_pt {R : Bool → Hp → Prop} {σ : L2.St} {H : Hp} {t : TT} {b : Bool} (h : t σ H R) : t σ H R := h
/-- int(n), n an int -/
theorem call_intI {X : Cx} : CallR X (.type "int") (fun xs H Q => ∃ i, xs = [.int i] ∧ Q (.int i) H) := by
  intro pins s σ H xs us Q I r h
  obtain ⟨i, e, q⟩ := h
  exact call_int1 pins s σ H xs us Q I r (.inl ⟨i, e, q⟩)
/-- σ at the entry -/
theorem start_def {N : List Str} {vs : List V} : L2.start N vs = vs.map some ++ List.replicate (N.length - vs.length) none := rfl
end Nv

namespace Nv
open PySem PySem.Spec PyProof.Rows L2

/-! {n:04d} -/
/-- the text of {i:04d} -/
def four (i : Int) : Str := ⟨(List.replicate (4 - (Nat.toDigits 10 i.natAbs).length) 48 ++ (Nat.toDigits 10 i.natAbs).map Char.toNat).toArray⟩
theorem four_len {i : Int} (h1 : i.natAbs < 10000) : (four i).length ≤ 4 := by
  have h := digits10_le (k := 4) (n := i.natAbs) (by decide) (by omega)
  show ((List.replicate (4 - (Nat.toDigits 10 i.natAbs).length) 48 ++ (Nat.toDigits 10 i.natAbs).map Char.toNat).toArray).size ≤ 4
  simp
  omega
theorem small_log {n : Nat} (h : n < 10000) : n.log2 < 1920 := by
  by_cases h0 : n = 0
  · subst h0
    decide
  · rw [Nat.log2_lt h0]
    exact Nat.lt_of_lt_of_le h (by
      have : (2 : Nat) ^ 14 ≤ 2 ^ 1920 := Nat.pow_le_pow_right (by decide) (by decide)
      omega)
def f4 : Builtin.Float.FormatSpec := { fill := 48, align := 61, width := some 4, type := some 100 }
theorem gives_four (i : Int) (t u : Tok) (h0 : 0 ≤ i) (h1 : i.natAbs < 10000) : Gives (Builtin.«int.__format__» ⟨[.int i t, .str "04d" u], []⟩) (.str (four i)) := by
  intro prog w A R s hq
  unfold Builtin.«int.__format__»
  simp only [selfAndOne, noKeywords, Builtin.Int.intOfSelf, asInt?, asStr?, List.isEmpty_nil, if_true, pure_bind, bind_pure, bind_assoc, show (Value.str "04d" u == Value.none) = false from rfl, Bool.false_eq_true, if_false,
    show ((Str.ofString "04d").length == 0) = false from by decide +kernel]
  refine wpAny_bind (wpAny_typeNameOf (T := "str") (typeIs_str _ _ _) (by decide) fun _ => ?_)
  rw [if_neg (by decide +kernel)]
  first | refine wpAny_bind (wpAny_typeNameOfCut_int ?_) | refine wpAny_bind (wpAny_typeNameOf_int ?_)
  obtain ⟨f, hp, hty, hpr, hz, hal, hw, hgr, hsg, hfi, hag⟩ : ∃ f, Builtin.Float.parseFormatSpec (Str.ofString "04d").cps.toList "int" 62 = .ok f ∧ f.type = some 100 ∧ f.precision = none ∧ f.noNeg0 = false ∧ f.alt = false ∧ f.width = some 4 ∧ f.grouping = none ∧ f.sign = none ∧ f.fill = 48 ∧ f.align = 61 :=
    ⟨f4, rfl, rfl, rfl, rfl, rfl, rfl, rfl, rfl, rfl, rfl⟩
  simp only [hp, hty, Option.getD_some]
  rw [if_pos (by decide)]
  show wpAny _ _ (if _ then _ else _) _ _ _
  rw [if_neg (by simp [hpr])]
  show wpAny _ _ (if _ then _ else _) _ _ _
  rw [if_neg (by simp [hz])]
  show wpAny _ _ (if _ then _ else _) _ _ _
  rw [if_neg (by decide)]
  show wpAny _ _ (do let r ← Builtin.overDigitLimit? i; _) _ _ _
  rw [PySem.overDigitLimit_small (small_log h1)]
  refine wpAny_bind (wpAny_pure ?_)
  show wpAny _ _ (if _ then _ else _) _ _ _
  rw [if_neg (by simp [hw])]
  show wpAny _ _ (retStr _) _ _ _
  have hd : ((Nat.toDigits 10 i.natAbs).map fun c => (if (100 : Nat) == 88 then c.toUpper else c).toNat).isEmpty = false := by
    have := tDigits_len_ge 10 i.natAbs
    cases h : Nat.toDigits 10 i.natAbs with
    | nil => rw [h] at this; simp at this
    | cons _ _ => rfl
  have hneg : decide (i < 0) = false := decide_eq_false (by omega)
  have key : ∀ X : Str, X = four i → wpAny (model prog w) A.in1 (retStr X) (fun fin s' => match fin with | .done f => R (.ok f) s' | .again c' => c'.quiet = true ∧ codeAny (model prog w) A c' R s') (fun e s' => R (.error e) s') s := by
    intro X e
    subst e
    exact (Gives.of_eq (t := retStr (four i)) (m := .str (four i)) rfl) prog w A R s hq
  refine key _ ?_
  simp only [hal, hneg, Bool.false_eq_true, if_false, show ((10 : Nat) == 10) = true by decide, if_true]
  clear hd hneg key hq
  generalize hD : ((Nat.toDigits 10 i.natAbs).map fun c => (if (100 : Nat) == 88 then c.toUpper else c).toNat) = D
  have hD2 : four i = ⟨(List.replicate (4 - D.length) 48 ++ D).toArray⟩ := by
    rw [← hD]
    unfold four
    simp
  rw [hD2]
  have hne : D.isEmpty = false := by
    rw [← hD]
    have := tDigits_len_ge 10 i.natAbs
    cases h : Nat.toDigits 10 i.natAbs with
    | nil => rw [h] at this; simp at this
    | cons _ _ => rfl
  clear hD hD2 hp
  obtain ⟨fill, align, sign, noNeg0, alt, width, grouping, precision, type⟩ := f
  simp only at hty hpr hz hal hw hgr hsg hfi hag
  subst hty hpr hz hal hw hgr hsg hfi hag
  cases D with
  | nil => cases hne
  | cons x r =>
  conv => lhs; whnf
  have c1 : ((48 : Nat) == 48 && (61 : Nat) == 61) = true := rfl
  simp only [List.replicate_zero, List.nil_append, List.append_nil, List.length_nil, c1, hne, Bool.false_eq_true, if_false, if_true, List.length_append, List.length_replicate]
  have e1 : (((4 : Nat) : Int) - (((0 : Nat) : Int) + ((0 : Nat) : Int) + ((0 : Nat) : Int))).toNat = 4 := by decide
  rw [e1]
  have e2 : (((4 : Nat) : Int) - (((0 : Nat) : Int) + ((0 : Nat) : Int) + ((0 : Nat) : Int)) - ((4 - (x :: r).length + (x :: r).length : Nat) : Int)).toNat = 0 := by omega
  rw [e2]
  rfl
theorem field_four {prog : Program} {w : World} {A : Around} {E : Value → Shared → Prop} {s : Shared} {i : Int} {t : Tok} {Q : Value → Shared → Prop} (h0 : 0 ≤ i) (h1 : i.natAbs < 10000)
    (h : Q (.str (four i) (s.toks + 1)) { s with toks := s.toks + 1 + 1 }) : wpAny (model prog w) A (formatField (.int i t) "04d") Q E s :=
  wpAny_formatField_spec (by decide +kernel) (fun s' => typeIs_int s' i t) F.slot_int_format F.entry_int_format F.args_int_format_2 (fun u => gives_four i t u h0 h1) h (by decide +kernel) (by have := four_len h1; have e : sizeLine = 16777216 := sizeLine_eq; omega)
def tF4 (te : TE) : TE := fun σ H Q => te σ H fun x H1 => ∃ i : Int, x = .int i ∧ 0 ≤ i ∧ i.natAbs < 10000 ∧ Q (.str (four i)) H1
theorem pe_fmt04 {X : Cx} {e : Expr} {te : TE} {k : Nat} {p1 p2 pos : Pos} (he : PE X e te) : PE X (.FormattedValue e (-1) (some (.JoinedStr [.Constant (.str "04d") k p1] p2)) pos) (tF4 te) := by
  refine ⟨fun pins s σ H Q I h => ?_⟩
  refine wpAny_FormattedValue_spec (thn (he.run pins s σ H _ I h) fun v s1 hv => ?_)
  obtain ⟨x, H1, I1, r1, i, rfl, h0, h1, q⟩ := hv
  obtain ⟨t, rfl⟩ := r1
  refine wpAny_JoinedStr_one ?_
  have z := (pe_str (X := X) (x := "04d") (j := k) (pos := p1)).run pins s1 σ H1 (fun v H2 => v = .str "04d" ∧ H2 = H1) I1 ⟨rfl, rfl⟩
  refine thn z fun v s2 ⟨v', H2, I2, r2, e1, e2⟩ => ?_
  subst e1 e2
  obtain ⟨t2, rfl⟩ := r2
  exact ⟨_, _, rfl, field_four h0 h1 ⟨.str (four i), H2, I2.tok _, ⟨_, rfl⟩, q⟩⟩

/-! repr of data without dicts -/
def rReprD (K : PySem.W.Frag) : List V → Hp → VK → Prop := fun xs H Q => ∃ (v : V) (d : PyData), xs = [v] ∧ Dp K H v d ∧ ((∃ z, v = .str z) ∨ ∃ a, v = .ref a) ∧ d.hasDict = false ∧ d.showable = true ∧ d.depth ≤ 60 ∧ d.shown.length ≤ sizeLine ∧ Q (.str d.shown) H
theorem call_reprD {X : Cx} (hG : X.A.guards = some []) (hu : X.A.units + 64 < cLine) : CallR X (.builtin "repr") (rReprD X.K) := by
  intro pins s σ H xs us Q I r h
  obtain ⟨v, d, rfl, hd, hv, hn, hs, hp, hz, q⟩ := h
  cases r with
  | cons r1 r2 =>
    cases r2
    rcases hv with ⟨z, rfl⟩ | ⟨a, rfl⟩
    · cases hd
      obtain ⟨t, rfl⟩ := r1
      exact PySem.P.repr_of_str ⟨.str (reprText z), H, I.tok _, ⟨_, rfl⟩, q⟩ hz
    · obtain ⟨as, rd⟩ := Dp.reads I d (.ref a) _ hd r1
      cases r1
      exact repr_of_reads' rd hs (fun e => by rw [hn] at e; cases e) hG (by omega) (fun _ _ e => e) (fun h' u tk k => ⟨.str d.shown, H, I.kept k, ⟨u, rfl⟩, q⟩) hz

/-! the readings, one step each -/
section
variable {σ : L2.St} {H : Hp} {Q : VK} {te ta tb : TE}
theorem e_f4 : tF4 te σ H Q = te σ H (fun x H1 => ∃ i : Int, x = .int i ∧ 0 ≤ i ∧ i.natAbs < 10000 ∧ Q (.str (four i)) H1) := rfl
theorem e_js0 {acc : Str} {R : Str → Hp → Prop} : tJs [] acc σ H R = R acc H := rfl
theorem e_js1 {ts : List TE} {acc : Str} {R : Str → Hp → Prop} : tJs (te :: ts) acc σ H R = te σ H (fun x H1 => ∃ y : Str, x = .str y ∧ (acc ++ y).length ≤ sizeLine ∧ tJs ts (acc ++ y) σ H1 R) := rfl
theorem e_fmt : tFmt te σ H Q = te σ H (fun x H1 => (∃ y : Str, x = .str y ∧ y.length ≤ sizeLine ∧ Q (.str y) H1) ∨ ∃ i : Int, x = .int i ∧ i.natAbs.log2 < 1920 ∧ Q (.str (toString i)) H1) := rfl
theorem e_lrg {t : L2.St → Hp → (Int → Int → Hp → Prop) → Prop} : tLstRg t σ H Q = t σ H (fun a b H1 => RgOk a b ∧ ∀ q, H1 q = none → Q (.ref q) (upd H1 q (.lst (rgV a b)))) := rfl
theorem e_rg1 {R : Int → Int → Hp → Prop} : tRg1 ta σ H R = ta σ H (fun x H1 => ∃ n, x = .int n ∧ R 0 n H1) := rfl
end
end Nv
namespace Nv
open PySem PySem.Spec PyProof.Rows L2
/-! the same rules where the written part's name is given (within a comprehension) -/
section
variable {X : Cx} {K : PySem.W.Frag}
theorem ix_listK (h : X.K = K) : IxR X (rIxL K) := by
  subst h
  exact ix_list
theorem ix_tupK (h : X.K = K) : IxR X (rIxT K) := by
  subst h
  exact ix_tup
theorem sl_listK (h : X.K = K) : SlR X (rSlL K) := by
  subst h
  exact sl_list
theorem sl_tupK (h : X.K = K) : SlR X (rSlT K) := by
  subst h
  exact sl_tup
theorem op_eqDK (h : X.K = K) (hu : X.A.units + 64 < cLine) : OpR X (compareOp .Eq) (rEqD K) := by
  subst h
  exact op_eqD hu
theorem op_neDK (h : X.K = K) (hu : X.A.units + 64 < cLine) : OpR X (compareOp .NotEq) (rNeD K) := by
  subst h
  exact op_neD hu
theorem call_len_seqK (h : X.K = K) : CallR X (.builtin "len") (fun xs H Q => ∃ p ys, xs = [.ref p] ∧ (SqL K H p ys ∨ SqT K H p ys) ∧ Q (.int ys.length) H) := by
  subst h
  exact call_len_seq
end
end Nv

namespace Nv
open PySem L2

/-! texts of plain signs -/
def Asc (z : Str) : Prop := ∀ c ∈ z.cps.toList, c < 128
theorem Asc.app {x y : Str} (a : Asc x) (b : Asc y) : Asc (x ++ y) := fun c h => by
  have e : (x ++ y).cps.toList = x.cps.toList ++ y.cps.toList := by
    show (x.cps ++ y.cps).toList = _
    simp
  rw [e] at h
  rcases List.mem_append.mp h with h | h
  · exact a c h
  · exact b c h
theorem cutS_sub {z : Str} {lo hi : Option Int} {c : Nat} (h : c ∈ (cutS z lo hi).cps.toList) : c ∈ z.cps.toList := by
  unfold cutS at h
  exact List.mem_of_mem_drop (List.mem_of_mem_take (by simpa using h))
theorem Asc.cut {z : Str} (a : Asc z) (lo hi : Option Int) : Asc (cutS z lo hi) := fun c h => a c (cutS_sub h)
theorem Asc.one {c : Nat} (h : c < 128) : Asc ⟨#[c]⟩ := fun d hd => by
  have : d = c := by simpa using hd
  omega
theorem Asc.empty : Asc Str.empty := fun c h => by
  simp [Str.empty] at h
theorem foldl_mem {x : Array Nat} {c : Nat} : ∀ (n : Nat) (acc : Array Nat), c ∈ ((List.replicate n x).foldl (· ++ ·) acc).toList → c ∈ acc.toList ∨ c ∈ x.toList
  | 0, acc, h => .inl h
  | n + 1, acc, h => by
    rw [List.replicate_succ, List.foldl_cons] at h
    rcases foldl_mem n _ h with h | h
    · have e : (acc ++ x).toList = acc.toList ++ x.toList := by simp
      rw [e] at h
      exact List.mem_append.mp h
    · exact .inr h
theorem Asc.mul {z : Str} (a : Asc z) (n : Int) : Asc (Txt.mul z n) := fun c h => by
  unfold Txt.mul at h
  split at h
  · exact Asc.empty c h
  · split at h
    · exact a c h
    · rcases foldl_mem _ _ h with h | h
      · simp at h
      · exact a c h
theorem foldl_size (x : Array Nat) : ∀ (n : Nat) (acc : Array Nat), ((List.replicate n x).foldl (· ++ ·) acc).size = acc.size + n * x.size
  | 0, acc => by simp
  | n + 1, acc => by
    rw [List.replicate_succ, List.foldl_cons, foldl_size x n, Array.size_append, Nat.succ_mul]
    omega
theorem mul_len (z : Str) (n : Int) : (Txt.mul z n).length ≤ z.length * n.toNat := by
  unfold Txt.mul
  split
  · exact Nat.zero_le _
  · split
    · rename_i h1 h2
      simp only [Bool.or_eq_true, beq_iff_eq] at h2
      rcases h2 with h2 | h2
      · subst h2
        simp
      · rw [h2]
        exact Nat.zero_le _
    · show ((List.replicate n.toNat z.cps).foldl (· ++ ·) #[]).size ≤ _
      rw [foldl_size]
      simp [Str.length, Nat.mul_comm]
theorem mulOk_of {z : Str} {n : Int} (h1 : n ≤ 1000) (h0 : -1000 ≤ n) (h2 : z.length ≤ 10000) : MulOk z n := by
  refine ⟨?_, ?_, ?_⟩
  · simp
    constructor <;> omega
  · intro hn _ h
    have hp : 0 < n := by omega
    have : (9223372036854774 : Int) ≤ (2 ^ 63 - 1) / n := by
      refine Int.le_ediv_of_mul_le hp ?_
      have : (2 : Int) ^ 63 - 1 = 9223372036854775807 := by decide
      rw [this]
      omega
    omega
  · intro hn _
    have hm : z.length * n.toNat ≤ 10000 * 1000 := Nat.mul_le_mul h2 (by omega)
    unfold Builtin.Str.tooLong
    have : sizeLine = 16777216 := sizeLine_eq
    simp [this]
    omega
theorem append_len (x y : Str) : (x ++ y).length = x.length + y.length := Str.length_append x y
theorem join_signs (l : List Nat) : Txt.join Str.empty (l.map fun c => (⟨#[c]⟩ : Str)) = ⟨l.toArray⟩ := by
  show Builtin.Str.glued Str.empty _ = _
  rw [StrLaws.glued_eq_join]
  exact PyProof.Rows.join_ones l
theorem Asc.signs {l : List Nat} (h : ∀ c ∈ l, c < 128) : Asc ⟨l.toArray⟩ := fun c hc => h c (by simpa using hc)
theorem repr_len {z : Str} (a : Asc z) : (reprText z).length ≤ 10 * z.length + 2 := StrLaws.reprText_len z fun c h => Nat.lt_of_lt_of_le (a c h) (by decide)
end Nv

namespace Nv
open PySem L2

/-! values whose text is short -/
structure Shw (W D : Nat) (d : PyData) : Prop where
  s : d.leavesShort 40 = true
  w : d.weight ≤ W
  p : d.depth ≤ D
  h : d.showable = true
structure Shws (W D : Nat) (ds : List PyData) : Prop where
  s : PyData.leavesShortAll 40 ds = true
  w : PyData.weightAll ds ≤ W
  p : PyData.depthAll ds ≤ D
  h : PyData.showableAll ds = true
theorem Shw.len {W D : Nat} {d : PyData} (h : Shw W D d) (hw : W ≤ 390000) : d.shown.length ≤ sizeLine := by
  have h1 := PyData.shown_le 40 (by decide) d h.s
  have h2 : (40 + 2) * d.weight ≤ (40 + 2) * 390000 := Nat.mul_le_mul_left _ (Nat.le_trans h.w hw)
  have e : sizeLine = 16777216 := sizeLine_eq
  omega
theorem Shw.le {W D W' D' : Nat} {d : PyData} (h : Shw W D d) (a : W ≤ W') (b : D ≤ D') : Shw W' D' d := ⟨h.s, Nat.le_trans h.w a, Nat.le_trans h.p b, h.h⟩
theorem Shw.non {W D : Nat} : Shw W D .none := ⟨rfl, Nat.zero_le _, Nat.zero_le _, rfl⟩
theorem Shw.bl {W D : Nat} (b : Bool) : Shw W D (.bool b) := ⟨rfl, Nat.zero_le _, Nat.zero_le _, rfl⟩
theorem log21 {i : Int} (h : -(10 ^ 21) ≤ i ∧ i ≤ 10 ^ 21) : i.natAbs.log2 < 70 := by
  by_cases h0 : i.natAbs = 0
  · rw [h0]
    decide
  · rw [Nat.log2_lt h0]
    omega
theorem Shw.int {D : Nat} {i : Int} (h : -(10 ^ 21) ≤ i ∧ i ≤ 10 ^ 21) : Shw 71 D (.int i) := by
  have hl := log21 h
  refine ⟨?_, ?_, Nat.zero_le _, ?_⟩
  · have h1 := int_text_length_le10 (a := i) (k := 22) (by decide) (by omega)
    have e : (Str.ofString (toString i)).length = (toString i).length := ofString_length _
    have h2 : (PyData.shown (.int i)).length ≤ 40 := by
      simp only [PyData.shown]
      exact Nat.le_trans (Nat.le_of_eq e) (by omega)
    simpa only [PyData.leavesShort, decide_eq_true_eq] using h2
  · simp only [PyData.weight]
    split <;> omega
  · simp only [PyData.showable, decide_eq_true_eq]
    omega
theorem Shw.str {D : Nat} {z : Str} (a : Asc z) : Shw z.length D (.str z) := by
  refine ⟨?_, Nat.le_refl _, Nat.zero_le _, rfl⟩
  simp only [PyData.leavesShort, List.all_eq_true, decide_eq_true_eq]
  exact fun c hc => Nat.lt_of_lt_of_le (a c hc) (by decide)
theorem Shw.list {W D : Nat} {ds : List PyData} (h : Shws W D ds) : Shw W (D + 1) (.list ds) := by
  refine ⟨?_, ?_, ?_, ?_⟩
  · simpa only [PyData.leavesShort] using h.s
  · simpa only [PyData.weight] using h.w
  · have := h.p
    simp only [PyData.depth]
    omega
  · simpa only [PyData.showable] using h.h
theorem Shw.tuple {W D : Nat} {ds : List PyData} (h : Shws W D ds) : Shw W (D + 1) (.tuple ds) := by
  refine ⟨?_, ?_, ?_, ?_⟩
  · simpa only [PyData.leavesShort] using h.s
  · simpa only [PyData.weight] using h.w
  · have := h.p
    simp only [PyData.depth]
    omega
  · simpa only [PyData.showable] using h.h
theorem Shw.dict1 {W1 W2 D : Nat} {k v : PyData} (a : Shw W1 D k) (b : Shw W2 D v) : Shw (W1 + W2 + 2) (D + 1) (.dict [(k, v)]) := by
  refine ⟨?_, ?_, ?_, ?_⟩
  · simp only [PyData.leavesShort, PyData.leavesShortKv, a.s, b.s, Bool.and_self]
  · have := a.w
    have := b.w
    simp only [PyData.weight, PyData.weightKv]
    omega
  · have := a.p
    have := b.p
    simp only [PyData.depth, PyData.depthKv]
    omega
  · simp only [PyData.showable, PyData.showableKv, a.h, b.h, Bool.and_self]
theorem Shws.nil {W D : Nat} : Shws W D [] := ⟨rfl, Nat.zero_le _, Nat.zero_le _, rfl⟩
theorem Shws.cons {W1 W2 D : Nat} {d : PyData} {ds : List PyData} (a : Shw W1 D d) (b : Shws W2 D ds) : Shws (W1 + 1 + W2) D (d :: ds) := by
  refine ⟨?_, ?_, ?_, ?_⟩
  · simp only [PyData.leavesShortAll, a.s, b.s, Bool.and_self]
  · have := a.w
    have := b.w
    simp only [PyData.weightAll]
    omega
  · have := a.p
    have := b.p
    simp only [PyData.depthAll]
    omega
  · simp only [PyData.showableAll, a.h, b.h, Bool.and_self]
theorem Shws.le {W D W' D' : Nat} {d : List PyData} (h : Shws W D d) (a : W ≤ W') (b : D ≤ D') : Shws W' D' d := ⟨h.s, Nat.le_trans h.w a, Nat.le_trans h.p b, h.h⟩
theorem Shws.app {W1 W2 D : Nat} : ∀ {ds es : List PyData}, Shws W1 D ds → Shws W2 D es → Shws (W1 + W2) D (ds ++ es)
  | [], es, a, b => b.le (by omega) (Nat.le_refl _)
  | d :: ds, es, a, b => by
    have h1 := a.s
    have h2 := a.w
    have h3 := a.p
    have h4 := a.h
    simp only [PyData.leavesShortAll, Bool.and_eq_true] at h1
    simp only [PyData.weightAll] at h2
    simp only [PyData.depthAll] at h3
    simp only [PyData.showableAll, Bool.and_eq_true] at h4
    have q : Shws (PyData.weightAll ds) D ds := ⟨h1.2, Nat.le_refl _, by omega, h4.2⟩
    have p : Shw (PyData.weight d) D d := ⟨h1.1, Nat.le_refl _, by omega, h4.1⟩
    have r := Shws.cons p (Shws.app q b)
    exact r.le (by omega) (Nat.le_refl _)
/-- repr of a list, a tuple, a dict whose text is short -/
theorem r_repr {H : Hp} {Q : VK} {a : Addr} {d : PyData} {W D : Nat} (h : DV H (.ref a) d) (s : Shw W D d) (hw : W ≤ 390000) (hd : D ≤ 60) (q : Q (.str d.shown) H) : rRepr [.ref a] H Q :=
  ⟨a, d, rfl, h, s.h, Nat.le_trans s.p hd, s.len hw, q⟩
end Nv

namespace PySem.W
/-- isinstance by an own class -/
theorem kit_ref {K : Frag} {C : Addr} {cls : Value} (hd : hasDictIn K C = true) (ht : typeIn K (.ref C) = some (.type "type")) (h : subIn K cls (.ref C) = some true) : kitOne K cls (.ref C) = some true := by
  have hc : (clsIn K C).isSome = true := by
    obtain ⟨cd, h, _⟩ := any_some hd
    rw [h]
    rfl
  unfold kitOne
  split
  · rfl
  · unfold kitCls
    simp [hc, ht, h]
end PySem.W

namespace Fr

def dig (c : Nat) : Bool := decide (48 ≤ c) && decide (c ≤ 57)
def num (l : List Nat) : Nat := l.foldl (fun a c => a * 10 + (c - 48)) 0
/-- where the frame ends that begins at s -/
def fend (z : List Nat) (s : Nat) : Option Nat :=
  if ((z.drop s).take 4).length = 4 ∧ ((z.drop s).take 4).all dig = true then
    if (z.drop (s + 4 + num ((z.drop s).take 4))).take 1 = [46] then some (s + 4 + num ((z.drop s).take 4) + 1) else none
  else none
def piece (z : List Nat) (a b : Nat) : List Nat := (z.drop a).take (b - a)
def rd (z : List Nat) : Nat → Nat → List (List Nat) → List (List Nat) × Nat
  | 0, s, acc => (acc, s)
  | n + 1, s, acc => match fend z s with
    | none => (acc, s)
    | some e => rd z n e (acc ++ [piece z (s + 4) (e - 1)])
def parse (z : List Nat) : List (List Nat) × Nat := rd z (z.length + 1) 0 []

theorem fend_bounds {z : List Nat} {s e : Nat} (h : fend z s = some e) : s + 5 ≤ e ∧ e ≤ z.length := by
  unfold fend at h
  split at h
  · split at h
    · rename_i h1 h2
      cases h
      have hl : ((z.drop (s + 4 + num ((z.drop s).take 4))).take 1).length = 1 := by rw [h2]; rfl
      rw [List.length_take, List.length_drop] at hl
      omega
    · cases h
  · cases h
theorem rd_more {z : List Nat} : ∀ (n s : Nat) (acc : List (List Nat)), z.length + 1 ≤ n + s → rd z n s acc = rd z (n + 1) s acc
  | 0, s, acc, h => by
    have : fend z s = none := by
      cases e : fend z s with
      | none => rfl
      | some x =>
        have := fend_bounds e
        omega
    simp [rd, this]
  | n + 1, s, acc, h => by
    rw [rd, rd]
    cases e : fend z s with
    | none => rfl
    | some x =>
      have := fend_bounds e
      exact rd_more n x _ (by omega)
/-- where a reading stands -/
def At (z : List Nat) (s : Nat) (acc : List (List Nat)) : Prop := s ≤ z.length ∧ rd z (z.length + 1) s acc = parse z
theorem At.zero (z : List Nat) : At z 0 [] := ⟨Nat.zero_le _, rfl⟩
theorem At.stop {z : List Nat} {s : Nat} {acc : List (List Nat)} (h : At z s acc) (e : fend z s = none) : parse z = (acc, s) := by
  rw [← h.2, rd, e]
theorem At.step {z : List Nat} {s e : Nat} {acc : List (List Nat)} (h : At z s acc) (he : fend z s = some e) : At z e (acc ++ [piece z (s + 4) (e - 1)]) := by
  have hb := fend_bounds he
  refine ⟨hb.2, ?_⟩
  rw [← h.2]
  have e1 : rd z (z.length + 1) s acc = rd z z.length e (acc ++ [piece z (s + 4) (e - 1)]) := by
    simp only [rd, he]
  rw [e1]
  exact (rd_more z.length e _ (by omega)).symm

/-! rows of frames -/
def pad (n : Nat) : List Nat := [48 + n / 1000 % 10, 48 + n / 100 % 10, 48 + n / 10 % 10, 48 + n % 10]
def frm (t : List Nat) : List Nat := pad t.length ++ t ++ [46]
theorem frm_len (t : List Nat) : (frm t).length = t.length + 5 := by
  simp [frm, pad]
theorem pad_num {n : Nat} (h : n < 10000) : num (pad n) = n := by
  simp only [num, pad, List.foldl_cons, List.foldl_nil]
  omega
theorem pad_dig (n : Nat) : (pad n).all dig = true := by
  simp only [pad, List.all_cons, List.all_nil, dig, Bool.and_true, Bool.and_eq_true, decide_eq_true_eq]
  omega
def row (ts : List (List Nat)) : List Nat := (ts.map frm).flatten
def total (ts : List (List Nat)) : Nat := (ts.map fun t => t.length + 5).sum
theorem row_len (ts : List (List Nat)) : (row ts).length = total ts := by
  induction ts with
  | nil => rfl
  | cons t r ih =>
    simp only [row, total, List.map_cons, List.flatten_cons, List.length_append, List.sum_cons, frm_len] at *
    omega
/-- how many frames end within the first c signs -/
def cnt : List (List Nat) → Nat → Nat
  | [], _ => 0
  | t :: r, c => if t.length + 5 ≤ c then 1 + cnt r (c - (t.length + 5)) else 0
theorem cnt_le : ∀ (ts : List (List Nat)) (c : Nat), cnt ts c ≤ ts.length
  | [], c => Nat.le_refl _
  | t :: r, c => by
    have := cnt_le r (c - (t.length + 5))
    simp only [cnt, List.length_cons]
    split <;> omega
theorem drop_app {α : Type} (l m : List α) : (l ++ m).drop l.length = m := by simp
theorem fend_whole {pre t rest : List Nat} (ht : t.length < 10000) : fend (pre ++ (frm t ++ rest)) pre.length = some (pre.length + (t.length + 5)) := by
  have e1 : ((pre ++ (frm t ++ rest)).drop pre.length).take 4 = pad t.length := by
    rw [drop_app]
    simp [frm, pad]
  have hp : (pad t.length).length = 4 := rfl
  unfold fend
  rw [e1, pad_num ht, if_pos ⟨hp, pad_dig _⟩]
  have e2 : (pre ++ (frm t ++ rest)).drop (pre.length + 4 + t.length) = 46 :: rest := by
    have : pre ++ (frm t ++ rest) = (pre ++ pad t.length ++ t) ++ (46 :: rest) := by simp [frm]
    rw [this]
    have hl : pre.length + 4 + t.length = (pre ++ pad t.length ++ t).length := by simp [hp]; omega
    rw [hl, drop_app]
  rw [e2]
  simp
  omega
theorem piece_whole {pre t rest : List Nat} : piece (pre ++ (frm t ++ rest)) (pre.length + 4) (pre.length + (t.length + 5) - 1) = t := by
  have : pre ++ (frm t ++ rest) = (pre ++ pad t.length) ++ (t ++ (46 :: rest)) := by simp [frm]
  unfold piece
  rw [this]
  have hl : pre.length + 4 = (pre ++ pad t.length).length := by simp [pad]
  have h2 : pre.length + (t.length + 5) - 1 - (pre.length + 4) = t.length := by omega
  rw [h2, hl, drop_app]
  simp
theorem fend_cut {pre t rest : List Nat} {c : Nat} (hc : c < t.length + 5) (ht : t.length < 10000) : fend (pre ++ (frm t ++ rest).take c) pre.length = none := by
  cases e : fend (pre ++ (frm t ++ rest).take c) pre.length with
  | none => rfl
  | some x =>
    exfalso
    have hb := fend_bounds e
    have hl : ((frm t ++ rest).take c).length ≤ c := by rw [List.length_take]; omega
    rw [List.length_append] at hb
    have h5 : 5 ≤ c := by omega
    have e1 : ((pre ++ (frm t ++ rest).take c).drop pre.length).take 4 = pad t.length := by
      rw [drop_app, List.take_take]
      have : min 4 c = 4 := by omega
      rw [this]
      simp [frm, pad]
    unfold fend at e
    rw [e1, pad_num ht, if_pos ⟨rfl, pad_dig _⟩] at e
    split at e
    · cases e
      omega
    · cases e
theorem fend_end {pre : List Nat} : fend pre pre.length = none := by
  cases e : fend pre pre.length with
  | none => rfl
  | some x =>
    have := fend_bounds e
    omega
theorem rd_row : ∀ (ts : List (List Nat)) (pre : List Nat) (acc : List (List Nat)) (c n : Nat), (∀ t ∈ ts, t.length < 10000) → ts.length < n →
    rd (pre ++ (row ts).take c) n pre.length acc = (acc ++ ts.take (cnt ts c), pre.length + total (ts.take (cnt ts c)))
  | [], pre, acc, c, n, _, hn => by
    obtain ⟨m, rfl⟩ : ∃ m, n = m + 1 := ⟨n - 1, by simp at hn; omega⟩
    simp only [row, List.map_nil, List.flatten_nil, List.take_nil, List.append_nil, cnt, total, List.sum_nil, Nat.add_zero]
    rw [rd, fend_end]
  | t :: r, pre, acc, c, n, hb, hn => by
    obtain ⟨m, rfl⟩ : ∃ m, n = m + 1 := ⟨n - 1, by simp at hn; omega⟩
    have ht := hb t (by simp)
    have e0 : row (t :: r) = frm t ++ row r := by simp [row]
    rw [e0, cnt]
    by_cases hc : t.length + 5 ≤ c
    · rw [if_pos hc]
      have e1 : (frm t ++ row r).take c = frm t ++ (row r).take (c - (t.length + 5)) := by
        rw [List.take_append, frm_len, List.take_of_length_le (by rw [frm_len]; omega)]
      rw [e1, rd, fend_whole ht]
      simp only
      rw [piece_whole]
      have ih := rd_row r (pre ++ frm t) (acc ++ [t]) (c - (t.length + 5)) m (fun t h => hb t (by simp [h])) (by simp at hn; omega)
      rw [List.length_append, frm_len, List.append_assoc] at ih
      rw [ih]
      have : 1 + cnt r (c - (t.length + 5)) = cnt r (c - (t.length + 5)) + 1 := by omega
      rw [this, List.take_succ_cons]
      simp [total]
      omega
    · rw [if_neg hc, rd, fend_cut (by omega) ht]
      simp [total]
theorem total_ge (ts : List (List Nat)) : 5 * ts.length ≤ total ts := by
  induction ts with
  | nil => exact Nat.le_refl _
  | cons t r ih =>
    simp only [total, List.map_cons, List.sum_cons, List.length_cons] at *
    omega
theorem rd_any {z : List Nat} (acc : List (List Nat)) : ∀ (k n s : Nat), z.length + 1 ≤ n + s → rd z (n + k) s acc = rd z n s acc
  | 0, n, s, h => rfl
  | k + 1, n, s, h => by
    rw [← Nat.add_assoc, ← rd_more (n + k) s acc (by omega), rd_any acc k n s h]
/-- what a row of frames that was cut is read as -/
theorem parse_row {ts : List (List Nat)} {c : Nat} (hb : ∀ t ∈ ts, t.length < 10000) : parse ((row ts).take c) = (ts.take (cnt ts c), total (ts.take (cnt ts c))) := by
  have h := rd_row ts [] [] c (((row ts).take c).length + 1 + ts.length) hb (by omega)
  simp only [List.nil_append, List.length_nil, Nat.zero_add] at h
  unfold parse
  rw [← h]
  exact (rd_any _ _ _ _ (by omega)).symm
theorem cnt_all : ∀ (ts : List (List Nat)) (c : Nat), total ts ≤ c → cnt ts c = ts.length
  | [], c, _ => rfl
  | t :: r, c, h => by
    have h' : t.length + 5 + total r ≤ c := by simpa [total] using h
    rw [cnt, if_pos (by omega), cnt_all r _ (by omega), List.length_cons]
    omega
theorem parse_all {ts : List (List Nat)} (hb : ∀ t ∈ ts, t.length < 10000) : parse (row ts) = (ts, total ts) := by
  have h := parse_row (c := (row ts).length) hb
  rw [List.take_length, cnt_all ts _ (by rw [row_len]; exact Nat.le_refl _), List.take_length] at h
  exact h
/-! the ends of frames -/
def ends : List (List Nat) → Nat → List Nat
  | [], s => [s]
  | t :: r, s => s :: ends r (s + (t.length + 5))
theorem ends_len : ∀ (ts : List (List Nat)) (s : Nat), (ends ts s).length = ts.length + 1
  | [], s => rfl
  | t :: r, s => by simp [ends, ends_len r]
theorem ends_ge : ∀ (ts : List (List Nat)) (s e : Nat), e ∈ ends ts s → s ≤ e ∧ e ≤ s + total ts
  | [], s, e, h => by
    have : e = s := by simpa [ends] using h
    simp [total, this]
  | t :: r, s, e, h => by
    have e0 : total (t :: r) = t.length + 5 + total r := by simp [total]
    rcases List.mem_cons.mp h with h | h
    · omega
    · have := ends_ge r _ e h
      omega
theorem ends_cnt : ∀ (ts : List (List Nat)) (s c : Nat), ((ends ts s).filter fun e => decide (e ≤ s + c)).length = cnt ts c + 1
  | [], s, c => by simp [ends, cnt]
  | t :: r, s, c => by
    have h0 : decide (s ≤ s + c) = true := by simp
    rw [ends, List.filter_cons, h0, if_pos rfl, List.length_cons, cnt]
    by_cases hc : t.length + 5 ≤ c
    · rw [if_pos hc]
      have ih := ends_cnt r (s + (t.length + 5)) (c - (t.length + 5))
      have : s + (t.length + 5) + (c - (t.length + 5)) = s + c := by omega
      rw [this] at ih
      omega
    · rw [if_neg hc]
      have : ((ends r (s + (t.length + 5))).filter fun e => decide (e ≤ s + c)) = [] := by
        rw [List.filter_eq_nil_iff]
        intro e he
        have := ends_ge r _ e he
        simp
        omega
      rw [this]
      rfl
theorem ends_at : ∀ (ts : List (List Nat)) (s k : Nat), k ≤ ts.length → (ends ts s)[k]? = some (s + total (ts.take k))
  | [], s, k, h => by
    have : k = 0 := by simpa using h
    subst this
    simp [ends, total]
  | t :: r, s, 0, h => by simp [ends, total]
  | t :: r, s, k + 1, h => by
    have ih := ends_at r (s + (t.length + 5)) k (by simpa using h)
    simp only [ends, List.getElem?_cons_succ, ih, List.take_succ_cons, total, List.map_cons, List.sum_cons]
    simp only [total] at ih
    congr 1
    omega
theorem ends_snoc : ∀ (ts : List (List Nat)) (t : List Nat) (s : Nat), ends (ts ++ [t]) s = ends ts s ++ [s + total ts + (t.length + 5)]
  | [], t, s => by simp [ends, total]
  | u :: r, t, s => by
    simp only [List.cons_append, ends, ends_snoc r, total, List.map_cons, List.sum_cons]
    congr 3
    omega
theorem row_rep (t : List Nat) (n : Nat) : row (List.replicate n t) = (List.replicate n (frm t)).flatten := by
  simp [row]
theorem total_rep (t : List Nat) (n : Nat) : total (List.replicate n t) = n * (t.length + 5) := by
  simp [total]
theorem cnt_rep (t : List Nat) : ∀ (n c : Nat), c ≤ n * (t.length + 5) → cnt (List.replicate n t) c = c / (t.length + 5)
  | 0, c, h => by
    have : c = 0 := by omega
    subst this
    simp [cnt]
  | n + 1, c, h => by
    rw [List.replicate_succ, cnt]
    by_cases hc : t.length + 5 ≤ c
    · rw [if_pos hc, cnt_rep t n _ (by rw [Nat.succ_mul] at h; omega)]
      rw [Nat.div_eq c (t.length + 5), if_pos ⟨by omega, hc⟩]
      omega
    · rw [if_neg hc, Nat.div_eq_of_lt (by omega)]
theorem rd_inv {z : List Nat} : ∀ (n s : Nat) (acc : List (List Nat)), (∀ t ∈ acc, ∀ c ∈ t, c ∈ z) → total acc ≤ s → s ≤ z.length →
    (∀ t ∈ (rd z n s acc).1, ∀ c ∈ t, c ∈ z) ∧ total (rd z n s acc).1 ≤ (rd z n s acc).2 ∧ (rd z n s acc).2 ≤ z.length
  | 0, s, acc, h1, h2, h3 => ⟨h1, h2, h3⟩
  | n + 1, s, acc, h1, h2, h3 => by
    rw [rd]
    cases e : fend z s with
    | none => exact ⟨h1, h2, h3⟩
    | some x =>
      have hb := fend_bounds e
      refine rd_inv n x _ ?_ ?_ hb.2
      · intro t ht c hc
        rcases List.mem_append.mp ht with ht | ht
        · exact h1 t ht c hc
        · have : t = piece z (s + 4) (x - 1) := by simpa using ht
          rw [this] at hc
          exact List.mem_of_mem_drop (List.mem_of_mem_take hc)
      · have hl : (piece z (s + 4) (x - 1)).length ≤ x - 1 - (s + 4) := by
          unfold piece
          rw [List.length_take]
          omega
        have : total (acc ++ [piece z (s + 4) (x - 1)]) = total acc + ((piece z (s + 4) (x - 1)).length + 5) := by simp [total]
        rw [this]
        omega
theorem parse_inv (z : List Nat) : (∀ t ∈ (parse z).1, ∀ c ∈ t, c ∈ z) ∧ total (parse z).1 ≤ (parse z).2 ∧ (parse z).2 ≤ z.length :=
  rd_inv _ 0 [] (by simp) (Nat.le_refl _) (Nat.zero_le _)
theorem ends_split (ts : List (List Nat)) (s : Nat) : ∃ i, ends ts s = i ++ [s + total ts] := by
  induction ts generalizing s with
  | nil => exact ⟨[], by simp [ends, total]⟩
  | cons t r ih =>
    obtain ⟨i, hi⟩ := ih (s + (t.length + 5))
    refine ⟨s :: i, ?_⟩
    rw [ends, hi, List.cons_append]
    simp only [total, List.map_cons, List.sum_cons]
    congr 3
    omega
end Fr

namespace Nv
open PySem PySem.Spec PyProof.Rows L2

/-! texts and their signs -/
def sg (z : Str) : List Nat := z.cps.toList
def tx (l : List Nat) : Str := ⟨l.toArray⟩
theorem sg_tx (l : List Nat) : sg (tx l) = l := by simp [sg, tx]
theorem tx_sg (z : Str) : tx (sg z) = z := by
  apply Str.ext'
  simp [sg, tx]
theorem sg_len (z : Str) : (sg z).length = z.length := by simp [sg, Str.length]
theorem tx_len (l : List Nat) : (tx l).length = l.length := by simp [tx, Str.length]
theorem sg_inj {x y : Str} (h : sg x = sg y) : x = y := by rw [← tx_sg x, ← tx_sg y, h]
theorem sg_app (x y : Str) : sg (x ++ y) = sg x ++ sg y := by
  show (x.cps ++ y.cps).toList = _
  simp [sg]
theorem tx_app (x y : List Nat) : tx (x ++ y) = tx x ++ tx y := sg_inj (by rw [sg_app, sg_tx, sg_tx, sg_tx])
theorem map_tx_sg (l : List Str) : (l.map sg).map tx = l := by
  rw [List.map_map]
  conv => rhs; rw [← List.map_id l]
  apply List.map_congr_left
  intro z _
  exact tx_sg z
theorem cut_nat (z : Str) (a b : Nat) : sg (cutS z (some (a : Int)) (some (b : Int))) = ((sg z).drop a).take (b - a) := by
  show ((((z.cps.toList.drop (HT.sIx z.length 0 (some (a : Int)))).take (HT.sIx z.length z.length (some (b : Int)) - HT.sIx z.length 0 (some (a : Int)))).toArray).toList) = _
  rw [HT.sIx_nat, HT.sIx_nat]
  simp only [sg]
  have hl : z.cps.toList.length = z.length := by simp [Str.length]
  by_cases h : a ≤ z.length
  · rw [Nat.min_eq_left h]
    by_cases h2 : b ≤ z.length
    · rw [Nat.min_eq_left h2]
    · rw [Nat.min_eq_right (by omega), List.take_of_length_le (by rw [List.length_drop, hl]; exact Nat.le_refl _), List.take_of_length_le (by rw [List.length_drop, hl]; omega)]
  · rw [Nat.min_eq_right (show z.length ≤ a by omega), List.drop_of_length_le (by rw [hl]; exact Nat.le_refl _), List.drop_of_length_le (by rw [hl]; omega)]
    simp
theorem cut_to (z : Str) (b : Nat) : sg (cutS z none (some (b : Int))) = (sg z).take b := by
  show ((((z.cps.toList.drop (HT.sIx z.length 0 none)).take (HT.sIx z.length z.length (some (b : Int)) - HT.sIx z.length 0 none)).toArray).toList) = _
  rw [HT.sIx_nat, HT.sIx_none]
  simp only [sg, List.drop_zero, Nat.sub_zero]
  have hl : z.cps.toList.length = z.length := by simp [Str.length]
  by_cases h2 : b ≤ z.length
  · rw [Nat.min_eq_left h2]
  · rw [Nat.min_eq_right (by omega), List.take_of_length_le (by rw [hl]; exact Nat.le_refl _), List.take_of_length_le (by rw [hl]; omega)]
theorem cutV_to (xs : List V) (b : Nat) : cutV xs none (some (b : Int)) = xs.take b := by
  unfold cutV
  rw [HT.sIx_nat, HT.sIx_none]
  simp only [List.drop_zero, Nat.sub_zero]
  by_cases h2 : b ≤ xs.length
  · rw [Nat.min_eq_left h2]
  · rw [Nat.min_eq_right (by omega), List.take_of_length_le (Nat.le_refl _), List.take_of_length_le (by omega)]
/-- a text of the space to the tilde -/
def pc (c : Nat) : Bool := decide (32 ≤ c) && decide (c ≤ 126)
def Pl (z : Str) : Prop := ∀ c ∈ sg z, pc c = true
theorem pc_lt {c : Nat} (h : pc c = true) : 32 ≤ c ∧ c ≤ 126 := by simpa [pc] using h
theorem Pl.asc {z : Str} (h : Pl z) : Asc z := fun c hc => by have := pc_lt (h c hc); omega
theorem Pl.app {x y : Str} (a : Pl x) (b : Pl y) : Pl (x ++ y) := fun c h => by
  rw [sg_app] at h
  exact (List.mem_append.mp h).elim (a c) (b c)
theorem Pl.cut {z : Str} (a : Pl z) (lo hi : Option Int) : Pl (cutS z lo hi) := fun c h => a c (cutS_sub h)
theorem Pl.one {c : Nat} (h : pc c = true) : Pl ⟨#[c]⟩ := fun d hd => by
  have : d = c := by simpa [sg] using hd
  rw [this]
  exact h
theorem Pl.empty : Pl Str.empty := fun c h => by simp [sg, Str.empty] at h
theorem Pl.mul {z : Str} (a : Pl z) (n : Int) : Pl (Txt.mul z n) := fun c h => by
  unfold Txt.mul at h
  split at h
  · exact Pl.empty c h
  · split at h
    · exact a c h
    · rcases foldl_mem _ _ h with h | h
      · simp at h
      · exact a c h
theorem Pl.tx {l : List Nat} (h : ∀ c ∈ l, pc c = true) : Pl (tx l) := fun c hc => h c (by simpa [sg_tx] using hc)
theorem pl_of {z : Str} (h : (sg z).all pc = true) : Pl z := fun c hc => List.all_eq_true.mp h c hc
theorem prnt : ∀ c, c < 128 → Unicode.isPrintable c = pc c := by decide +kernel
def okS (z : Str) : Bool := Txt.isascii z && Txt.isprintable z
theorem okS_all (z : Str) : okS z = (sg z).all pc := by
  unfold okS Txt.isascii Txt.isprintable sg
  rw [← Array.all_toList, ← Array.all_toList]
  generalize z.cps.toList = l
  induction l with
  | nil => rfl
  | cons c r ih =>
    simp only [List.all_cons]
    rw [← ih]
    by_cases h : c < 128
    · simp only [h, decide_true, Bool.true_and]
      rw [prnt c h]
      cases pc c <;> cases (r.all fun x => decide (x < 128)) <;> simp
    · have hp : pc c = false := by
        unfold pc
        simp
        omega
      simp [h, hp]
theorem Pl.ok {z : Str} (h : Pl z) : okS z = true := by
  rw [okS_all]
  exact List.all_eq_true.mpr h
theorem okS_pl {z : Str} (h : okS z = true) : Pl z := by
  rw [okS_all] at h
  exact pl_of h
theorem digC : ∀ c, c < 128 → Unicode.isDigit c = Fr.dig c := by decide +kernel
theorem isdigit_pl {z : Str} (h : Asc z) : Txt.isdigit z = (decide (0 < z.length) && (sg z).all Fr.dig) := by
  unfold Txt.isdigit
  rw [← Array.all_toList]
  congr 1
  have : ∀ l : List Nat, (∀ c ∈ l, c < 128) → l.all Unicode.isDigit = l.all Fr.dig := by
    intro l hl
    induction l with
    | nil => rfl
    | cons c r ih => simp only [List.all_cons, digC c (hl c (by simp)), ih fun c hc => hl c (by simp [hc])]
  exact this _ h
theorem int_dig {z : Str} (h : (sg z).all Fr.dig = true) (h1 : z.length ≠ 0) (h2 : z.length ≤ 640) : intText? z = some ((Fr.num (sg z) : Nat) : Int) := by
  have e := intText_digits (x := z) (fun c hc => (by
    have := List.all_eq_true.mp h c hc
    simpa [Fr.dig] using this)) (fun e => h1 (by rw [← sg_len]; show z.cps.toList.length = 0; rw [e]; rfl)) (by omega)
  exact e
/-! frames -/
theorem str_nat (n : Nat) : sg (Str.ofString (toString (n : Int))) = (Nat.toDigits 10 n).map Char.toNat := by
  have e := text_ofNat n
  rw [show (toString ((n : Nat) : Int)) = toString (Int.ofNat n) from rfl, e]
  exact sg_tx _
theorem pad_of {n : Nat} {l : List Nat} (h4 : l.length = 4) (hd : PySem.NumText.AllDigits l) (hv : PySem.NumText.digitsVal l = n) : l = Fr.pad n := by
  match l, h4 with
  | [a, b, c, d], _ =>
    have ha := hd a (by simp)
    have hb := hd b (by simp)
    have hc := hd c (by simp)
    have he := hd d (by simp)
    simp only [PySem.NumText.digitsVal, List.foldl_cons, List.foldl_nil] at hv
    simp only [Fr.pad, List.cons.injEq, and_true]
    omega
theorem val_zeros (k : Nat) (l : List Nat) : PySem.NumText.digitsVal (List.replicate k 48 ++ l) = PySem.NumText.digitsVal l := by
  induction k with
  | zero => rfl
  | succ k ih =>
    rw [List.replicate_succ, List.cons_append]
    show (List.replicate k 48 ++ l).foldl (fun acc c => acc * 10 + (c - 48)) (0 * 10 + (48 - 48)) = _
    exact ih
theorem four_pad (n : Nat) (h : n < 10000) : List.replicate (4 - (Nat.toDigits 10 n).length) 48 ++ (Nat.toDigits 10 n).map Char.toNat = Fr.pad n := by
  have hl := digits10_le (k := 4) (n := n) (by decide) (by simpa using h)
  have e : (Nat.toDigits 10 n).map Char.toNat = TL.numL n := by
    rw [← TL.tl_num n]
    exact (str_nat n).symm
  refine pad_of ?_ ?_ ?_
  · simp
    omega
  · intro c hc
    rcases List.mem_append.mp hc with hc | hc
    · have := (List.mem_replicate.mp hc).2
      omega
    · rw [e] at hc
      exact TL.numL_digits n c hc
  · rw [val_zeros, e]
    exact TL.numL_val n
theorem four_sg {i : Int} (h0 : 0 ≤ i) (h : i.natAbs < 10000) : sg (four i) = Fr.pad i.natAbs := by
  have e : sg (four i) = List.replicate (4 - (Nat.toDigits 10 i.natAbs).length) 48 ++ (Nat.toDigits 10 i.natAbs).map Char.toNat := sg_tx _
  rw [e]
  exact four_pad _ h
theorem foldl_rep (x : Array Nat) : ∀ (n : Nat) (acc : Array Nat), ((List.replicate n x).foldl (· ++ ·) acc).toList = acc.toList ++ (List.replicate n x.toList).flatten
  | 0, acc => by simp
  | n + 1, acc => by
    rw [List.replicate_succ, List.foldl_cons, foldl_rep x n, List.replicate_succ, List.flatten_cons]
    simp
theorem sg_mul (z : Str) (n : Nat) : sg (Txt.mul z (n : Int)) = (List.replicate n (sg z)).flatten := by
  unfold Txt.mul
  split
  · rename_i h
    have : n = 0 := by omega
    subst this
    rfl
  · split
    · rename_i h1 h2
      simp only [Bool.or_eq_true, beq_iff_eq] at h2
      rcases h2 with h2 | h2
      · have : n = 1 := by omega
        subst this
        simp
      · have : sg z = [] := by
          have := sg_len z
          rw [h2] at this
          exact List.length_eq_zero_iff.mp this
        rw [this]
        simp
    · show ((List.replicate (n : Int).toNat z.cps).foldl (· ++ ·) #[]).toList = _
      rw [foldl_rep]
      simp [sg]
end Nv

namespace Nv
open PySem L2

/-! data that are compared and shown -/
structure Ft (W D : Nat) (d : PyData) : Prop where
  c : d.canLay0 = true
  s : Shw W D d
structure Fts (W D : Nat) (ds : List PyData) : Prop where
  c : PyData.canLayAll0 ds = true
  s : Shws W D ds
theorem Ft.int {D : Nat} {i : Int} (h : -(10 ^ 21) ≤ i ∧ i ≤ 10 ^ 21) : Ft 71 D (.int i) := ⟨rfl, Shw.int h⟩
theorem Ft.str {D : Nat} {z : Str} (a : Asc z) : Ft z.length D (.str z) := by
  refine ⟨?_, Shw.str a⟩
  have h : z.cps.all (fun c => decide (c < 0x110000)) = true := by
    rw [← Array.all_toList]
    simp only [List.all_eq_true, decide_eq_true_eq]
    exact fun c hc => Nat.lt_of_lt_of_le (a c hc) (by decide)
  simp only [PyData.canLay0, PyData.strOk, h]
theorem Ft.non {W D : Nat} : Ft W D .none := ⟨rfl, Shw.non⟩
theorem Ft.bl {W D : Nat} (b : Bool) : Ft W D (.bool b) := ⟨rfl, Shw.bl b⟩
theorem Ft.le {W D W' D' : Nat} {d : PyData} (h : Ft W D d) (a : W ≤ W') (b : D ≤ D') : Ft W' D' d := ⟨h.c, h.s.le a b⟩
theorem Ft.list {W D : Nat} {ds : List PyData} (h : Fts W D ds) : Ft W (D + 1) (.list ds) := ⟨by simpa only [PyData.canLay0] using h.c, Shw.list h.s⟩
theorem Ft.tuple {W D : Nat} {ds : List PyData} (h : Fts W D ds) : Ft W (D + 1) (.tuple ds) := ⟨by simpa only [PyData.canLay0] using h.c, Shw.tuple h.s⟩
theorem Fts.nil {W D : Nat} : Fts W D [] := ⟨rfl, Shws.nil⟩
theorem Fts.cons {W1 W2 D : Nat} {d : PyData} {ds : List PyData} (a : Ft W1 D d) (b : Fts W2 D ds) : Fts (W1 + 1 + W2) D (d :: ds) := ⟨by simp only [PyData.canLayAll0, a.c, b.c, Bool.and_self], Shws.cons a.s b.s⟩
theorem Fts.le {W D W' D' : Nat} {d : List PyData} (h : Fts W D d) (a : W ≤ W') (b : D ≤ D') : Fts W' D' d := ⟨h.c, h.s.le a b⟩
def strsD (ts : List (List Nat)) : List PyData := ts.map fun t => .str (tx t)
def wt (ts : List (List Nat)) : Nat := (ts.map fun t => t.length + 1).sum
theorem Fts.strs {D : Nat} : ∀ {ts : List (List Nat)}, (∀ t ∈ ts, ∀ c ∈ t, c < 128) → Fts (wt ts) D (strsD ts)
  | [], _ => Fts.nil
  | t :: r, h => by
    have a : Asc (tx t) := fun c hc => h t (by simp) c (by rw [show (tx t).cps.toList = t from sg_tx t] at hc; exact hc)
    have q := Fts.cons (Ft.str (D := D) a) (Fts.strs (D := D) (ts := r) fun t ht => h t (by simp [ht]))
    rw [tx_len] at q
    exact q.le (by simp [wt]) (Nat.le_refl _)
theorem dp_strsD {K : PySem.W.Frag} {H : Hp} : ∀ ts : List (List Nat), DpAll K H (ts.map fun t => V.str (tx t)) (strsD ts)
  | [] => .nil
  | t :: r => .cons (.str _) (dp_strsD r)
/-- v == w and repr(v) == repr(w), both the data d -/
def spEqual (K : PySem.W.Frag) : Sp := fun vs H Q _ => ∃ v u d W D, vs = [v, u] ∧ Dp K H v d ∧ Dp K H u d ∧ ((∃ z, v = .str z) ∨ ∃ a, v = .ref a) ∧ ((∃ z, u = .str z) ∨ ∃ a, u = .ref a) ∧ Ft W D d ∧ W ≤ 390000 ∧ D ≤ 50 ∧ Q (.bl true) H
theorem r_eqD {K : PySem.W.Frag} {H : Hp} {Q : VK} {v u : V} {d : PyData} {W D : Nat} (a : Dp K H v d) (b : Dp K H u d) (f : Ft W D d) (h : D ≤ 60) (q : Q (.bl true) H) : rEqD K v u H Q := by
  have sh : SeqAt.shaped d = true := by
    unfold SeqAt.shaped
    have := f.s.p
    rw [f.c, Bool.true_and, decide_eq_true_eq]
    omega
  have e := SeqAt.eqv_refl d f.c
  exact ⟨d, d, a, b, sh, sh, by rw [e]; exact q⟩
theorem r_reprD {K : PySem.W.Frag} {H : Hp} {Q : VK} {v : V} {d : PyData} {W D : Nat} (a : Dp K H v d) (hv : (∃ z, v = .str z) ∨ ∃ a, v = .ref a) (f : Ft W D d) (hw : W ≤ 390000) (h : D ≤ 60) (q : Q (.str d.shown) H) : rReprD K [v] H Q :=
  ⟨v, d, rfl, a, hv, PyData.hasDict_of_canLay d f.c, f.s.h, Nat.le_trans f.s.p h, f.s.len hw, q⟩
/-- data that are compared and shown, however large their numbers -/
structure Fx (d : PyData) : Prop where
  c : d.canLay0 = true
  p : d.depth ≤ 50
  h : d.showable = true
  l : d.shown.length ≤ sizeLine
theorem Ft.fx {W D : Nat} {d : PyData} (f : Ft W D d) (hw : W ≤ 390000) (hd : D ≤ 50) : Fx d := ⟨f.c, Nat.le_trans f.s.p hd, f.s.h, f.s.len hw⟩
def spEq (K : PySem.W.Frag) : Sp := fun vs H Q _ => ∃ v u d, vs = [v, u] ∧ Dp K H v d ∧ Dp K H u d ∧ ((∃ z, v = .str z) ∨ ∃ a, v = .ref a) ∧ ((∃ z, u = .str z) ∨ ∃ a, u = .ref a) ∧ Fx d ∧ Q (.bl true) H
theorem spEq.of {K : PySem.W.Frag} {vs : List V} {H : Hp} {Q : VK} {E : XK} (h : spEqual K vs H Q E) : spEq K vs H Q E := by
  obtain ⟨v, u, d, W, D, rfl, a, b, hv, hu, f, hw, hd, k⟩ := h
  exact ⟨v, u, d, rfl, a, b, hv, hu, f.fx hw hd, k⟩
theorem r_eqF {K : PySem.W.Frag} {H : Hp} {Q : VK} {v u : V} {d : PyData} (a : Dp K H v d) (b : Dp K H u d) (f : Fx d) (q : Q (.bl true) H) : rEqD K v u H Q := by
  have sh : SeqAt.shaped d = true := by
    unfold SeqAt.shaped
    have := f.p
    rw [f.c, Bool.true_and, decide_eq_true_eq]
    omega
  have e := SeqAt.eqv_refl d f.c
  exact ⟨d, d, a, b, sh, sh, by rw [e]; exact q⟩
theorem r_reprF {K : PySem.W.Frag} {H : Hp} {Q : VK} {v : V} {d : PyData} (a : Dp K H v d) (hv : (∃ z, v = .str z) ∨ ∃ a, v = .ref a) (f : Fx d) (q : Q (.str d.shown) H) : rReprD K [v] H Q :=
  ⟨v, d, rfl, a, hv, PyData.hasDict_of_canLay d f.c, f.h, Nat.le_trans f.p (by decide), f.l, q⟩
end Nv

namespace Nv
open PySem PySem.Spec PyProof.Rows L2

/-! own errors that are held as values -/
def ExV (H : Hp) (a C : Addr) : Prop := ∃ (d : Addr) (fs : List (Str × V)), H a = some (exo a C (some d)) ∧ H d = some (exd d fs)
theorem ExV.same {H H' : Hp} {a C : Addr} (h : ExV H a C) (s : Same H H') : ExV H' a C := by
  obtain ⟨d, fs, h1, h2⟩ := h
  exact ⟨d, fs, s _ _ h1, s _ _ h2⟩
def rIsiE (K : PySem.W.Frag) : List V → Hp → VK → Prop := fun xs H Q => ∃ (a C : Addr) (T : String) (b : Bool), xs = [.ref a, .ty T] ∧ ExV H a C ∧ PySem.W.NvCls K C ∧ PySem.W.kitOne K (.ref C) (.type T) = some b ∧ Q (.bl b) H
def rIsiA (K : PySem.W.Frag) : List V → Hp → VK → Prop := fun xs H Q => rIsi K xs H Q ∨ rIsiE K xs H Q
theorem call_isiA {X : Cx} : CallR X (.builtin "isinstance") (rIsiA X.K) := by
  intro pins s σ H xs us Q I r h
  rcases h with h | h
  · exact call_isi pins s σ H xs us Q I r h
  · obtain ⟨a, C, T, b, rfl, ⟨d, fs, h1, h2⟩, c, e, q⟩ := h
    obtain ⟨u1, u2, rfl, r1, r2⟩ := vals2 r
    cases (show u1 = Value.ref a from r1)
    cases (show u2 = Value.type T from r2)
    obtain ⟨t1, ho⟩ := exo_at I.hok h1
    obtain ⟨mA, ⟨od, es, ep, hod, _⟩, _⟩ := exd_at I.hok h2
    have J : ∃ od, PySem.W.InstAt s.heap a ({ cls := .ref C, dict := some d, data := .fields #[.ref t1, .none, .none, .none, .bool false, .none] } : Obj) C od :=
      ⟨some od, ho, rfl, rfl, hod⟩
    exact PySem.W.kia_one (PySem.W.nv_kit c) I.kIn J e (fun z => nomatch z) fun tk => ⟨.bl b, H, I.tok tk, rfl, q⟩

section
variable {X : Cx} {e : Expr} {te : TE} {p pos : Pos} {x f : Str} {C fI : Addr} {fd : FuncData}
/-- C(e) as a value -/
def tErrV (C : Addr) (f : Str) (te : TE) : TE := fun σ H Q => te σ H fun v H1 => ∀ a d, H1 a = none → H1 d = none → d ≠ a → Q (.ref a) (upd (upd H1 d (exd d [(f, v)])) a (exo a C (some d)))
theorem pe_errV (T : ErrT X.K X.mg x f C fI) (F1 : FnOk X.prog X.w X.K X.mg X.base CX0 1 fI fd ["self", f] (spXI X.K f)) (hb : Binds X.K fd ["self", f] []) (hr : Room 2 X.A) (ha : PE X e te) (hg : Gl X x := by rfl)
    (hdb : (x == ("__debug__" : Str)) = false := by decide) (he : starEach (e :: []) X.env = (false, eval e X.env) :: starEach [] X.env := by rfl) (hpl : (backTo pos (starEach [] X.env)).any (·.1) = false := by rfl) :
    PE X (.Call (.Name x p) (e :: []) [] pos) (tErrV C f te) := by
  constructor
  intro pins s σ H Q I h
  obtain ⟨nm, q, N, bs, bm, sn, sub, ab, col, dd, k0, k1, k2, k3, k5, hC, hbm⟩ := T.T.cls
  refine wpAny_Call_Name_kw (ld_glob I hg T.gC ?_ hdb)
  have hq : ∀ (vs : List V) (H1 : Hp), (∃ v, vs = [v] ∧ ∀ a d, H1 a = none → H1 d = none → d ≠ a → Q (.ref a) (upd (upd H1 d (exd d [(f, v)])) a (exo a C (some d)))) → (∃ v, vs = [v] ∧ ∀ a d, H1 a = none → H1 d = none → d ≠ a → Q (.ref a) (upd (upd H1 d (exd d [(f, v)])) a (exo a C (some d)))) := fun _ _ z => z
  refine PySem.W.callWith_K (h₀ := X.base) I.ok.mod.kin T.T.kC (thn ((pa_any ha he).run pos pins s σ H (fun vs H1 => ∃ v, vs = [v] ∧ ∀ a d, H1 a = none → H1 d = none → d ≠ a → Q (.ref a) (upd (upd H1 d (exd d [(f, v)])) a (exo a C (some d)))) I ⟨_, h, fun v H1 z => ⟨v, rfl, z⟩⟩) fun us s1 hh => ?_) he hpl
  obtain ⟨vs, H1, I1, r1, v, rfl, q1⟩ := hh
  refine ⟨I1.kIn, ?_⟩
  show wpAny _ _ (call (.ref C) us) _ _ _
  obtain ⟨hp, g, dr, tk, os⟩ := s1
  have hsz : hp.objs.size ≤ hp.objs.size + 1 := Nat.le_succ _
  have hn : H1 (hp.objs.size + 1) = none := I1.hok.fresh hsz
  have kk : ∀ b o, hp.get? b = some o → ((hp.push (PySem.W.kdv_tup us)).push (PySem.HandSPX.excO C hp.objs.size)).get? b = some o := fun b o e => Heap.get?_push_of_some _ (Heap.get?_push_of_some _ e)
  have hget : ((hp.push (PySem.W.kdv_tup us)).push (PySem.HandSPX.excO C hp.objs.size)).get? (hp.objs.size + 1) = some (PySem.HandSPX.excO C hp.objs.size) := by heap_get
  have I2 : Inv X pins σ (upd H1 (hp.objs.size + 1) (exo (hp.objs.size + 1) C none)) ⟨(hp.push (PySem.W.kdv_tup us)).push (PySem.HandSPX.excO C hp.objs.size), g, dr, tk, os⟩ :=
    I1.laid (t' := tk) (a := hp.objs.size + 1) (o := exo (hp.objs.size + 1) C none) (h' := (hp.push (PySem.W.kdv_tup us)).push (PySem.HandSPX.excO C hp.objs.size)) kk hsz (exo_ok hget)
  have hus : us.length ≤ sizeLine := by
    rw [← Paired.length r1, sizeLine_eq]
    show 1 ≤ 16777216
    decide
  obtain ⟨u0, rfl, r0⟩ : ∃ u0, us = [u0] ∧ RelV v u0 := by
    cases r1 with
    | cons a t =>
      cases t
      exact ⟨_, rfl, a⟩
  have hl : (Value.ref (hp.objs.size + 1) :: [u0] ++ []).length = ([("self" : Str), f] : List Str).length := rfl
  have r2 : Vals [V.ref (hp.objs.size + 1), v] [Value.ref (hp.objs.size + 1), u0] := .cons rfl (.cons r0 .nil)
  have hbb := hb _ (Value.ref (hp.objs.size + 1) :: [u0]) I2.kIn hl
  rw [List.append_nil] at hbb
  have hsp : spXI X.K f [V.ref (hp.objs.size + 1), v] (upd H1 (hp.objs.size + 1) (exo (hp.objs.size + 1) C none)) (fun w H2 => w = .non ∧ Q (.ref (hp.objs.size + 1)) H2) (fun _ _ _ => False) := by
    refine ⟨_, C, v, rfl, T.T, T.noF, upd_same, fun dx h1 h2 => ⟨rfl, ?_⟩⟩
    rw [upd_ne h2] at h1
    have e : upd (upd (upd H1 (hp.objs.size + 1) (exo (hp.objs.size + 1) C none)) dx (exd dx [(f, v)])) (hp.objs.size + 1) (exo (hp.objs.size + 1) C (some dx)) = upd (upd H1 dx (exd dx [(f, v)])) (hp.objs.size + 1) (exo (hp.objs.size + 1) C (some dx)) := by
      funext b
      by_cases g1 : b = hp.objs.size + 1
      · subst g1
        rw [upd_same, upd_same]
      · rw [upd_ne g1, upd_ne g1]
        by_cases g2 : b = dx
        · subst g2
          rw [upd_same, upd_same]
        · rw [upd_ne g2, upd_ne g2, upd_ne g1]
    rw [e]
    exact q1 _ dx hn h1 h2
  refine wpAny_call (PySem.HandSPX.call_own F.excBase_ValueError (fun Y => PySem.HandSPX.refsVE_contains Y bm hbm) (I1.kIn _ _ hC) (PySem.W.looks_findIn I1.kIn T.iC) (fun self => PySem.W.bind_fn I1.kIn self T.tI) hus
    (codeAny_mono (F1.run _ X.stack _ _ ⟨Value.ref (hp.objs.size + 1) :: [u0], []⟩ [Value.ref (hp.objs.size + 1), u0] _ _ (fun _ _ _ => False) (hr.make C [u0] []) (I2.env0.make C [u0] []) hbb r2 hsp) fun r s' hq' => ?_))
  cases r with
  | error er => exact pass0 pins σ _ _ er s' I2 hq'
  | ok fl =>
    cases fl with
    | ret u =>
      obtain ⟨w, H2, J, rv, ew, q2⟩ := I2.after hq'
      subst ew
      exact ⟨rv, .ref (hp.objs.size + 1), H2, J, rfl, q2⟩
    | next => exact False.elim hq'
    | brk => exact False.elim hq'
    | cont => exact False.elim hq'
end
section
variable {prog : Program} {w : World} {A : Around} {E : Value → Shared → Prop} {s : Shared} {K : PySem.W.Frag} {x C : Addr} {ox : Obj} {od : Option Obj}
theorem call_objEqS {Q : Value → Shared → Prop} (X : K.In s.heap) (I : PySem.W.InstAt s.heap x ox C od) (hm : PySem.W.mroIn K C (.type "object") = some true) (hq : Q (.bool true) s) :
    wpAny (model prog w) A (call (.builtin "object.__eq__") [.ref x, .ref x]) Q E s :=
  wpAny_call (codeAny_call_builtin F.cmp_object.eq.plain F.cmpEntry_eq (PySem.W.check_slot F.cmpKind_eq F.cmpSplit_eq (I.type.andThen (PySem.W.looks_mroIn X hm)) (F.cmpArgs_eq _ _) (objEq_entry_same hq)))
theorem rc_same {Q : Value → Shared → Prop} (hu : A.units < cLine) (X : K.In s.heap) (I : PySem.W.InstAt s.heap x ox C od) (hm : PySem.W.mroIn K C (.type "object") = some true) (hs : PySem.W.findIn K (.ref C) "__eq__" = some (some (.builtin "object.__eq__"))) (h : Q (.bool true) s) :
    wpAny (model prog w) A (compareOp .Eq (.ref x) (.ref x)) Q E s := by
  have one : ∀ {R : Option Value → Shared → Prop}, R (some (.bool true)) s → wpAny (model prog w) A (tryCompare (.ref x) "__eq__" (.ref x)) R E s := fun h => by
    unfold tryCompare
    exact wpAny_bind (HN.ifBound_objEq X I hs (call_objEqS X I hm (wpAny_pure h)))
  show wpAny _ _ (richCompare .Eq (.ref x) (.ref x)) _ _ _
  simp only [richCompare, cmpInfo_Eq, oneThing_ref]
  refine wpAny_holding (wpAny_bind (wpAny_cRoomFor hu ?_))
  refine wpAny_bind (I.type.here ?_)
  refine wpAny_bind (I.type.here ?_)
  repeat (first | with_reducible refine one ?_ | wp_step)
  exact h
end
def rEqX (K : PySem.W.Frag) : R2 := fun x y H Q => ∃ a C, x = .ref a ∧ y = .ref a ∧ ExV H a C ∧ PySem.W.mroIn K C (.type "object") = some true ∧ PySem.W.findIn K (.ref C) "__eq__" = some (some (.builtin "object.__eq__")) ∧ Q (.bl true) H
theorem op_eqX {X : Cx} (hu : X.A.units < cLine) : OpR X (compareOp .Eq) (rEqX X.K) := by
  intro pins s σ H x y v u Q I rx ry h
  obtain ⟨a, C, rfl, rfl, ⟨d, fs, h1, h2⟩, hm, hs, q⟩ := h
  cases (show v = Value.ref a from rx)
  cases (show u = Value.ref a from ry)
  obtain ⟨t1, ho⟩ := exo_at I.hok h1
  obtain ⟨mA, ⟨od, es, ep, hod, _⟩, _⟩ := exd_at I.hok h2
  have J : PySem.W.InstAt s.heap a ({ cls := .ref C, dict := some d, data := .fields #[.ref t1, .none, .none, .none, .bool false, .none] } : Obj) C (some od) :=
    ⟨ho, rfl, rfl, hod⟩
  exact rc_same hu I.kIn J hm hs ⟨.bl true, H, I, rfl, q⟩

/-! a def that is called within an except suite and lets nothing out -/
open L2H in
structure FnGH (P : Program) (w : World) (K : PySem.W.Frag) (mg : Str → Option Value) (base : Heap) (k : Nat)
    (f : Addr) (fd : FuncData) (ps : List Str) (sp : Sp) : Prop where
  len : ∀ vs H Q E, sp vs H Q E → vs.length = ps.length
  run : ∀ (A : Around) (outer : List Env) (s : Shared) (H : Hp) (args : Args) (us : List Value) (vs : List V) (Q : VK) (E : XK) (p : Addr × Obj),
    A.guards = some [] → RoomH k A → PinOk outer H s p → Env0 P w K mg base A outer s H → BindsTo s fd args (ps.zip us) → Vals vs us →
    sp vs H Q E → codeAny (model P w) A (.call (.ref f) args) (CR CX0 outer P w H s Q E) s
open L2H in
theorem okGH {P : Program} {w : World} {K : PySem.W.Frag} {mg : Str → Option Value} {base : Heap} {k : Nat} {f : Addr} {fd : FuncData} {ps : List Str} {sp : Sp} {x qual : Str} {st : Stmt} {N : List Str}
    (F : Fun K x qual st f fd) (S : FnScope N ps (defScope st)) (len : ∀ vs H Q E, sp vs H Q E → vs.length = ps.length)
    (body : ∀ (cdv : Value) (A : Around) (outer : List Env) (s : Shared) (H : Hp) (vs : List V) (Q : VK) (E : XK) (p : Addr × Obj),
      A.guards = some [] → RoomH k (A.deeper (envOfC qual (defScope st) s.heap.objs.size f cdv)) → sp vs H Q E →
      ∃ t, PSs (cxH CX0 P w K mg base N qual (defScope st) f cdv A outer s H E p) (defBody st) t ∧
        t { nx := fun _ H' => Q .non H', rt := Q } (start N vs) H) :
    FnGH P w K mg base (k + 1) f fd ps sp := by
  obtain ⟨oc, od, kV, doc, pm, an, cdv, ct, osl, rfl, lk, hcd⟩ := F.ex
  refine ⟨len, ?_⟩
  intro A outer s H args us vs Q E p hg hr pin e0 hb r hsp
  have hl := len _ _ _ _ hsp
  have stays : ∀ b o, base.get? b = some o → s.heap.get? b = some o := fun b o e => (e0.bs b o e).1
  have KX : K.In s.heap := e0.mod.kin.keeps stays
  have kinds : ∀ y ∈ ps.zip us, (defScope st).names.lookup y.1 = some .local ∨
      ((defScope st).names.lookup y.1 = some .cell ∧
        ((cellsFrom (s.heap.objs.size + 1) (defScope st).names []).lookup y.1).isSome = true) := by
    intro y hy
    rcases S.par y.1 (List.of_mem_zip (a := y.1) (b := y.2) hy).1 with q | q
    · exact Or.inl q
    · exact Or.inr ⟨q, PySem.W.cellsFrom_some _ _ _ (Or.inl q)⟩
  refine codeAny_call_function hr.depth (KX _ _ lk) rfl S.co S.gen rfl (PySem.W.codeRec_of KX hcd) (hb _ _ _ _ ?_)
  refine wpAny_newFunctionEnv_cells S.kind kinds ?_
  intro env he s1 x
  subst he
  refine ⟨(e0.mod.nolimit.keeps stays).keeps x.toInCall.keep, codeAny_func ?_⟩
  obtain ⟨t, ht, hq⟩ := body cdv A outer s H vs Q E p hg (hr.deeper _) hsp
  have I := inv_startH (CX := CX0) (E := E) S pin e0 hl r x
  refine wpAny_mono (ht.run [] s1 (start N vs) H _ I hq) ?_ (fun _ _ z => z)
  intro fl s' hs
  have fin : ∀ {σ' : L2.St} {H' : Hp} {v : V} {u : Value},
      Inv (cxH CX0 P w K mg base N qual (defScope st) f cdv A outer s H E p) [] σ' H' s' → RelV v u → Q v H' →
      CE outer P w H s Q u s' := fun {σ' H' v u} J rv q => ⟨v, H', J.os, J.bare, J.base, J.hok, rv, q⟩
  cases fl with
  | next => obtain ⟨_, _, J, q⟩ := hs; exact fin (v := V.non) (u := Value.none) J rfl q
  | ret u => obtain ⟨_, _, _, J, rv, q⟩ := hs; exact fin J rv q
  | brk => obtain ⟨_, _, _, q⟩ := hs; exact q.elim
  | cont => obtain ⟨_, _, _, q⟩ := hs; exact q.elim
open L2H in
theorem pe_cGH {X : Cx} {W : WX} {k : Nat} {f : Addr} {fd : FuncData} {ps : List Str} {sp : Sp} {x : Str} {q pos : Pos} {e : Expr} {es : List Expr} {t : TA} {p : Addr × Obj}
    (F : FnGH X.prog X.w X.K X.mg X.base k f fd ps sp) (b : Pos1 fd ps) (hG : X.A.guards = some []) (hr : RoomH k X.A) (hp : p ∈ X.pn)
    (hm : X.mg x = some (.ref f)) (hk : PySem.W.keepIn X.K (.ref f) = true) (ha : PA X (e :: es) t) (hg : Gl X x := by rfl)
    (hdb : (x == ("__debug__" : Str)) = false := by decide) (he : starEach (e :: es) X.env = (false, eval e X.env) :: starEach es X.env := by rfl)
    (hpl : (backTo pos (starEach es X.env)).any (·.1) = false := by rfl) : PE X (.Call (.Name x q) (e :: es) [] pos) (tCG sp W t) := by
  constructor
  intro pins s σ H Q I h
  refine wpAny_Call_Name_kw (ld_glob I hg hm ?_ hdb)
  refine PySem.W.callWith_K (h₀ := X.base) I.ok.mod.kin hk (thn (ha.run pos pins s σ H _ I h) ?_) he hpl
  intro us s1 ⟨vs, H1, I1, r, h2⟩
  refine ⟨I1.kIn, ?_⟩
  have P1 := I1.pin p (List.mem_append_left _ hp)
  have hpin : PinOk X.stack H1 s1 p := ⟨P1.1, P1.2.1, fun hm => (List.mem_cons.mp (I1.stkSub p.1 hm)).elim P1.2.2.1 P1.2.2.2.1, P1.2.2.2.2⟩
  have hl : us.length = ps.length := by
    rw [← r.length]
    exact F.len _ _ _ _ h2
  refine wpAny_call (codeAny_mono (F.run X.A X.stack s1 H1 ⟨us, []⟩ us vs Q (WE W σ) p hG hr hpin I1.env0 (.of_eq (b _ hl)) r h2) ?_)
  intro r s' hq
  cases r with
  | error er => exact (pass0 pins σ _ _ er s' I1 hq)
  | ok fl =>
    cases fl with
    | ret u => exact I1.after hq
    | next => exact hq.elim
    | brk => exact hq.elim
    | cont => exact hq.elim

theorem roomHU {k : Nat} {A : Around} (r : L2H.RoomH k A) : A.units + 64 < cLine := by
  have := r.un
  omega
theorem roomS {k : Nat} {A : Around} {h : Option Value} (r : Room k A) : L2H.RoomH k (A.mark h) := ⟨r.dp, r.un⟩
/-- repr of any data -/
def rReprA : List V → Hp → VK → Prop := fun xs H Q => ∃ (v : V) (d : PyData), xs = [v] ∧ DV H v d ∧ d.showable = true ∧ d.depth ≤ 60 ∧ d.shown.length ≤ sizeLine ∧ (∀ i, d = .int i → i.natAbs.log2 < 1920) ∧ Q (.str d.shown) H
theorem call_reprA {X : Cx} (hG : X.A.guards = some []) (hu : X.A.units + 64 < cLine) : CallR X (.builtin "repr") rReprA := by
  intro pins s σ H xs us Q I r h
  obtain ⟨v, d, rfl, hd, hs, hp, hz, hi, q⟩ := h
  obtain ⟨u, rfl, r1⟩ := vals1 r
  cases hd with
  | non =>
    cases (show u = Value.none from r1)
    exact PySem.P.repr_of_none ⟨.str _, H, I.tok _, ⟨_, rfl⟩, q⟩
  | bl b =>
    cases (show u = Value.bool b from r1)
    exact PySem.P.repr_of_bool ⟨.str (Str.ofString (if b then "True" else "False")), H, I.tok _, ⟨_, by cases b <;> rfl⟩, by cases b <;> exact q⟩
  | int i =>
    obtain ⟨t, rfl⟩ := (show ∃ t, u = Value.int i t from r1)
    exact PySem.P.repr_of_int (hi i rfl) ⟨.str _, H, I.tok _, ⟨_, rfl⟩, q⟩
  | str z =>
    obtain ⟨t, rfl⟩ := (show ∃ t, u = Value.str z t from r1)
    exact PySem.P.repr_of_str ⟨.str (reprText z), H, I.tok _, ⟨_, rfl⟩, q⟩ hz
  | @lst a xs ds h n q2 =>
    cases (show u = Value.ref a from r1)
    exact call_repr hG hu pins s σ H _ _ Q I r ⟨a, _, rfl, .lst h n q2, hs, hp, hz, q⟩
  | @tup a xs ds h q2 =>
    cases (show u = Value.ref a from r1)
    exact call_repr hG hu pins s σ H _ _ Q I r ⟨a, _, rfl, .tup h q2, hs, hp, hz, q⟩
  | @dct a xs ds h q2 =>
    cases (show u = Value.ref a from r1)
    exact call_repr hG hu pins s σ H _ _ Q I r ⟨a, _, rfl, .dct h q2, hs, hp, hz, q⟩
theorem e_errv {C : Addr} {f : Str} {te : TE} {σ : L2.St} {H : Hp} {Q : VK} : tErrV C f te σ H Q = te σ H (fun v H1 => ∀ a d, H1 a = none → H1 d = none → d ≠ a → Q (.ref a) (upd (upd H1 d (exd d [(f, v)])) a (exo a C (some d)))) := rfl

/-- data, or an own error (which counts as None where it is asked what it is) -/
inductive AV (K : PySem.W.Frag) (H : Hp) : V → PyData → Prop
  | dat {v : V} {d : PyData} (h : DV H v d) : AV K H v d
  | exc {a C : Addr} (h : ExV H a C) (n : PySem.W.NvCls K C) (k1 : PySem.W.kitOne K (.ref C) (.type "str") = some false) (k2 : PySem.W.kitOne K (.ref C) (.type "tuple") = some false) : AV K H (.ref a) .none
theorem AV.mono {K : PySem.W.Frag} {H H' : Hp} {v : V} {d : PyData} (h : AV K H v d) (e : Same H H') : AV K H' v d := by
  cases h with
  | dat h => exact .dat (h.mono e)
  | exc h n k1 k2 => exact .exc (h.same e) n k1 k2
def isT : PyData → Bool
  | .tuple _ => true
  | _ => false
def isD : PyData → Bool
  | .dict _ => true
  | _ => false
theorem kit_tuple (d : PyData) : kitB (tyName d) "tuple" = some (isT d) := by
  cases d with
  | none => exact (by decide +kernel : kitB "NoneType" "tuple" = some false)
  | bool b => exact (by decide +kernel : kitB "bool" "tuple" = some false)
  | int i => exact (by decide +kernel : kitB "int" "tuple" = some false)
  | str x => exact (by decide +kernel : kitB "str" "tuple" = some false)
  | list l => exact (by decide +kernel : kitB "list" "tuple" = some false)
  | tuple l => exact (by decide +kernel : kitB "tuple" "tuple" = some true)
  | dict l => exact (by decide +kernel : kitB "dict" "tuple" = some false)
theorem kit_dict (d : PyData) : kitB (tyName d) "dict" = some (isD d) := by
  cases d with
  | none => exact (by decide +kernel : kitB "NoneType" "dict" = some false)
  | bool b => exact (by decide +kernel : kitB "bool" "dict" = some false)
  | int i => exact (by decide +kernel : kitB "int" "dict" = some false)
  | str x => exact (by decide +kernel : kitB "str" "dict" = some false)
  | list l => exact (by decide +kernel : kitB "list" "dict" = some false)
  | tuple l => exact (by decide +kernel : kitB "tuple" "dict" = some false)
  | dict l => exact (by decide +kernel : kitB "dict" "dict" = some true)
section
variable {K : PySem.W.Frag} {H : Hp} {Q : VK} {v : V} {d : PyData}
theorem r_isiD {T : String} {b : Bool} (h : DV H v d) (e : kitB (tyName d) T = some b) (q : Q (.bl b) H) : rIsiA K [v, .ty T] H Q := .inl (r_isi h e q)
theorem AV.isStr (h : AV K H v d) (q : Q (.bl (isS d)) H) : rIsiA K [v, .ty "str"] H Q := by
  cases h with
  | dat h => exact r_isiD h (kit_str d) q
  | exc h n k1 k2 => exact .inr ⟨_, _, _, _, rfl, h, n, k1, q⟩
theorem AV.isTup (h : AV K H v d) (q : Q (.bl (isT d)) H) : rIsiA K [v, .ty "tuple"] H Q := by
  cases h with
  | dat h => exact r_isiD h (kit_tuple d) q
  | exc h n k1 k2 => exact .inr ⟨_, _, _, _, rfl, h, n, k2, q⟩
theorem AV.str {z : Str} (h : AV K H v (.str z)) : v = .str z := by
  cases h with
  | dat h => cases h; rfl
theorem AV.tup {ds : List PyData} (h : AV K H v (.tuple ds)) : ∃ a xs, v = .ref a ∧ H a = some (.tup xs) ∧ DVs H xs ds := by
  cases h with
  | dat h => cases h with | tup e r => exact ⟨_, _, rfl, e, r⟩
theorem DVs.len {xs : List V} {ds : List PyData} (h : DVs H xs ds) : xs.length = ds.length := by
  induction xs generalizing ds with
  | nil => cases h; rfl
  | cons x xs ih => cases h with | cons a b => simp [ih b]
end

/-- list(x), the new one not the table of modules -/
theorem call_list_new {X : Cx} : CallR X (.type "list") (fun xs H Q => ∃ (src : Addr) (items : List V), xs = [.ref src] ∧ (SqL X.K H src items ∨ SqT X.K H src items) ∧
    ∀ l, H l = none → l ≠ sysModules → Q (.ref l) (upd H l (.lst items))) := by
  intro pins st σ H xs us Q I rel hyp
  obtain ⟨src, items, rfl, which, post⟩ := hyp
  obtain ⟨val, rfl, rv⟩ := vals1 rel
  cases rv
  have big : st.heap.objs.size ≠ sysModules := Nat.ne_of_gt I.big
  have free := I.hok.fresh (Nat.le_refl st.heap.objs.size)
  have done_ : ∀ (vs : List Value) (hv : Vals items vs) (hn : items.length ≤ sizeLine) (hp : Heap) (ct : Nat)
      (keep : ∀ b o, st.heap.get? b = some o → hp.get? b = some o)
      (new : hp.get? st.heap.objs.size = some { cls := .type "list", dict := none, data := .seq vs.toArray ct, slots := #[] }),
      EP X pins σ Q (.ref st.heap.objs.size) { st with heap := hp } := by
    intro vs hv hn hp ct keep new
    refine ⟨.ref st.heap.objs.size, upd H st.heap.objs.size (.lst items), ?_, rfl, post _ free big⟩
    exact I.laid (t' := st.toks) keep (Nat.le_refl _) ⟨hn, vs, ct, hv, new⟩
  cases which with
  | inl q =>
    obtain ⟨vs, hv, pl, hn⟩ := I.list q
    have el := hv.length
    obtain ⟨o, e1, e2, ct, e3⟩ := pl.isList
    refine call_list_seq src (.inl rfl) e1 e2 e3 (done_ vs hv hn) ?_
    rw [List.size_toArray]
    omega
  | inr q =>
    obtain ⟨vs, hv, pl, hn⟩ := I.tuple q
    have el := hv.length
    obtain ⟨o, e1, e2, ct, e3⟩ := pl
    refine call_list_seq src (.inr rfl) e1 e2 e3 (done_ vs hv hn) ?_
    rw [List.size_toArray]
    omega
/-- little of the C stack is used -/
structure HU (A : Around) : Prop where
  units : A.units + 64 < cLine
/-- what is asked of an own error that is an argument -/
structure AvC (K : PySem.W.Frag) (C : Addr) : Prop where
  s : PySem.W.subIn K (.ref C) (.type "str") = some false
  t : PySem.W.subIn K (.ref C) (.type "tuple") = some false
  mo : PySem.W.mroIn K C (.type "object") = some true
  eq : PySem.W.findIn K (.ref C) "__eq__" = some (some (.builtin "object.__eq__"))
theorem kit_type {K : PySem.W.Frag} {C : Addr} {T : String} {b : Bool} (m : PySem.W.kitMeta T = true) (h : PySem.W.subIn K (.ref C) (.type T) = some b) : PySem.W.kitOne K (.ref C) (.type T) = some b := by
  have e : (Value.ref C == Value.type T) = false := by simp
  unfold PySem.W.kitOne
  rw [e]
  show PySem.W.kitCls K (.ref C) (.type T) = some b
  show (if PySem.W.kitMeta T = true then PySem.W.subIn K (.ref C) (.type T) else none) = some b
  rw [if_pos m]
  exact h
theorem AvC.av {K : PySem.W.Frag} {H : Hp} {a C : Addr} (c : AvC K C) (n : PySem.W.NvCls K C) (e : ExV H a C) : AV K H (.ref a) .none :=
  .exc e n (kit_type (by decide +kernel) c.s) (kit_type (by decide +kernel) c.t)
end Nv

namespace Nv
open PySem L2

theorem r_reprA {H : Hp} {Q : VK} {v : V} {d : PyData} {W D : Nat} (h : DV H v d) (s : Shw W D d) (hw : W ≤ 390000) (hd : D ≤ 60) (q : Q (.str d.shown) H) : rReprA [v] H Q :=
  ⟨v, d, rfl, h, s.h, Nat.le_trans s.p hd, s.len hw, fun i e => by
    have := s.h
    subst e
    simpa only [PyData.showable, decide_eq_true_eq] using this, q⟩
mutual
theorem DV.dp {K : PySem.W.Frag} {H : Hp} : ∀ {v : V} {d : PyData}, DV H v d → d.hasDict = false → Dp K H v d
  | _, _, .non, _ => .non
  | _, _, .bl b, _ => .bl b
  | _, _, .int i, _ => .int i
  | _, _, .str x, _ => .str x
  | _, _, .lst h n r, e => .lst (.of h) (DVs.dp r (by simpa only [PyData.hasDict] using e))
  | _, _, .tup h r, e => .tup (.of h) (DVs.dp r (by simpa only [PyData.hasDict] using e))
  | _, _, .dct h r, e => by simp [PyData.hasDict] at e
theorem DVs.dp {K : PySem.W.Frag} {H : Hp} : ∀ {vs : List V} {ds : List PyData}, DVs H vs ds → PyData.hasDictAll ds = false → DpAll K H vs ds
  | _, _, .nil, _ => .nil
  | _, _, .cons h r, e => by
    simp only [PyData.hasDictAll, Bool.or_eq_false_iff] at e
    exact .cons (DV.dp h e.1) (DVs.dp r e.2)
end
theorem Shw.dict0 {W D : Nat} : Shw (W + 1) (D + 1) (.dict []) := by
  refine ⟨?_, ?_, ?_, ?_⟩
  · simp only [PyData.leavesShort, PyData.leavesShortKv]
  · simp only [PyData.weight, PyData.weightKv]
    omega
  · simp only [PyData.depth, PyData.depthKv]
    exact Nat.succ_le_succ (Nat.zero_le _)
  · simp only [PyData.showable, PyData.showableKv]
theorem Shw.dict2 {W1 W2 W3 W4 D : Nat} {k v k2 v2 : PyData} (a : Shw W1 D k) (b : Shw W2 D v) (c : Shw W3 D k2) (d : Shw W4 D v2) : Shw (W1 + W2 + W3 + W4 + 4) (D + 1) (.dict [(k, v), (k2, v2)]) := by
  refine ⟨?_, ?_, ?_, ?_⟩
  · simp only [PyData.leavesShort, PyData.leavesShortKv, a.s, b.s, c.s, d.s, Bool.and_self]
  · have := a.w
    have := b.w
    have := c.w
    have := d.w
    simp only [PyData.weight, PyData.weightKv]
    omega
  · have := a.p
    have := b.p
    have := c.p
    have := d.p
    simp only [PyData.depth, PyData.depthKv]
    omega
  · simp only [PyData.showable, PyData.showableKv, a.h, b.h, c.h, d.h, Bool.and_self]
end Nv

namespace Nv
open PySem L2

/-! cells -/
def low (c : Nat) : Bool := decide (97 ≤ c) && decide (c ≤ 122)
def upp (c : Nat) : Bool := decide (65 ≤ c) && decide (c ≤ 90)
theorem alphC : ∀ c, c < 128 → Unicode.isAlpha c = (low c || upp c) := by decide +kernel
theorem lowC : ∀ c, c < 128 → Unicode.isLower c = low c := by decide +kernel
theorem uppC : ∀ c, c < 128 → (Unicode.isUpper c || Unicode.isTitle c) = upp c := by decide +kernel
theorem all_eq {f g : Nat → Bool} {l : List Nat} (h : ∀ c ∈ l, f c = g c) : l.all f = l.all g := by
  induction l with
  | nil => rfl
  | cons c r ih => simp only [List.all_cons, h c (by simp), ih fun d hd => h d (by simp [hd])]
theorem any_eq {f g : Nat → Bool} {l : List Nat} (h : ∀ c ∈ l, f c = g c) : l.any f = l.any g := by
  induction l with
  | nil => rfl
  | cons c r ih => simp only [List.any_cons, h c (by simp), ih fun d hd => h d (by simp [hd])]
theorem not_both (c : Nat) : low c = true → upp c = false := fun h => by
  simp [low] at h
  simp [upp]
  omega
theorem low_lem (l : List Nat) : (decide (0 < l.length) && l.all (fun c => low c || upp c) && (l.any low && !l.any upp)) = (decide (0 < l.length) && l.all low) := by
  cases l with
  | nil => rfl
  | cons c r =>
    rw [Bool.eq_iff_iff]
    simp only [Bool.and_eq_true, decide_eq_true_eq, List.all_eq_true, Bool.or_eq_true, List.any_eq_true, Bool.not_eq_true', List.any_eq_false]
    constructor
    · rintro ⟨⟨h1, h2⟩, _, h4⟩
      refine ⟨h1, fun d hd => ?_⟩
      rcases h2 d hd with z | z
      · exact z
      · exact absurd z (h4 d hd)
    · rintro ⟨h1, h2⟩
      refine ⟨⟨h1, fun d hd => .inl (h2 d hd)⟩, ⟨c, by simp, h2 c (by simp)⟩, fun d hd z => ?_⟩
      rw [not_both d (h2 d hd)] at z
      cases z
theorem isascii_iff (z : Str) : Txt.isascii z = true ↔ Asc z := by
  unfold Txt.isascii
  rw [← Array.all_toList, List.all_eq_true]
  simp only [decide_eq_true_eq]
  exact Iff.rfl
theorem low_lt {c : Nat} (h : low c = true) : c < 128 := by
  simp [low] at h
  omega
theorem alow (z : Str) : (Txt.isascii z && (Txt.isalpha z && Txt.islower z)) = (decide (0 < z.length) && (sg z).all low) := by
  by_cases h : Asc z
  · rw [(isascii_iff z).mpr h, Bool.true_and]
    unfold Txt.isalpha Txt.islower
    rw [← Array.all_toList, ← Array.any_toList, ← Array.any_toList]
    rw [all_eq (g := fun c => low c || upp c) (fun c hc => alphC c (h c hc)), any_eq (g := low) (fun c hc => lowC c (h c hc)), any_eq (g := upp) (fun c hc => uppC c (h c hc))]
    have := low_lem (sg z)
    rw [sg_len] at this
    exact this
  · have e1 : Txt.isascii z = false := by
      cases e : Txt.isascii z with
      | false => rfl
      | true => exact absurd ((isascii_iff z).mp e) h
    rw [e1, Bool.false_and]
    symm
    rw [Bool.and_eq_false_iff]
    right
    cases e : (sg z).all low with
    | false => rfl
    | true => exact absurd (fun c hc => low_lt (List.all_eq_true.mp e c hc)) h

/-! numerals -/
def numL (l : List Nat) : Bool := decide (0 < l.length) && l.all Fr.dig && (decide (l = [48]) || !decide (l.head? = some 48))
theorem zero_sg : sg (Str.ofString "0") = [48] := by decide +kernel
theorem starts0 (z : Str) : Txt.startswith z (Str.ofString "0") = decide ((sg z).head? = some 48) := by
  unfold Txt.startswith Builtin.Str.subAt
  have e1 : (Str.ofString "0").length = 1 := by decide +kernel
  have e2 : (Str.ofString "0").cps = #[48] := by decide +kernel
  rw [e1, e2]
  have e3 : z.length = (sg z).length := (sg_len z).symm
  rw [e3]
  have e4 : z.cps.extract 0 (0 + 1) = ((sg z).take 1).toArray := by
    apply Array.toList_inj.mp
    simp [sg]
  rw [e4]
  cases e : sg z with
  | nil => simp
  | cons c r =>
    simp only [List.length_cons, List.head?_cons, Option.some.injEq, List.take_succ_cons, List.take_zero]
    by_cases h : c = 48
    · subst h
      simp
    · simp [h]
theorem dig_lt {c : Nat} (h : Fr.dig c = true) : c < 128 := by
  simp [Fr.dig] at h
  omega
theorem numS_eq (z : Str) : (Txt.isascii z && (Txt.isdigit z && (decide (V.str z = V.str (Str.ofString "0")) || !Txt.startswith z (Str.ofString "0")))) = numL (sg z) := by
  have k0 : decide (V.str z = V.str (Str.ofString "0")) = decide (sg z = [48]) := by
    congr 1
    refine propext ⟨fun h => ?_, fun h => ?_⟩
    · cases h
      exact zero_sg
    · rw [sg_inj (h.trans zero_sg.symm)]
  rw [k0, starts0]
  unfold numL
  by_cases h : Asc z
  · rw [(isascii_iff z).mpr h, Bool.true_and, isdigit_pl h, sg_len]
  · have e1 : Txt.isascii z = false := by
      cases e : Txt.isascii z with
      | false => rfl
      | true => exact absurd ((isascii_iff z).mp e) h
    rw [e1, Bool.false_and]
    have : (sg z).all Fr.dig = false := by
      cases e : (sg z).all Fr.dig with
      | false => rfl
      | true => exact absurd (fun c hc => dig_lt (List.all_eq_true.mp e c hc)) h
    simp [this]

/-! splits at blanks -/
def occL : List Nat → Nat → Nat → List Nat
  | [], _, _ => []
  | c :: r, i, k => if 0 < k ∧ c = 32 then i :: occL r (i + 1) (k - 1) else occL r (i + 1) k
theorem occL_cons (c : Nat) (r : List Nat) (i k : Nat) : occL (c :: r) i k = if 0 < k ∧ c = 32 then i :: occL r (i + 1) (k - 1) else occL r (i + 1) k := rfl
theorem occL_zero : ∀ (l : List Nat) (i : Nat), occL l i 0 = []
  | [], _ => rfl
  | c :: r, i => by
    rw [occL_cons, if_neg (fun h => by omega)]
    exact occL_zero r (i + 1)
theorem occL_skip {a r : List Nat} {k : Nat} (h : ∀ c ∈ a, c ≠ 32) : ∀ i, occL (a ++ r) i k = occL r (i + a.length) k := by
  induction a with
  | nil => intro i; rfl
  | cons c a ih =>
    intro i
    show occL (c :: (a ++ r)) i k = _
    rw [occL_cons, if_neg (fun z => h c (by simp) z.2), ih (fun d hd => h d (by simp [hd]))]
    rw [List.length_cons, show i + 1 + a.length = i + (a.length + 1) from by omega]
theorem occL_hit (r : List Nat) (i k : Nat) : occL (32 :: r) i (k + 1) = i :: occL r (i + 1) k := by
  show (if 0 < k + 1 ∧ 32 = 32 then _ else _) = _
  rw [if_pos ⟨by omega, rfl⟩]
  rfl
open Builtin.Str StrLaws in
theorem occ_run (x : Str) (k : Nat) : ∀ (r p : List Nat) (acc : Array Nat) (f : Nat), sg x = p ++ r → f ≤ p.length →
    (forIn (List.range' p.length (r.length + 1)) (acc, f) (occBody x ⟨#[32]⟩ x.length k)).run.fst.toList = acc.toList ++ occL r p.length (k - acc.size)
  | [], p, acc, f, e, hf => by
    have hx : x.length = p.length := by
      rw [← sg_len, e]
      simp
    show (forIn [p.length] (acc, f) (occBody x ⟨#[32]⟩ x.length k)).run.fst.toList = _
    rw [List.forIn_cons]
    unfold occBody
    have one : (⟨#[32]⟩ : Str).length = 1 := rfl
    rw [if_neg (fun h => by have := h.1.2; rw [one] at this; omega)]
    simp [occL]
  | c :: r, p, acc, f, e, hf => by
    have hx : x.length = p.length + r.length + 1 := by
      rw [← sg_len, e]
      simp
      omega
    have one : (⟨#[32]⟩ : Str).length = 1 := rfl
    have at_ : subAt x ⟨#[32]⟩ p.length = decide (c = 32) := by
      unfold subAt
      rw [one]
      have e4 : x.cps.extract p.length (p.length + 1) = #[c] := by
        apply Array.toList_inj.mp
        have : x.cps.toList = p ++ c :: r := e
        simp [this]
      rw [e4]
      by_cases h : c = 32
      · subst h
        rfl
      · simp [h]
    have rg : List.range' p.length ((c :: r).length + 1) = p.length :: List.range' (p ++ [c]).length (r.length + 1) := by
      simp [List.range']
    rw [rg, List.forIn_cons]
    have e2 : sg x = (p ++ [c]) ++ r := by rw [e]; simp
    have step := fun (acc' : Array Nat) (f' : Nat) (h : f' ≤ (p ++ [c]).length) => occ_run x k r (p ++ [c]) acc' f' e2 h
    have len1 : (p ++ [c]).length = p.length + 1 := by simp
    unfold occBody
    by_cases h : 0 < k - acc.size ∧ c = 32
    · rw [if_pos ⟨⟨⟨by show acc.size < k; omega, hf⟩, by rw [one]; omega⟩, by rw [at_, h.2]; rfl⟩]
      show (forIn _ (acc.push p.length, p.length + (⟨#[32]⟩ : Str).length) (occBody x ⟨#[32]⟩ x.length k)).run.fst.toList = _
      rw [step _ _ (by rw [one, len1]; omega), len1]
      rw [occL_cons, if_pos h, Array.size_push, show k - acc.size - 1 = k - (acc.size + 1) from by omega]
      simp
    · rw [if_neg (fun z => h ⟨by have : acc.size < k := z.1.1.1; omega, by have := z.2; rw [at_] at this; simpa using this⟩)]
      show (forIn _ (acc, f) (occBody x ⟨#[32]⟩ x.length k)).run.fst.toList = _
      rw [step _ _ (by rw [len1]; omega), len1]
      rw [occL_cons, if_neg h]
open Builtin.Str StrLaws in
theorem occ_is (x : Str) (k : Nat) : occurrences x ⟨#[32]⟩ 0 x.length k = occL (sg x) 0 k := by
  have := occ_run x k (sg x) [] #[] 0 rfl (Nat.le_refl _)
  rw [occ_eq]
  rw [sg_len] at this
  simpa using this
theorem sp_is : Str.ofString " " = ⟨#[32]⟩ := by decide +kernel
theorem sub_sg (x : Str) (i j : Nat) : sg (Builtin.Str.strSub x i j) = ((sg x).drop i).take (j - i) := by
  unfold Builtin.Str.strSub sg
  simp [List.extract_eq_drop_take]
/-- each part is a piece -/
theorem part_sub {x p : Str} {cuts : List Nat} {w : Nat} (h : p ∈ Builtin.Str.partsBetween x cuts w) : p.length ≤ x.length ∧ ∀ c ∈ sg p, c ∈ sg x := by
  unfold Builtin.Str.partsBetween at h
  simp only [List.mem_map] at h
  obtain ⟨⟨i, j⟩, _, rfl⟩ := h
  refine ⟨?_, fun c hc => ?_⟩
  · rw [← sg_len, sub_sg, List.length_take, List.length_drop, sg_len]
    omega
  · rw [sub_sg] at hc
    exact List.mem_of_mem_drop (List.mem_of_mem_take hc)
open Builtin.Str in
theorem splitMax_sub {x p : Str} {k : Int} (h : p ∈ Txt.splitMax x (Str.ofString " ") k) : p.length ≤ x.length ∧ ∀ c ∈ sg p, c ∈ sg x := by
  unfold Txt.splitMax at h
  split at h
  · have : p = x := by simpa using h
    subst this
    exact ⟨Nat.le_refl _, fun c hc => hc⟩
  · split at h
    · have : p = x := by simpa using h
      subst this
      exact ⟨Nat.le_refl _, fun c hc => hc⟩
    · exact part_sub h
open Builtin.Str in
theorem split_sub {x p : Str} (h : p ∈ Txt.split x (Str.ofString " ")) : p.length ≤ x.length ∧ ∀ c ∈ sg p, c ∈ sg x := by
  unfold Txt.split at h
  split at h
  · have : p = x := by simpa using h
    subst this
    exact ⟨Nat.le_refl _, fun c hc => hc⟩
  · split at h
    · have : p = x := by simpa using h
      subst this
      exact ⟨Nat.le_refl _, fun c hc => hc⟩
    · exact part_sub h
open Builtin.Str StrLaws in
theorem split_len (x : Str) : 1 ≤ (Txt.split x (Str.ofString " ")).length ∧ (Txt.split x (Str.ofString " ")).length ≤ x.length + 2 := by
  unfold Txt.split
  split
  · simp
  · split
    · simp
    · rw [length_partsBetween]
      have := occ_length_le x (Str.ofString " ") 0 x.length (x.length + 1)
      omega
open Builtin.Str StrLaws in
theorem splitMax_len (x : Str) : (Txt.splitMax x (Str.ofString " ") 3).length ≤ 4 := by
  unfold Txt.splitMax
  split
  · simp
  · split
    · simp
    · rw [length_partsBetween]
      have := occ_length_le x (Str.ofString " ") 0 x.length (limitOf x 3)
      have e : limitOf x 3 ≤ 3 := by
        unfold limitOf
        simp
      omega

open Builtin.Str StrLaws in
theorem split_four {x : Str} {a b c t : List Nat} (e : sg x = a ++ 32 :: (b ++ 32 :: (c ++ 32 :: t))) (ha : ∀ d ∈ a, d ≠ 32) (hb : ∀ d ∈ b, d ≠ 32) (hc : ∀ d ∈ c, d ≠ 32) :
    Txt.splitMax x (Str.ofString " ") 3 = [tx a, tx b, tx c, tx t] := by
  rw [sp_is]
  have hx : x.length = a.length + b.length + c.length + t.length + 3 := by
    rw [← sg_len, e]
    simp
    omega
  have one : (⟨#[32]⟩ : Str).length = 1 := rfl
  have k1 : Builtin.Str.strKind (⟨#[32]⟩ : Str) = 1 := by decide +kernel
  have k2 : 1 ≤ Builtin.Str.strKind x := by
    unfold Builtin.Str.strKind
    split
    · decide
    · split <;> decide
  have lm : limitOf x 3 = 3 := rfl
  have oc : occurrences x ⟨#[32]⟩ 0 x.length 3 = [a.length, a.length + 1 + b.length, a.length + 1 + b.length + 1 + c.length] := by
    rw [occ_is, e, occL_skip ha, occL_hit, occL_skip hb, occL_hit, occL_skip hc, occL_hit, occL_zero]
    simp only [Nat.zero_add]
  unfold Txt.splitMax
  rw [lm, oc, one, k1]
  have f1 : (decide (x.length < 1) || decide (Builtin.Str.strKind x < 1)) = false := by
    simp
    omega
  rw [f1]
  simp only [Bool.false_eq_true, ↓reduceIte, List.isEmpty_cons]
  unfold partsBetween
  simp only [List.map_cons, List.map_nil, List.cons_append, List.nil_append, List.zip_cons_cons, List.zip_nil_right, List.cons.injEq, and_true]
  have d1 : ((a ++ 32 :: (b ++ 32 :: (c ++ 32 :: t))).drop (a.length + 1)) = b ++ 32 :: (c ++ 32 :: t) := by
    rw [← List.drop_drop, List.drop_left]
    rfl
  have d2 : ((a ++ 32 :: (b ++ 32 :: (c ++ 32 :: t))).drop (a.length + 1 + b.length + 1)) = c ++ 32 :: t := by
    rw [show a.length + 1 + b.length + 1 = (a.length + 1) + (b.length + 1) from by omega, ← List.drop_drop, d1, ← List.drop_drop, List.drop_left]
    rfl
  have d3 : ((a ++ 32 :: (b ++ 32 :: (c ++ 32 :: t))).drop (a.length + 1 + b.length + 1 + c.length + 1)) = t := by
    rw [show a.length + 1 + b.length + 1 + c.length + 1 = (a.length + 1 + b.length + 1) + (c.length + 1) from by omega, ← List.drop_drop, d2, ← List.drop_drop, List.drop_left]
    rfl
  refine ⟨sg_inj ?_, sg_inj ?_, sg_inj ?_, sg_inj ?_⟩
  · rw [sub_sg, sg_tx, e, List.drop_zero, Nat.sub_zero, List.take_left]
  · rw [sub_sg, sg_tx, e, d1, show a.length + 1 + b.length - (a.length + 1) = b.length from by omega, List.take_left]
  · rw [sub_sg, sg_tx, e, d2, show a.length + 1 + b.length + 1 + c.length - (a.length + 1 + b.length + 1) = c.length from by omega, List.take_left]
  · rw [sub_sg, sg_tx, e, d3]
    exact List.take_of_length_le (by rw [hx]; omega)
/-! numbers -/
theorem tl_digits (n : Nat) : (Nat.toDigits 10 n).map Char.toNat = TL.numL n := rfl
theorem digits_dig {n c : Nat} (h : c ∈ TL.numL n) : Fr.dig c = true := by
  have := TL.numL_digits n c h
  simp [Fr.dig]
  omega
theorem num_digits (n : Nat) : Fr.num (TL.numL n) = n := TL.numL_val n
theorem head_digits : ∀ n : Nat, 0 < n → ∃ c r, TL.numL n = c :: r ∧ c ≠ 48
  | n, h0 => by
    by_cases h : n < 10
    · exact ⟨48 + n, [], TL.numL_lt h, by omega⟩
    · obtain ⟨c, r, e, hc⟩ := head_digits (n / 10) (by omega)
      exact ⟨c, r ++ [48 + n % 10], by rw [TL.numL_step (by omega), e]; rfl, hc⟩
theorem numL_ok (n : Nat) : numL (TL.numL n) = true := by
  have ha : (TL.numL n).all Fr.dig = true := List.all_eq_true.mpr fun c hc => digits_dig hc
  have hl : 0 < (TL.numL n).length := List.length_pos_iff.mpr (TL.numL_ne n)
  unfold numL
  rw [ha]
  simp only [hl, decide_true, Bool.true_and]
  by_cases h : n = 0
  · subst h
    rfl
  · obtain ⟨c, r, e, hc⟩ := head_digits n (by omega)
    rw [e]
    simp [hc]
theorem nat_sg (n : Nat) : sg (Str.ofString (toString (n : Int))) = TL.numL n := str_nat n
end Nv

namespace Nv
open PySem L2

/-- a text's pieces are of its signs -/
theorem strs_lay (l : List Nat) (h : ∀ c ∈ l, c < 128) : PyData.canLayAll0 (l.map fun c => PyData.str ⟨#[c]⟩) = true := by
  have := (Fts.strs (D := 0) (ts := l.map fun c => [c]) (by
    intro t ht c hc
    obtain ⟨d, hd, rfl⟩ := List.mem_map.mp ht
    have : c = d := by simpa using hc
    exact this ▸ h d hd)).c
  simpa [strsD, List.map_map, Function.comp_def, tx] using this
theorem dp_ones {K : PySem.W.Frag} {H : Hp} : ∀ l : List Nat, DpAll K H (l.map fun c => V.str ⟨#[c]⟩) (l.map fun c => PyData.str ⟨#[c]⟩)
  | [] => .nil
  | c :: r => .cons (.str _) (dp_ones r)
theorem ones_depth (l : List Nat) : PyData.depthAll (l.map fun c => PyData.str ⟨#[c]⟩) = 0 := by
  induction l with
  | nil => rfl
  | cons c r ih => simp [PyData.depthAll, PyData.depth, ih]
theorem shaped_ones (l : List Nat) (h : ∀ c ∈ l, c < 128) : SeqAt.shaped (.list (l.map fun c => PyData.str ⟨#[c]⟩)) = true := by
  unfold SeqAt.shaped
  simp only [PyData.canLay0, strs_lay l h, PyData.depth, ones_depth]
  rfl
theorem eqv_nil (l : List Nat) : PyData.eqv (.list (l.map fun c => PyData.str ⟨#[c]⟩)) (.list []) = l.isEmpty := by
  cases l <;> simp [PyData.eqv, PyData.eqvAll]
theorem take_filter {l : List Nat} {i c : Nat} {f : Nat → Bool} (h : l[i]? = some c) : (l.take (i + 1)).filter f = (l.take i).filter f ++ (if f c then [c] else []) := by
  have e : l.take (i + 1) = l.take i ++ [c] := by
    rw [List.take_add_one, h]
    rfl
  rw [e, List.filter_append]
  congr 1
  cases hf : f c <;> simp [hf]
theorem filt_all (f : Nat → Bool) (l : List Nat) : (l.filter fun c => !f c).isEmpty = l.all f := by
  induction l with
  | nil => rfl
  | cons c r ih =>
    simp only [List.filter_cons, List.all_cons]
    cases f c <;> simp [ih]
theorem figs_sg : sg (Str.ofString "0123456789") = [48, 49, 50, 51, 52, 53, 54, 55, 56, 57] := by decide +kernel
theorem figs_in (c : Nat) : decide (c ∈ (Str.ofString "0123456789").cps.toList) = Fr.dig c := by
  have : (Str.ofString "0123456789").cps.toList = [48, 49, 50, 51, 52, 53, 54, 55, 56, 57] := figs_sg
  rw [this]
  unfold Fr.dig
  by_cases h1 : 48 ≤ c <;> by_cases h2 : c ≤ 57 <;> simp [h1, h2] <;> omega

theorem alph_sg : sg (Str.ofString "abcdefghijklmnopqrstuvwxyz") = [97, 98, 99, 100, 101, 102, 103, 104, 105, 106, 107, 108, 109, 110, 111, 112, 113, 114, 115, 116, 117, 118, 119, 120, 121, 122] := by decide +kernel
theorem alph_in (c : Nat) : decide (c ∈ (Str.ofString "abcdefghijklmnopqrstuvwxyz").cps.toList) = low c := by
  have : (Str.ofString "abcdefghijklmnopqrstuvwxyz").cps.toList = _ := alph_sg
  rw [this]
  unfold low
  by_cases h1 : 97 ≤ c <;> by_cases h2 : c ≤ 122 <;> simp [h1, h2] <;> omega
theorem r_eq_ones {K : PySem.W.Frag} {H : Hp} {Q : VK} {D p : Addr} {l : List Nat} (h : ∀ c ∈ l, c < 128) (hD : H D = some (.lst (l.map fun c => V.str ⟨#[c]⟩))) (hp : H p = some (.lst [])) (q : Q (.bl l.isEmpty) H) : rEqD K (.ref D) (.ref p) H Q :=
  ⟨_, _, .lst (.of hD) (dp_ones l), .lst (.of hp) .nil, shaped_ones l h, by decide, by rw [eqv_nil]; exact q⟩
theorem r_ne_ones {K : PySem.W.Frag} {H : Hp} {Q : VK} {D p : Addr} {l : List Nat} (h : ∀ c ∈ l, c < 128) (hD : H D = some (.lst (l.map fun c => V.str ⟨#[c]⟩))) (hp : H p = some (.lst [])) (q : Q (.bl (!l.isEmpty)) H) : rNeD K (.ref D) (.ref p) H Q :=
  ⟨_, _, .lst (.of hD) (dp_ones l), .lst (.of hp) .nil, shaped_ones l h, by decide, by rw [eqv_nil]; exact q⟩
end Nv

namespace Nv
open PySem PySem.Spec PyProof.Rows L2

/-- repr of a list of data, the list itself anywhere -/
def rReprL : List V → Hp → VK → Prop := fun xs H Q => ∃ (a : Addr) (ys : List V) (ds : List PyData), xs = [.ref a] ∧ H a = some (.lst ys) ∧ DVs H ys ds ∧
  (PyData.list ds).showable = true ∧ (PyData.list ds).depth ≤ 60 ∧ (PyData.list ds).shown.length ≤ sizeLine ∧ Q (.str (PyData.list ds).shown) H
theorem call_reprL {X : Cx} (hG : X.A.guards = some []) (hu : X.A.units + 64 < cLine) : CallR X (.builtin "repr") rReprL := by
  intro pins s σ H xs us Q I r h
  obtain ⟨a, ys, ds, rfl, ha, hd, hs, hp, hz, q⟩ := h
  obtain ⟨u, rfl, rx⟩ := vals1 r
  cases (show u = Value.ref a from rx)
  obtain ⟨_, its, m, rv, e⟩ := (show ObjOk X.prog X.w H s.heap a (.lst ys) from I.hok a _ ha)
  obtain ⟨as, ra, na⟩ := DVs.reads I hd rv
  have sz : (listText (PyData.shownAll ds)).length ≤ sizeLine := by simpa only [PyData.shown] using hz
  obtain ⟨bs, deep, parts⟩ := ReprAllK.of_readsAll (prog := X.prog) (w := X.w) ra (by simpa only [PyData.showable] using hs) (fun _ => na)
    (fun t ht => Nat.le_trans (listText_mem_le ht) sz)
  have apart : a ∉ bs := not_mem_of_deeper (.list e rfl rfl ra) (by simp only [PyData.depth]; omega) deep
  have dp : (PyData.list ds).depth = PyData.depthAll ds + 1 := by simp only [PyData.depth]
  have fin : ∀ (h' : Heap) (t : Tok) (k : Nat), (∀ b o, s.heap.get? b = some o → h'.get? b = some o) → EP X pins σ Q (.str (PyData.list ds).shown t) { s with heap := h', toks := k } :=
    fun h' t k keep => ⟨.str (PyData.list ds).shown, H, I.kept keep, ⟨t, rfl⟩, q⟩
  refine call_repr_slot (by omega) (show s.TypeIs (.ref a) "list" from ⟨_, e, rfl⟩) F.slot_list_repr.toG ?_
  cases its with
  | nil =>
    cases ra
    have : EP X pins σ Q (.str "[]" s.toks) { s with toks := s.toks + 1 } := by
      have z := fin s.heap s.toks (s.toks + 1) fun _ _ w => w
      simpa only [PyData.shown, PyData.shownAll, listText_nil] using z
    exact call_list_repr_empty ⟨_, e, rfl⟩ e rfl ⟨_, _, rfl, this⟩
  | cons x l =>
    refine call_list_reprK e rfl rfl apart (by simpa using parts.length_eq) (fun i y z => parts.item i y (by simpa using z)) hG (fun b _ => Clear.nil b) (by show X.A.units + 1 + _ < cLine; omega) (fun _ _ z => z) (fun h' t k keep => ⟨_, _, rfl, ?_⟩) sz
    have z := fin h' t k keep
    simpa only [PyData.shown] using z
def rReprAL : List V → Hp → VK → Prop := fun xs H Q => rReprL xs H Q ∨ rReprA xs H Q
theorem call_reprAL {X : Cx} (hG : X.A.guards = some []) (hu : X.A.units + 64 < cLine) : CallR X (.builtin "repr") rReprAL := CallR.or (call_reprL hG hu) (call_reprA hG hu)
end Nv

namespace Nv
open PySem PySem.Spec PyProof.Rows L2

/-! len of an own class -/
section
variable {X : Cx}
/-- an own def is called where a built-in one asks for a special name -/
theorem special_own {k : Nat} {f C a dx : Addr} {fd : FuncData} {ps : List Str} {sp : Sp} {name : Str} {us : List Value} {vs : List V} {A : Around} {pins : List (Addr × Obj)} {σ : L2.St} {H : Hp} {s : Shared} {fs : List (Str × V)} {Q : VK} {R : Option Value → Shared → Prop}
    (F : FnG X.prog X.w X.K X.mg X.base k f fd ps sp) (b : Pos1 fd ps) (hG : A.guards = some []) (hr : Room k A) (hfr : A.frames = X.A.frames)
    (hl : PySem.W.findIn X.K (.ref C) name = some (some (.ref f))) (hf : PySem.W.typeIn X.K (.ref f) = some (.type "function"))
    (I : Inv X pins σ H s) (h : H a = some (.ins C dx fs)) (rv : Vals vs us) (hsp : sp (.ref a :: vs) H Q (fun _ _ _ => False))
    (q : ∀ v u s', RelV v u → (∃ H', Inv X pins σ H' s' ∧ Q v H') → R (some u) s') :
    wpAny (model X.prog X.w) A (callSpecial? (.ref a) name us) R X.xe s := by
  obtain ⟨mA, J, _⟩ := ins_get I.hok h
  obtain ⟨od, J, _⟩ := J.look
  unfold callSpecial? specialOf
  refine wpAny_bind (wpAny_bind (J.type.here ((PySem.W.looks_findIn I.kIn hl).here ?_)))
  refine wpAny_holding ?_
  refine wpAny_bind ((PySem.W.bind_fn I.kIn _ hf).here ?_)
  have e0 : Env0 X.prog X.w X.K X.mg X.base A X.stack s H := by
    have e := I.env0
    exact ⟨by rw [hfr]; exact e.frames, e.mod, e.bs, e.bsz, e.funs, e.frf, e.hok, e.bare⟩
  have r2 : Vals (V.ref a :: vs) (Value.ref a :: us) := .cons rfl rv
  have hlen : (Value.ref a :: us).length = ps.length := by
    rw [← r2.length]
    exact F.len _ _ _ _ hsp
  refine wpAny_bind (wpAny_call (codeAny_mono (F.run A X.stack s H ⟨.ref a :: us, []⟩ (.ref a :: us) (.ref a :: vs) Q (fun _ _ _ => False) hG hr e0 (.of_eq (b _ hlen)) r2 hsp) fun r s' hq => ?_))
  cases r with
  | error er =>
    obtain ⟨_, _, _, _, _, _, _, _, _, _, _, _, z⟩ := hq
    exact z.elim
  | ok fl =>
    cases fl with
    | ret u =>
      obtain ⟨v, H', J', rv', q'⟩ := I.after hq
      exact wpAny_pure (q v u s' rv' ⟨H', J', q'⟩)
    | next => exact hq.elim
    | brk => exact hq.elim
    | cont => exact hq.elim
def rLenO (C : Addr) (sp : Sp) : List V → Hp → VK → Prop := fun xs H Q => ∃ (a dx : Addr) (fs : List (Str × V)), xs = [.ref a] ∧ H a = some (.ins C dx fs) ∧
  sp [.ref a] H (fun v H1 => ∃ n : Int, v = .int n ∧ 0 ≤ n ∧ n < 2 ^ 63 ∧ Q (.int n) H1) (fun _ _ _ => False)
theorem call_lenO {k : Nat} {f C : Addr} {fd : FuncData} {ps : List Str} {sp : Sp} (F : FnG X.prog X.w X.K X.mg X.base k f fd ps sp) (b : Pos1 fd ps) (hG : X.A.guards = some []) (hr : Room (k + 1) X.A)
    (hl : PySem.W.findIn X.K (.ref C) "__len__" = some (some (.ref f))) (hf : PySem.W.typeIn X.K (.ref f) = some (.type "function")) : CallR X (.builtin "len") (rLenO C sp) := by
  intro pins s σ H xs us Q I r h
  obtain ⟨a, dx, fs, rfl, ha, hsp⟩ := h
  obtain ⟨u, rfl, ru⟩ := vals1 r
  obtain rfl : u = Value.ref a := ru
  refine Calls.call_function_entry kind_len plain_len entry_len (args_len1 _) ?_
  unfold Builtin.«len»
  refine wpAny_bind (m := oneArg "len" _) (wpAny_pure ?_)
  refine wpAny_bind (m := callSpecial? (.ref a) (PySem.Str.ofString "__len__")) (special_own (A := X.A.in1) (vs := []) (us := []) F b hG hr.in1 rfl hl hf I ha .nil hsp ?_)
  rintro v u s' rv ⟨H', I', n, rfl, h0, h1, q⟩
  obtain ⟨t, rfl⟩ := (show ∃ t, u = Value.int n t from rv)
  refine wpAny_bind (wpAny_holding (wpAny_pure ?_))
  refine wpAny_bind (wpAny_letGo ?_)
  show wpAny _ _ (if n < 0 then _ else _) _ _ _
  rw [if_neg (by omega)]
  show wpAny _ _ (if n ≥ 2 ^ 63 then _ else _) _ _ _
  rw [if_neg (by omega)]
  exact wpAny_bind (wpAny_mkInt (wpAny_pure ⟨_, rfl, .int n, H', I'.tok _, ⟨_, rfl⟩, q⟩))
end

/-! new instances of own classes, whose __init__ may raise -/
theorem under_guards {A : Around} {C : Addr} {us : List Value} {kw : List (Str × Value)} : (A.under (.builtin "type.__call__" ⟨.ref C :: us, kw⟩)).guards = A.guards := by
  first | rfl | simp [Around.under, Code.weight, Code.isCreation, Code.isGuard, Code.isCaller, Code.frames, Code.isFrame, guardIds]
/-- C(e, ..) -/
def tMakeG (C : Addr) (sp : Sp) (W : WX) (t : TA) : TE := fun σ H Q => t σ H fun vs H1 => ∀ x dx, H1 x = none → H1 dx = none → dx ≠ x →
  sp (.ref x :: vs) (upd (upd H1 dx (.own x)) x (.ins C dx [])) (fun v H2 => v = .non ∧ Q (.ref x) H2) (WE W σ)
theorem e_makeG {C : Addr} {sp : Sp} {W : WX} {t : TA} {σ : L2.St} {H : Hp} {Q : VK} : tMakeG C sp W t σ H Q = t σ H (fun vs H1 => ∀ x dx, H1 x = none → H1 dx = none → dx ≠ x →
  sp (.ref x :: vs) (upd (upd H1 dx (.own x)) x (.ins C dx [])) (fun v H2 => v = .non ∧ Q (.ref x) H2) (WE W σ)) := rfl
section
variable {X : Cx} {W : WX} {k : Nat} {f C : Addr} {fd : FuncData} {ps ks : List Str} {sp : Sp} {x : Str} {p pos : Pos} {e : Expr} {es : List Expr} {kws : List Keyword} {t : TA}
theorem run_makeG {pins : List (Addr × Obj)} {σ : L2.St} {H : Hp} {s : Shared} {Q : VK} {us us2 : List Value} {vs : List V} {kw : List (Str × Value)} (M : Mk X.K C f) (F : FnG X.prog X.w X.K X.mg X.base k f fd ps sp) (tk : Takes X W) (hG : X.A.guards = some []) (hr : Room (k + 1) X.A)
    (hb : ∀ (s : Shared) (u : Value), X.K.In s.heap → BindsTo s fd ⟨u :: us, kw⟩ (ps.zip (u :: us2))) (I : Inv X pins σ H s) (r : Vals vs us2)
    (h : ∀ x dx, H x = none → H dx = none → dx ≠ x → sp (.ref x :: vs) (upd (upd H dx (.own x)) x (.ins C dx [])) (fun v H2 => v = .non ∧ Q (.ref x) H2) (WE W σ)) :
    wpAny (model X.prog X.w) X.A (call (.ref C) us kw) (EP X pins σ Q) X.xe s := by
  have hq := h (s.heap.objs.size + 1) s.heap.objs.size (I.hok.fresh (Nat.le_succ _)) (I.hok.fresh (Nat.le_refl _)) (Nat.ne_of_lt (Nat.lt_succ_self _))
  have I2 := Inv.made (C := C) I
  have r2 : Vals (V.ref (s.heap.objs.size + 1) :: vs) (Value.ref (s.heap.objs.size + 1) :: us2) := .cons rfl r
  refine wpAny_call (make_map (f := f) I.kIn M.makes M.init (beq_iff_eq.mp M.fn) (codeAny_mono (F.run _ X.stack _ _ ⟨Value.ref (s.heap.objs.size + 1) :: us, kw⟩ (Value.ref (s.heap.objs.size + 1) :: us2) _ _ (WE W σ) (under_guards.trans hG) (hr.make C us kw)
    (I2.env0.make C us kw) (hb _ _ I2.kIn) r2 hq) fun r s' hq' => ?_))
  cases r with
  | error er => exact passAt tk σ pins _ _ er s' I2 hq'
  | ok fl =>
    cases fl with
    | ret u =>
      obtain ⟨v, H', I3, rv, ev, q3⟩ := I2.after hq'
      subst ev
      exact ⟨rv, ⟨V.ref (s.heap.objs.size + 1), H', I3, rfl, q3⟩⟩
    | next => exact False.elim hq'
    | brk => exact False.elim hq'
    | cont => exact False.elim hq'
theorem lenM {us : List Value} {vs : List V} {H : Hp} {Q : VK} {E : XK} {a : Addr} (F : FnG X.prog X.w X.K X.mg X.base k f fd ps sp) (r : Vals vs us) (h : sp (.ref a :: vs) H Q E) : us.length + 1 = ps.length := by
  rw [← r.length]
  exact F.len _ _ _ _ h
theorem pe_makeG (M : Mk X.K C f) (F : FnG X.prog X.w X.K X.mg X.base k f fd ps sp) (b : Binds X.K fd ps []) (tk : Takes X W) (hG : X.A.guards = some []) (hr : Room (k + 1) X.A) (hg : Gl X x) (hm : X.mg x = some (.ref C))
    (ha : PA X (e :: es) t) (hdb : (x == ("__debug__" : Str)) = false := by decide) (he : starEach (e :: es) X.env = (false, eval e X.env) :: starEach es X.env := by rfl) (hpl : (backTo pos (starEach es X.env)).any (·.1) = false := by rfl) :
    PE X (.Call (.Name x p) (e :: es) [] pos) (tMakeG C sp W t) := by
  refine ⟨fun pins s σ H Q I h => ?_⟩
  refine wpAny_Call_Name_kw (ld_glob I hg hm ?_ hdb)
  refine PySem.W.callWith_K (h₀ := X.base) I.ok.mod.kin M.kp (thn (ha.run pos pins s σ H _ I h) fun us s1 ⟨vs, H1, I1, r, q⟩ => ⟨I1.kIn, ?_⟩) he hpl
  have hl := lenM F r (q (s1.heap.objs.size + 1) s1.heap.objs.size (I1.hok.fresh (Nat.le_succ _)) (I1.hok.fresh (Nat.le_refl _)) (Nat.ne_of_lt (Nat.lt_succ_self _)))
  refine run_makeG (us2 := us) M F tk hG hr (fun s u z => ?_) I1 r q
  have := b s (u :: us) z (by simpa using hl)
  simpa using this
theorem pe_makeGk (M : Mk X.K C f) (F : FnG X.prog X.w X.K X.mg X.base k f fd ps sp) (b : Kw1 fd ps ks 1) (hlen : ps.length = ks.length + 1) (tk : Takes X W) (hG : X.A.guards = some []) (hr : Room (k + 1) X.A) (hg : Gl X x) (hm : X.mg x = some (.ref C))
    (ha : PK X kws t) (hall : (backToKw pos (keywordEach kws X.env)).all (·.1.isSome) = true := by rfl) (hks : (backToKw pos (keywordEach kws X.env)).filterMap (·.1) = ks := by rfl)
    (hdb : (x == ("__debug__" : Str)) = false := by decide)
    (hpl : ((backTo pos (starEach [] X.env)).any (·.1) || (backToKw pos (keywordEach kws X.env)).any (·.1.isNone)) = false := by rfl) :
    PE X (.Call (.Name x p) [] kws pos) (tMakeG C sp W t) := by
  refine ⟨fun pins s σ H Q I h => ?_⟩
  refine wpAny_Call_Name_kw (ld_glob I hg hm ?_ hdb)
  refine PySem.W.callWith_KW0 (h₀ := X.base) I.ok.mod.kin M.kp hall ?_ hpl
  refine thn (ha.run pos pins s σ H _ I h) ?_
  intro ws s2 ⟨zs, H2, I2, rz, q2⟩
  refine ⟨I2.kIn, ?_⟩
  rw [hks]
  have hl := lenM F rz (q2 (s2.heap.objs.size + 1) s2.heap.objs.size (I2.hok.fresh (Nat.le_succ _)) (I2.hok.fresh (Nat.le_refl _)) (Nat.ne_of_lt (Nat.lt_succ_self _)))
  refine run_makeG (us := []) (us2 := ws) M F tk hG hr (fun s u z => .of_eq (b [u] ws rfl (by omega))) I2 rz q2
end

/-! a list grows by a tuple's items -/
section
open AutoSeq1 (wpAny_loadPart')
theorem grow_tup (l b : Addr) (xs ys : Array Value) (n m : Nat) (dd : Option Addr) (sl : Array (Option Value)) (short : ¬ (!xs.isEmpty && Builtin.List.listTooLong (xs.size + ys.size)) = true) (z1 : xs.size ≤ sizeLine) (z2 : xs.size + ys.size ≤ sizeLine + 1) :
    Meets (Builtin.«list.extend» ⟨[.ref l, .ref b], []⟩) (fun _ R s =>
      s.heap.get? l = some { cls := .type "list", dict := none, data := .seq xs n, slots := #[] } ∧
      s.heap.get? b = some { cls := .type "tuple", dict := dd, data := .seq ys m, slots := sl } ∧
      R (.ok (.ret Value.none)) { s with heap := s.heap.update l (Obj.mapSeq fun x => x ++ ys), toks := s.toks }) :=
  .of_wp fun prog w A R s h => by
    obtain ⟨hp, g, d, tk, os⟩ := s
    obtain ⟨el, eb, q⟩ := h
    have t1 := AutoSeq1.idx_int
    have t2 := AutoSeq1.sub_tuple_tuple
    have t3 := AutoSeq1.sub_tuple_list
    have z3 : (xs ++ ys).size ≤ sizeLine + 1 := by
      rw [Array.size_append]
      exact z2
    wp_walk using (wpAny_updateSeq el rfl (hz := z1) (_hz' := z3)), wpAny_loadPart' el, wpAny_loadPart' eb
    exact ⟨_, rfl, q⟩
end
/-- xs.extend(ys), ys a list or a tuple -/
def rExtA (K : PySem.W.Frag) : V → List V → Hp → VK → Prop := fun x vs H Q => ∃ l b xs zs, x = .ref l ∧ vs = [.ref b] ∧ H l = some (.lst xs) ∧ (H b = some (.lst zs) ∨ SqT K H b zs) ∧ xs.length + zs.length ≤ sizeLine ∧ Q .non (upd H l (.lst (xs ++ zs)))
theorem mt_extA {X : Cx} : MtM X "list.extend" (rExtA X.K) := by
  intro pins s σ H x vs v us Q I rx rv h
  obtain ⟨l, b, xs, zs, rfl, rfl, hH, hB | hB, hz, q⟩ := h
  · exact mt_extend pins s σ H _ _ v us Q I rx rv ⟨l, b, xs, zs, rfl, rfl, hH, hB, hz, q⟩
  · cases rx
    obtain ⟨u, rfl, ru⟩ := rv.one
    cases ru
    obtain ⟨z, its, n, r, hl, e⟩ := I.lstM hH
    obtain ⟨its2, r2, ⟨o, e2, o1, m, o3⟩, hl2⟩ := I.tuple hB
    have l1 := r.length
    have l2 := r2.length
    have hsz : its.toArray.size + its2.toArray.size ≤ sizeLine := by
      rw [List.size_toArray, List.size_toArray]
      omega
    have hlong : ¬ (!its.toArray.isEmpty && Builtin.List.listTooLong (its.toArray.size + its2.toArray.size)) = true := by
      rw [notLongL hsz, Bool.and_false]
      exact Bool.false_ne_true
    obtain ⟨oc, od, oda, os⟩ := o
    simp only at o1 o3
    subst o1
    subst o3
    refine call_meets F.slot_list_extend ⟨_, e, rfl⟩ F.entry_list_extend (F.args_list_extend_2 _ _)
      (grow_tup l b its.toArray its2.toArray n m od os hlong (by rw [List.size_toArray]; omega) (by omega)) ⟨e, e2, ?_⟩
    refine ⟨.non, _, I.lset (its' := its ++ its2) hH e (by simp) (r.append r2) ?_, rfl, q⟩
    rw [List.length_append]
    omega
end Nv

namespace Nv
open PySem L2

/-! rows of figures in a text -/
def Fig (B : Nat) (l : List Nat) : Prop := ∀ a b c, l = a ++ (b ++ c) → b.all Fr.dig = true → b.length ≤ B
theorem Fig.sub {B : Nat} {l m : List Nat} (h : Fig B m) (i : l <:+: m) : Fig B l := by
  obtain ⟨s, t, e⟩ := i
  intro a b c hl hd
  refine h (s ++ a) b (c ++ t) ?_ hd
  rw [← e, hl]
  simp
theorem Fig.len {B : Nat} {l : List Nat} (h : l.length ≤ B) : Fig B l := fun a b c e _ => by
  rw [e, List.length_append, List.length_append] at h
  omega
theorem Fig.le {B C : Nat} {l : List Nat} (h : Fig B l) (k : B ≤ C) : Fig C l := fun a b c e d => Nat.le_trans (h a b c e d) k
theorem Fig.self {B : Nat} {l : List Nat} (h : Fig B l) (d : l.all Fr.dig = true) : l.length ≤ B := h [] l [] (by simp) d
theorem Fig.nil (B : Nat) : Fig B [] := Fig.len (Nat.zero_le _)
/-- a sign that is no figure parts the rows -/
theorem Fig.part {B c : Nat} {l m : List Nat} (h1 : Fig B l) (h2 : Fig B m) (hc : Fr.dig c = false) : Fig B (l ++ c :: m) := by
  intro a b r e d
  by_cases h : a.length + b.length ≤ l.length
  · refine h1 a b ((l.drop (a.length + b.length))) ?_ d
    have e2 : (l ++ c :: m).take (a.length + b.length) = a ++ b := by
      rw [e, ← List.append_assoc]
      have : (a ++ b).length = a.length + b.length := List.length_append
      rw [← this, List.take_left]
    rw [List.take_append_of_le_length h] at e2
    rw [← List.append_assoc, ← e2, List.take_append_drop]
  · by_cases h3 : l.length < a.length
    · have e3 : (l ++ c :: m).drop a.length = b ++ r := by
        rw [e, List.drop_left]
      rw [List.drop_append_of_le_length' h3] at e3
      refine h2 (m.take (a.length - l.length - 1)) b r ?_ d
      rw [← e3, List.take_append_drop]
    · exfalso
      have hi : (l ++ c :: m)[l.length]? = some c := by simp
      rw [e, List.getElem?_append_right (by omega), List.getElem?_append_left (by omega)] at hi
      have hm := List.mem_of_getElem? hi
      have := List.all_eq_true.mp d c hm
      rw [hc] at this
      cases this
where
  List.drop_append_of_le_length' {l : List Nat} {c : Nat} {m : List Nat} {k : Nat} (h : l.length < k) : (l ++ c :: m).drop k = m.drop (k - l.length - 1) := by
    rw [List.drop_append]
    have : l.drop k = [] := List.drop_of_length_le (by omega)
    rw [this, List.nil_append]
    obtain ⟨j, hj⟩ : ∃ j, k - l.length = j + 1 := ⟨k - l.length - 1, by omega⟩
    rw [hj]
    simp
theorem sub_infix (x : Str) (i j : Nat) : sg (Builtin.Str.strSub x i j) <:+: sg x := by
  rw [sub_sg]
  exact (List.take_prefix _ _).isInfix.trans (List.drop_suffix _ _).isInfix
theorem part_infix {x p : Str} {cuts : List Nat} {w : Nat} (h : p ∈ Builtin.Str.partsBetween x cuts w) : sg p <:+: sg x := by
  unfold Builtin.Str.partsBetween at h
  simp only [List.mem_map] at h
  obtain ⟨⟨i, j⟩, _, rfl⟩ := h
  exact sub_infix x i j
open Builtin.Str in
theorem splitMax_infix {x p : Str} {k : Int} (h : p ∈ Txt.splitMax x (Str.ofString " ") k) : sg p <:+: sg x := by
  unfold Txt.splitMax at h
  split at h
  · have : p = x := by simpa using h
    subst this
    exact List.infix_rfl
  · split at h
    · have : p = x := by simpa using h
      subst this
      exact List.infix_rfl
    · exact part_infix h
open Builtin.Str in
theorem split_infix {x p : Str} (h : p ∈ Txt.split x (Str.ofString " ")) : sg p <:+: sg x := by
  unfold Txt.split at h
  split at h
  · have : p = x := by simpa using h
    subst this
    exact List.infix_rfl
  · split at h
    · have : p = x := by simpa using h
      subst this
      exact List.infix_rfl
    · exact part_infix h
theorem num_lt (l : List Nat) (h : ∀ c ∈ l, Fr.dig c = true) : ∀ a : Nat, l.foldl (fun a c => a * 10 + (c - 48)) a < (a + 1) * 10 ^ l.length := by
  induction l with
  | nil => intro a; simp
  | cons c r ih =>
    intro a
    rw [List.foldl_cons, List.length_cons]
    have hc : c - 48 ≤ 9 := by
      have := h c (by simp)
      simp [Fr.dig] at this
      omega
    have := ih (fun d hd => h d (by simp [hd])) (a * 10 + (c - 48))
    have e : (a + 1) * 10 ^ (r.length + 1) = (a * 10 + 10) * 10 ^ r.length := by
      rw [Nat.pow_succ, Nat.mul_comm (10 ^ r.length) 10, ← Nat.mul_assoc, Nat.add_mul, Nat.one_mul]
    rw [e]
    exact Nat.lt_of_lt_of_le this (Nat.mul_le_mul_right _ (by omega))
theorem num_lt' {l : List Nat} {B : Nat} (h : l.all Fr.dig = true) (hB : l.length ≤ B) : Fr.num l < 10 ^ B := by
  have := num_lt l (List.all_eq_true.mp h) 0
  rw [Nat.zero_add, Nat.one_mul] at this
  exact Nat.lt_of_lt_of_le this (Nat.pow_le_pow_right (by decide) hB)
end Nv

namespace Nv
open PySem PySem.Spec PyProof.Rows L2

/-! a name that holds a list or a tuple, walked -/
def iSeqV (K : PySem.W.Frag) (i : Nat) : TI := fun σ H R => ∃ a : Addr, σ[i]? = some (some (.ref a)) ∧ (((∃ xs, SqL K H a xs) ∧ R (Itl K a) H) ∨ ((∃ xs, SqT K H a xs) ∧ R (Itt K a) H))
theorem pi_seqV {X : Cx} {tg e : Expr} {i : Nat} (h : PE X e (tVar i)) : PI X tg e (iSeqV X.K i) := by
  refine ⟨fun pins s σ H R I q => ?_⟩
  obtain ⟨a, hv, ⟨hx, r⟩ | ⟨hx, r⟩⟩ := q
  · exact (pi_list h).run pins s σ H R I ⟨_, hv, a, rfl, hx, r⟩
  · exact (pi_tup h).run pins s σ H R I ⟨_, hv, a, rfl, hx, r⟩
theorem sqT_same {K : PySem.W.Frag} {H H' : Hp} {a : Addr} {xs : List V} (e : Same H H') (h : SqT K H a xs) : SqT K H' a xs :=
  h.elim (fun h => .inl (h.elim (fun h => .inl (e _ _ h)) fun ⟨o, h⟩ => .inr ⟨o, e _ _ h⟩)) fun h => .inr h
theorem lc_seqV {K : PySem.W.Frag} {a : Addr} {xs : List V} {i : Nat} {g : TG} {tt : TT} {te : TE} {vs : List Nat} {σ : L2.St} {H : Hp} {Q : VK} (hv : σ[i]? = some (some (.ref a))) (hx : SqL K H a xs ∨ SqT K H a xs)
    (Pv : Addr → Nat → Hp → Prop) (h0 : ∀ D, H D = none → Pv D 0 (upd H D (.lst []))) (st : ∀ D j H', H D = none → Pv D j H' → Same H H')
    (hs : ∀ D j x H', H D = none → xs[j]? = some x → Pv D j H' → g x (wipe σ vs) H' fun σ2 H2 => wipe σ2 vs = wipe σ vs ∧ tt σ2 H2 fun b H3 =>
      if b = true then te σ2 H3 fun y H4 => ∃ acc, H4 D = some (.lst acc) ∧ acc.length < sizeLine ∧ Pv D (j + 1) (upd H4 D (.lst (acc ++ [y]))) else Pv D (j + 1) H3)
    (hd : ∀ D H', H D = none → Pv D xs.length H' → Q (.ref D) H') : tLc (iSeqV K i) g tt te vs σ H Q := by
  rcases hx with hx | hx
  · refine ⟨a, hv, .inl ⟨⟨xs, hx⟩, fun D hD => ?_⟩⟩
    exact lc_list (K := K) (a := a) (xs := xs) (Pv D) (h0 D hD) (fun j H' _ p => L2.Same.seq (st D j H' hD p) hx) (fun j x H' hj p => hs D j x H' hD hj p) fun H' p => hd D H' hD p
  · refine ⟨a, hv, .inr ⟨⟨xs, hx⟩, fun D hD => ?_⟩⟩
    exact lc_tup (K := K) (a := a) (xs := xs) (Pv D) (h0 D hD) (fun j H' _ p => sqT_same (st D j H' hD p) hx) (fun j x H' hj p => hs D j x H' hD hj p) fun H' p => hd D H' hD p
end Nv

namespace Nv
open PySem L2

/-! what a row of frames was read from -/
theorem dig_val {c : Nat} (h : Fr.dig c = true) : 48 ≤ c ∧ c ≤ 57 := by simpa [Fr.dig] using h
theorem pad_back {l : List Nat} (h4 : l.length = 4) (hd : l.all Fr.dig = true) : l = Fr.pad (Fr.num l) ∧ Fr.num l < 10000 := by
  match l, h4 with
  | [a, b, c, d], _ =>
    have h := List.all_eq_true.mp hd
    have ha := dig_val (h a (by simp))
    have hb := dig_val (h b (by simp))
    have hc := dig_val (h c (by simp))
    have hd' := dig_val (h d (by simp))
    simp only [Fr.num, Fr.pad, List.foldl_cons, List.foldl_nil, List.cons.injEq, and_true]
    refine ⟨⟨?_, ?_, ?_, ?_⟩, ?_⟩ <;> omega
theorem drop_two (l : List Nat) (i j : Nat) : l.drop i = (l.drop i).take j ++ l.drop (i + j) := by
  have := (List.take_append_drop j (l.drop i)).symm
  rw [List.drop_drop] at this
  exact this
theorem fend_split {z : List Nat} {s e : Nat} (h : Fr.fend z s = some e) :
    z.drop s = Fr.frm (Fr.piece z (s + 4) (e - 1)) ++ z.drop e ∧ (Fr.piece z (s + 4) (e - 1)).length < 10000 ∧ e = s + (Fr.piece z (s + 4) (e - 1)).length + 5 := by
  have hb := Fr.fend_bounds h
  unfold Fr.fend at h
  split at h
  · rename_i h1
    split at h
    · rename_i h2
      cases h
      obtain ⟨n, hn⟩ : ∃ n, n = Fr.num ((z.drop s).take 4) := ⟨_, rfl⟩
      obtain ⟨p1, p2⟩ := pad_back h1.1 h1.2
      rw [← hn] at p1 p2 h2 hb ⊢
      have hl : ((z.drop (s + 4 + n)).take 1).length = 1 := by rw [h2]; rfl
      rw [List.length_take, List.length_drop] at hl
      have ep : Fr.piece z (s + 4) (s + 4 + n + 1 - 1) = (z.drop (s + 4)).take n := by
        unfold Fr.piece
        congr 1
        omega
      have lp : ((z.drop (s + 4)).take n).length = n := by
        rw [List.length_take, List.length_drop]
        omega
      rw [ep, lp]
      refine ⟨?_, p2, by omega⟩
      unfold Fr.frm
      rw [lp]
      have e1 : z.drop s = (z.drop s).take 4 ++ z.drop (s + 4) := drop_two z s 4
      have e2 : z.drop (s + 4) = (z.drop (s + 4)).take n ++ z.drop (s + 4 + n) := drop_two z (s + 4) n
      have e3 : z.drop (s + 4 + n) = [46] ++ z.drop (s + 4 + n + 1) := by
        have := drop_two z (s + 4 + n) 1
        rw [h2] at this
        exact this
      conv => lhs; rw [e1, p1, e2, e3]
      simp
    · cases h
  · cases h
theorem rd_take {z : List Nat} : ∀ (n s : Nat) (acc : List (List Nat)), z.take s = Fr.row acc → s = Fr.total acc → s ≤ z.length → (∀ t ∈ acc, t.length < 10000) →
    z.take (Fr.rd z n s acc).2 = Fr.row (Fr.rd z n s acc).1 ∧ (Fr.rd z n s acc).2 = Fr.total (Fr.rd z n s acc).1 ∧ (Fr.rd z n s acc).2 ≤ z.length ∧ ∀ t ∈ (Fr.rd z n s acc).1, t.length < 10000
  | 0, s, acc, h1, h2, h3, h4 => ⟨h1, h2, h3, h4⟩
  | n + 1, s, acc, h1, h2, h3, h4 => by
    rw [Fr.rd]
    cases e : Fr.fend z s with
    | none => exact ⟨h1, h2, h3, h4⟩
    | some x =>
      obtain ⟨k1, k2, k3⟩ := fend_split e
      have hb := Fr.fend_bounds e
      refine rd_take n x _ ?_ ?_ hb.2 ?_
      · have e1 : z.take x = z.take s ++ (z.drop s).take (x - s) := by
          have := List.take_add (l := z) (i := s) (j := x - s)
          rw [show s + (x - s) = x from by omega] at this
          exact this
        rw [e1, h1, k1]
        have lf : (Fr.frm (Fr.piece z (s + 4) (x - 1))).length = x - s := by
          rw [Fr.frm_len]
          omega
        rw [← lf, List.take_left]
        simp [Fr.row]
      · simp only [Fr.total, List.map_append, List.sum_append, List.map_cons, List.map_nil, List.sum_cons, List.sum_nil] at h2 ⊢
        omega
      · intro t ht
        rcases List.mem_append.mp ht with ht | ht
        · exact h4 t ht
        · have : t = Fr.piece z (s + 4) (x - 1) := by simpa using ht
          rw [this]
          exact k2
theorem parse_take (z : List Nat) : z.take (Fr.parse z).2 = Fr.row (Fr.parse z).1 ∧ (Fr.parse z).2 = Fr.total (Fr.parse z).1 ∧ (Fr.parse z).2 ≤ z.length ∧ ∀ t ∈ (Fr.parse z).1, t.length < 10000 :=
  rd_take (z.length + 1) 0 [] rfl rfl (Nat.zero_le _) (by simp)
/-- the texts stand in what was read -/
theorem row_infix {t : List Nat} : ∀ {ts : List (List Nat)}, t ∈ ts → t <:+: Fr.row ts
  | u :: r, h => by
    have e : Fr.row (u :: r) = Fr.pad u.length ++ u ++ ([46] ++ Fr.row r) := by simp [Fr.row, Fr.frm]
    rcases List.mem_cons.mp h with rfl | h
    · exact ⟨Fr.pad t.length, [46] ++ Fr.row r, by rw [e]⟩
    · refine (row_infix h).trans ⟨Fr.pad u.length ++ u ++ [46], [], ?_⟩
      rw [e]
      simp
theorem parse_infix {z t : List Nat} (h : t ∈ (Fr.parse z).1) : t <:+: z := by
  have := (parse_take z).1
  have i := row_infix h
  rw [← this] at i
  exact i.trans (List.take_prefix _ _).isInfix
/-- a numeral is the text of its number -/
theorem numL_back : ∀ (k : Nat) {l : List Nat}, l.length = k → numL l = true → TL.numL (Fr.num l) = l := by
  intro k
  induction k using Nat.strongRecOn with
  | _ k ih =>
    intro l hl h
    unfold numL at h
    simp only [Bool.and_eq_true, decide_eq_true_eq, Bool.or_eq_true, Bool.not_eq_true', decide_eq_false_iff_not] at h
    obtain ⟨⟨h1, h2⟩, h3⟩ := h
    obtain ⟨r, c, rfl⟩ : ∃ r c, l = r ++ [c] := ⟨l.dropLast, l.getLast (by intro q; rw [q] at h1; simp at h1), (List.dropLast_concat_getLast _).symm⟩
    have hc := dig_val (List.all_eq_true.mp h2 c (by simp))
    have ev : Fr.num (r ++ [c]) = Fr.num r * 10 + (c - 48) := by
      unfold Fr.num
      rw [List.foldl_append]
      rfl
    cases r with
    | nil =>
      rw [ev]
      show TL.numL (0 * 10 + (c - 48)) = [c]
      rw [TL.numL_lt (by omega)]
      congr 1
      omega
    | cons d r =>
      have hd : d ≠ 48 := by
        rcases h3 with h3 | h3
        · simp at h3
        · simpa using h3
      have dd := dig_val (List.all_eq_true.mp h2 d (by simp))
      have ok : numL (d :: r) = true := by
        unfold numL
        have a1 : ((d :: r).all Fr.dig) = true := by
          rw [List.all_append] at h2
          simp only [Bool.and_eq_true] at h2
          exact h2.1
        rw [a1]
        simp [hd]
      have hrec := ih (d :: r).length (by rw [← hl]; simp) rfl ok
      have big : 0 < Fr.num (d :: r) := by
        rcases Nat.eq_zero_or_pos (Fr.num (d :: r)) with z | z
        · rw [z, TL.numL_lt (by decide)] at hrec
          injection hrec with q
          omega
        · exact z
      rw [ev, TL.numL_step (by omega)]
      have q1 : (Fr.num (d :: r) * 10 + (c - 48)) / 10 = Fr.num (d :: r) := by omega
      have q2 : 48 + (Fr.num (d :: r) * 10 + (c - 48)) % 10 = c := by omega
      rw [q1, q2, hrec]
/-! a text that falls into four parts -/
theorem first_blank : ∀ l : List Nat, (∀ d ∈ l, d ≠ 32) ∨ ∃ a r, l = a ++ 32 :: r ∧ ∀ d ∈ a, d ≠ 32
  | [] => .inl (by simp)
  | c :: l => by
    by_cases h : c = 32
    · exact .inr ⟨[], l, by rw [h]; rfl, by simp⟩
    · rcases first_blank l with q | ⟨a, r, e, q⟩
      · refine .inl fun d hd => ?_
        rcases List.mem_cons.mp hd with rfl | hd
        · exact h
        · exact q d hd
      · refine .inr ⟨c :: a, r, by rw [e]; rfl, fun d hd => ?_⟩
        rcases List.mem_cons.mp hd with rfl | hd
        · exact h
        · exact q d hd
theorem occL_free {l : List Nat} {i k : Nat} (h : ∀ d ∈ l, d ≠ 32) : occL l i k = [] := by
  have := occL_skip (a := l) (r := []) (k := k) h i
  rw [List.append_nil] at this
  rw [this]
  rfl
open Builtin.Str StrLaws in
theorem four_parts {x a b c t : Str} (h : Txt.splitMax x (Str.ofString " ") 3 = [a, b, c, t]) : sg x = sg a ++ 32 :: (sg b ++ 32 :: (sg c ++ 32 :: sg t)) ∧ (∀ d ∈ sg a, d ≠ 32) ∧ (∀ d ∈ sg b, d ≠ 32) ∧ (∀ d ∈ sg c, d ≠ 32) := by
  have len : (occL (sg x) 0 3).length = 3 := by
    have h2 := h
    unfold Txt.splitMax at h2
    split at h2
    · cases h2
    · split at h2
      · cases h2
      · have := congrArg List.length h2
        rw [length_partsBetween, sp_is, occ_is] at this
        have e : limitOf x 3 = 3 := rfl
        rw [e] at this
        simpa using this
  rcases first_blank (sg x) with q | ⟨a', r1, e1, qa⟩
  · rw [occL_free q] at len
    cases len
  · rcases first_blank r1 with q | ⟨b', r2, e2, qb⟩
    · rw [e1, occL_skip qa, occL_hit, occL_free q] at len
      cases len
    · rcases first_blank r2 with q | ⟨c', t', e3, qc⟩
      · rw [e1, occL_skip qa, occL_hit, e2, occL_skip qb, occL_hit, occL_free q] at len
        cases len
      · have e : sg x = a' ++ 32 :: (b' ++ 32 :: (c' ++ 32 :: t')) := by rw [e1, e2, e3]
        have s := split_four e qa qb qc
        rw [s] at h
        simp only [List.cons.injEq, and_true] at h
        obtain ⟨rfl, rfl, rfl, rfl⟩ := h
        rw [sg_tx, sg_tx, sg_tx, sg_tx]
        exact ⟨e, qa, qb, qc⟩
end Nv

namespace Nv
open PySem L2

/-! a text parted at its blanks -/
def splitL : List Nat → List (List Nat)
  | [] => [[]]
  | c :: r => if c = 32 then [] :: splitL r else match splitL r with
    | [] => [[c]]
    | p :: ps => (c :: p) :: ps
theorem splitL_ne : ∀ l, splitL l ≠ []
  | [] => by simp [splitL]
  | c :: r => by
    unfold splitL
    split
    · simp
    · split <;> simp
theorem splitL_free {l : List Nat} (h : ∀ d ∈ l, d ≠ 32) : splitL l = [l] := by
  induction l with
  | nil => rfl
  | cons c r ih =>
    unfold splitL
    rw [if_neg (h c (by simp)), ih fun d hd => h d (by simp [hd])]
theorem splitL_cons {a r : List Nat} (h : ∀ d ∈ a, d ≠ 32) : splitL (a ++ 32 :: r) = a :: splitL r := by
  induction a with
  | nil =>
    show splitL (32 :: r) = _
    conv => lhs; unfold splitL
    rw [if_pos rfl]
  | cons c a ih =>
    show splitL (c :: (a ++ 32 :: r)) = _
    conv => lhs; unfold splitL
    rw [if_neg (h c (by simp)), ih fun d hd => h d (by simp [hd])]
theorem occL_more : ∀ (l : List Nat) (i k m : Nat), l.length ≤ k → l.length ≤ m → occL l i k = occL l i m
  | [], i, k, m, _, _ => rfl
  | c :: r, i, k, m, h1, h2 => by
    simp only [List.length_cons] at h1 h2
    rw [occL_cons, occL_cons]
    by_cases hc : c = 32
    · rw [if_pos ⟨by omega, hc⟩, if_pos ⟨by omega, hc⟩, occL_more r (i + 1) (k - 1) (m - 1) (by omega) (by omega)]
    · rw [if_neg (fun q => hc q.2), if_neg (fun q => hc q.2), occL_more r (i + 1) k m (by omega) (by omega)]
theorem occL_shift : ∀ (l : List Nat) (i p k : Nat), occL l (p + i) k = (occL l i k).map (p + ·)
  | [], i, p, k => rfl
  | c :: r, i, p, k => by
    rw [occL_cons, occL_cons]
    split
    · rw [List.map_cons, show p + i + 1 = p + (i + 1) from by omega, occL_shift r]
    · rw [show p + i + 1 = p + (i + 1) from by omega, occL_shift r]
open Builtin.Str StrLaws in
theorem sub_shift {x : Str} {p r : List Nat} (e : sg x = p ++ r) (i j : Nat) : strSub x (p.length + i) (p.length + j) = strSub (tx r) i j := by
  apply sg_inj
  rw [sub_sg, sub_sg, sg_tx, e, ← List.drop_drop, List.drop_left]
  congr 1
  omega
open Builtin.Str StrLaws in
theorem parts_shift {x : Str} {p r : List Nat} (e : sg x = p ++ r) : ∀ (cuts : List Nat) (a : Nat), partsFrom x 1 (p.length + a) (cuts.map (p.length + ·)) = partsFrom (tx r) 1 a cuts
  | [], a => by
    have hx : x.length = p.length + r.length := by rw [← sg_len, e, List.length_append]
    show [strSub x (p.length + a) x.length] = [strSub (tx r) a (tx r).length]
    rw [hx, sub_shift e, tx_len]
  | c :: cuts, a => by
    show strSub x (p.length + a) (p.length + c) :: partsFrom x 1 (p.length + c + 1) (cuts.map (p.length + ·)) = strSub (tx r) a c :: partsFrom (tx r) 1 (c + 1) cuts
    rw [sub_shift e, show p.length + c + 1 = p.length + (c + 1) from by omega, parts_shift e cuts]
open Builtin.Str StrLaws in
theorem split_from (x : Str) : Txt.split x (Str.ofString " ") = partsFrom x 1 0 (occL (sg x) 0 (x.length + 1)) := by
  have one : (⟨#[32]⟩ : Str).length = 1 := rfl
  have whole : [x] = partsFrom x 1 0 [] := by
    show [x] = [strSub x 0 x.length]
    rw [sub_whole]
  unfold Txt.split
  rw [sp_is, occ_is, one]
  split
  · rename_i h
    have k1 : Builtin.Str.strKind (⟨#[32]⟩ : Str) = 1 := by decide +kernel
    have k2 : 1 ≤ Builtin.Str.strKind x := by
      unfold Builtin.Str.strKind
      split
      · decide
      · split <;> decide
    rw [k1] at h
    simp only [Bool.or_eq_true, decide_eq_true_eq] at h
    have : sg x = [] := List.length_eq_zero_iff.mp (by rw [sg_len]; omega)
    rw [this]
    exact whole
  · split
    · rename_i h
      rw [List.isEmpty_iff.mp h]
      exact whole
    · rw [partsBetween_eq]
open Builtin.Str StrLaws in
theorem split_parts : ∀ (n : Nat) (x : Str), x.length = n → Txt.split x (Str.ofString " ") = (splitL (sg x)).map tx := by
  intro n
  induction n using Nat.strongRecOn with
  | _ n ih =>
    intro x hx
    rw [split_from]
    rcases first_blank (sg x) with q | ⟨a, r, e, q⟩
    · rw [occL_free q, splitL_free q]
      show [strSub x 0 x.length] = [tx (sg x)]
      rw [sub_whole, tx_sg]
    · have hl : x.length = a.length + (r.length + 1) := by rw [← sg_len, e, List.length_append, List.length_cons]
      rw [e, splitL_cons q, occL_skip q, occL_hit, List.map_cons]
      show strSub x 0 (0 + a.length) :: partsFrom x 1 (0 + a.length + 1) (occL r (0 + a.length + 1) x.length) = tx a :: _
      have e2 : sg x = (a ++ [32]) ++ r := by rw [e]; simp
      have lp : (a ++ [32]).length = a.length + 1 := by simp
      congr 1
      · apply sg_inj
        rw [sub_sg, sg_tx, e, List.drop_zero, show 0 + a.length - 0 = a.length from by omega, List.take_left]
      · have o := occL_shift r 0 (a ++ [32]).length x.length
        rw [lp] at o
        rw [show 0 + a.length + 1 = a.length + 1 + 0 from by omega, o]
        have ps := parts_shift e2 (occL r 0 x.length) 0
        rw [lp] at ps
        rw [ps, occL_more r 0 x.length (r.length + 1) (by omega) (by omega)]
        have := ih r.length (by omega) (tx r) (tx_len r)
        rw [split_from, sg_tx, tx_len] at this
        exact this
theorem split_is (x : Str) : Txt.split x (Str.ofString " ") = (splitL (sg x)).map tx := split_parts x.length x rfl
/-- the parts put together again -/
theorem splitL_join : ∀ n (l : List Nat), l.length = n → ∃ p ps, splitL l = p :: ps ∧ l = p ++ (ps.map fun q => 32 :: q).flatten ∧ ∀ q ∈ splitL l, ∀ d ∈ q, d ≠ 32 := by
  intro n
  induction n using Nat.strongRecOn with
  | _ n ih =>
    intro l hl
    rcases first_blank l with q | ⟨a, r, e, q⟩
    · refine ⟨l, [], splitL_free q, by simp, fun u hu => ?_⟩
      rw [splitL_free q] at hu
      have e : u = l := by simpa using hu
      rw [e]
      exact q
    · have hl2 : l.length = a.length + (r.length + 1) := by rw [e, List.length_append, List.length_cons]
      obtain ⟨p, ps, h1, h2, h3⟩ := ih r.length (by omega) r rfl
      have e1 : splitL l = a :: p :: ps := by rw [e, splitL_cons q, h1]
      refine ⟨a, p :: ps, e1, ?_, ?_⟩
      · rw [e, List.map_cons, List.flatten_cons]
        show a ++ 32 :: r = a ++ (32 :: p ++ _)
        rw [List.cons_append, ← h2]
      · intro u hu
        rw [e1] at hu
        rcases List.mem_cons.mp hu with rfl | hu
        · exact q
        · exact h3 u (by rw [h1]; exact hu)
end Nv

namespace Nv
open PySem PySem.Spec PyProof.Rows L2

/-! data whose outermost list may stand anywhere -/
inductive DR (H : Hp) : V → PyData → Prop
  | dv {v : V} {d : PyData} : DV H v d → DR H v d
  | raw {a : Addr} {xs : List V} {ds : List PyData} : H a = some (.lst xs) → DVs H xs ds → DR H (.ref a) (.list ds)
inductive DRs (H : Hp) : List V → List PyData → Prop
  | nil : DRs H [] []
  | cons {v : V} {vs : List V} {d : PyData} {ds : List PyData} : DR H v d → DRs H vs ds → DRs H (v :: vs) (d :: ds)
theorem DR.mono {H H' : Hp} (e : ∀ a o, H a = some o → H' a = some o) {v : V} {d : PyData} : DR H v d → DR H' v d
  | .dv h => .dv (h.mono e)
  | .raw h r => .raw (e _ _ h) (r.mono e)
theorem DRs.mono {H H' : Hp} (e : ∀ a o, H a = some o → H' a = some o) : ∀ {vs : List V} {ds : List PyData}, DRs H vs ds → DRs H' vs ds
  | _, _, .nil => .nil
  | _, _, .cons a r => .cons (a.mono e) (r.mono e)
theorem DR.ty {K : PySem.W.Frag} {H : Hp} {v : V} {d : PyData} : DR H v d → TyX K H v (.type (tyName d))
  | .dv h => h.ty
  | .raw h r => .base (.lst h)
section
variable {X : Cx} {pins : List (Addr × Obj)} {σ : L2.St} {H : Hp} {s : Shared}
/-- what repr wants of a value -/
def RepK (X : Cx) (s : Shared) (u : Value) (d : PyData) : Prop := ∃ as bs, Reads s.heap u d as ∧ ReadAtMost s.heap d.depth bs ∧ ReprK X.prog X.w bs s.heap d.depth u d.shown
theorem DR.reads (I : Inv X pins σ H s) {v : V} {d : PyData} {u : Value} (h : DR H v d) (r : RelV v u) : ∃ as, Reads s.heap u d as := by
  cases h with
  | dv h =>
    obtain ⟨as, h, _⟩ := h.reads I r
    exact ⟨as, h⟩
  | @raw a xs ds ha hd =>
    cases (show u = Value.ref a from r)
    obtain ⟨_, its, m, rv, e⟩ := (show ObjOk X.prog X.w H s.heap a (.lst xs) from I.hok a _ ha)
    obtain ⟨as, ra, na⟩ := DVs.reads I hd rv
    exact ⟨_, .list e rfl rfl ra⟩
theorem DR.rep (I : Inv X pins σ H s) {v : V} {d : PyData} {u : Value} (h : DR H v d) (r : RelV v u) (hs : d.showable = true) (hz : d.shown.length ≤ sizeLine) : RepK X s u d := by
  cases h with
  | dv h =>
    obtain ⟨as, h, na⟩ := h.reads I r
    obtain ⟨bs, h1, h2⟩ := ReprK.of_reads (prog := X.prog) (w := X.w) h hs (fun _ => na) hz
    exact ⟨as, bs, h, h1, h2⟩
  | @raw a xs ds ha hd =>
    cases (show u = Value.ref a from r)
    obtain ⟨_, its, m, rv, e⟩ := (show ObjOk X.prog X.w H s.heap a (.lst xs) from I.hok a _ ha)
    obtain ⟨as, ra, na⟩ := DVs.reads I hd rv
    have sz : (listText (PyData.shownAll ds)).length ≤ sizeLine := by simpa only [PyData.shown] using hz
    obtain ⟨bs, deep, parts⟩ := ReprAllK.of_readsAll (prog := X.prog) (w := X.w) ra (by simpa only [PyData.showable] using hs) (fun _ => na)
      (fun t ht => Nat.le_trans (listText_mem_le ht) sz)
    have rd : Reads s.heap (.ref a) (.list ds) _ := .list e rfl rfl ra
    have dp : (PyData.list ds).depth = PyData.depthAll ds + 1 := by simp only [PyData.depth]
    have apart : a ∉ bs := not_mem_of_deeper rd (by omega) deep
    refine ⟨_, a :: bs, rd, ?_, ?_⟩
    · intro b hb
      rcases List.mem_cons.mp hb with rfl | hb
      · exact ⟨_, _, rd, Nat.le_refl _⟩
      · obtain ⟨d, as, h1, h2⟩ := deep b hb
        exact ⟨d, as, h1, by omega⟩
    · cases its with
      | nil =>
        cases ra
        have : ReprK X.prog X.w bs s.heap (PyData.list []).depth (.ref a) (PyData.list []).shown := ReprK.listEmpty e rfl rfl
        exact this.more fun b hb => by simp [hb]
      | cons x l =>
        have := ReprK.list (x := x) (l := l) e rfl rfl apart (by simpa using parts.length_eq) (fun i y z => parts.item i y (by simpa using z))
        simpa only [PyData.shown, dp] using this
theorem DRs.rep (I : Inv X pins σ H s) : ∀ {vs : List V} {ds : List PyData} {us : List Value}, DRs H vs ds → Vals vs us → PyData.showableAll ds = true → (∀ t ∈ PyData.shownAll ds, t.length ≤ sizeLine) →
    ∃ as bs, ReadsAll s.heap us ds as ∧ ReadAtMost s.heap (PyData.depthAll ds) bs ∧ ReprAllK X.prog X.w bs s.heap (PyData.depthAll ds) us (PyData.shownAll ds)
  | _, _, us, .nil, r, _, _ => by
    cases r
    exact ⟨[], [], .nil, fun b hb => by simp at hb, .nil⟩
  | _, _, us, @DRs.cons _ v vs d ds a q, r, hs, hz => by
    cases r with
    | cons r1 r2 =>
      simp only [PyData.showableAll, Bool.and_eq_true] at hs
      obtain ⟨as1, bs1, h1, h2, h3⟩ := a.rep I r1 hs.1 (hz _ (by simp [PyData.shownAll]))
      obtain ⟨as2, bs2, g1, g2, g3⟩ := DRs.rep I q r2 hs.2 (fun t ht => hz t (by simp [PyData.shownAll, ht]))
      have m1 : d.depth ≤ PyData.depthAll (d :: ds) := by simp only [PyData.depthAll]; omega
      have m2 : PyData.depthAll ds ≤ PyData.depthAll (d :: ds) := by simp only [PyData.depthAll]; omega
      refine ⟨_, bs1 ++ bs2, .cons h1 g1, ?_, ?_⟩
      · intro b hb
        rcases List.mem_append.mp hb with hb | hb
        · obtain ⟨d', as, z1, z2⟩ := h2 b hb
          exact ⟨d', as, z1, by omega⟩
        · obtain ⟨d', as, z1, z2⟩ := g2 b hb
          exact ⟨d', as, z1, by omega⟩
      · simp only [PyData.shownAll]
        exact .cons ((h3.level_le m1).more fun b hb => by simp [hb]) (g3.more_le (fun b hb => by simp [hb]) m2)
end
/-- repr of a list of such data, the list itself anywhere -/
def rReprR : List V → Hp → VK → Prop := fun xs H Q => ∃ (a : Addr) (ys : List V) (ds : List PyData), xs = [.ref a] ∧ H a = some (.lst ys) ∧ DRs H ys ds ∧
  (PyData.list ds).showable = true ∧ (PyData.list ds).depth ≤ 60 ∧ (PyData.list ds).shown.length ≤ sizeLine ∧ Q (.str (PyData.list ds).shown) H
theorem call_reprR {X : Cx} (hG : X.A.guards = some []) (hu : X.A.units + 64 < cLine) : CallR X (.builtin "repr") rReprR := by
  intro pins s σ H xs us Q I r h
  obtain ⟨a, ys, ds, rfl, ha, hd, hs, hp, hz, q⟩ := h
  obtain ⟨u, rfl, rx⟩ := vals1 r
  cases (show u = Value.ref a from rx)
  obtain ⟨_, its, m, rv, e⟩ := (show ObjOk X.prog X.w H s.heap a (.lst ys) from I.hok a _ ha)
  have sz : (listText (PyData.shownAll ds)).length ≤ sizeLine := by simpa only [PyData.shown] using hz
  obtain ⟨as, bs, ra, deep, parts⟩ := DRs.rep I hd rv (by simpa only [PyData.showable] using hs) (fun t ht => Nat.le_trans (listText_mem_le ht) sz)
  have apart : a ∉ bs := not_mem_of_deeper (.list e rfl rfl ra) (by simp only [PyData.depth]; omega) deep
  have dp : (PyData.list ds).depth = PyData.depthAll ds + 1 := by simp only [PyData.depth]
  have fin : ∀ (h' : Heap) (t : Tok) (k : Nat), (∀ b o, s.heap.get? b = some o → h'.get? b = some o) → EP X pins σ Q (.str (PyData.list ds).shown t) { s with heap := h', toks := k } :=
    fun h' t k keep => ⟨.str (PyData.list ds).shown, H, I.kept keep, ⟨t, rfl⟩, q⟩
  refine call_repr_slot (by omega) (show s.TypeIs (.ref a) "list" from ⟨_, e, rfl⟩) F.slot_list_repr.toG ?_
  cases its with
  | nil =>
    cases ra
    have : EP X pins σ Q (.str "[]" s.toks) { s with toks := s.toks + 1 } := by
      have z := fin s.heap s.toks (s.toks + 1) fun _ _ w => w
      simpa only [PyData.shown, PyData.shownAll, listText_nil] using z
    exact call_list_repr_empty ⟨_, e, rfl⟩ e rfl ⟨_, _, rfl, this⟩
  | cons x l =>
    refine call_list_reprK e rfl rfl apart (by simpa using parts.length_eq) (fun i y z => parts.item i y (by simpa using z)) hG (fun b _ => Clear.nil b) (by show X.A.units + 1 + _ < cLine; omega) (fun _ _ z => z) (fun h' t k keep => ⟨_, _, rfl, ?_⟩) sz
    have z := fin h' t k keep
    simpa only [PyData.shown] using z
def rReprAR : List V → Hp → VK → Prop := fun xs H Q => rReprR xs H Q ∨ rReprA xs H Q
theorem call_reprAR {X : Cx} (hG : X.A.guards = some []) (hu : X.A.units + 64 < cLine) : CallR X (.builtin "repr") rReprAR := CallR.or (call_reprR hG hu) (call_reprA hG hu)
end Nv

namespace K06
open PySem L2 Nv
def top (i : Nat) : Stmt := PySem.Challenge.pw_neverunsaid_k06_whole_logs_behind_falls.main.body.getD i (.Pass ⟨0, 0, 0, 0⟩)
abbrev s_is_int : Stmt := top 1
abbrev s_is_count : Stmt := top 2
abbrev s_is_list : Stmt := top 3
abbrev s_is_signs : Stmt := top 4
abbrev s_is_numeral : Stmt := top 5
abbrev s_is_cell : Stmt := top 16
abbrev s_is_text : Stmt := top 17
abbrev s_is_line : Stmt := top 18
abbrev s_line_text : Stmt := top 19
abbrev s_line_in : Stmt := top 20
abbrev s_are_lines : Stmt := top 22
abbrev s_framed : Stmt := top 27
abbrev s_frames_in : Stmt := top 28
abbrev s_frame_end : Stmt := top 29
abbrev s_Log_init : Stmt := inClass (top 31) 0
abbrev s_Log___len__ : Stmt := inClass (top 31) 2
abbrev s_Log_put : Stmt := inClass (top 31) 3
abbrev s_lines_on : Stmt := top 32
abbrev s_frames_of : Stmt := top 33
abbrev s_Disk_init : Stmt := inClass (top 35) 0
abbrev s_Disk_put : Stmt := inClass (top 35) 3
abbrev s_Disk_sync : Stmt := inClass (top 35) 4
abbrev s_Disk_trim : Stmt := inClass (top 35) 5
abbrev s_Disk_fall : Stmt := inClass (top 35) 6
abbrev s_Disk_lose : Stmt := inClass (top 35) 7
abbrev s_Disk__leave : Stmt := inClass (top 35) 8
abbrev s_l_cell : Stmt := top 37
abbrev s_l_box : Stmt := top 38
abbrev s_l_take : Stmt := top 39
abbrev s_l_letters : Stmt := top 40
abbrev s_l_words : Stmt := top 41
abbrev s_l_line : Stmt := top 42
abbrev s_l_lines : Stmt := top 43
abbrev s_l_text : Stmt := top 44
abbrev s_l_frame : Stmt := top 45
abbrev s_l_file : Stmt := top 46
abbrev s_l_number : Stmt := top 47
abbrev s_l_read_line : Stmt := top 48
abbrev s_l_read : Stmt := top 49
abbrev s_l_near : Stmt := top 50
abbrev s_l_by_hand : Stmt := top 51
abbrev s_l_is : Stmt := top 52
abbrev s_l_open : Stmt := top 53
abbrev s_l_put : Stmt := top 54
abbrev s_l_spoilt : Stmt := top 55
abbrev s_l_odd : Stmt := top 56
abbrev s_l_refused : Stmt := top 57
abbrev s_l_places : Stmt := top 58
abbrev s_l_figures : Stmt := top 59
abbrev s_l_fallen : Stmt := top 60
abbrev s_l_pieces : Stmt := top 61
abbrev s_l_many_right : Stmt := top 62
abbrev s_l_right : Stmt := top 63
abbrev s_law : Stmt := top 64
abbrev s_InvalidLine_init : Stmt := inClass (top 8) 0
theorem sc_InvalidLine_init : FnScope ["self", "given"] ["self", "given"] (defScope s_InvalidLine_init) := ⟨rfl, rfl, rfl, by decide +kernel, rfl, by decide +kernel, by decide +kernel⟩
abbrev s_InvalidText_init : Stmt := inClass (top 9) 0
theorem sc_InvalidText_init : FnScope ["self", "given"] ["self", "given"] (defScope s_InvalidText_init) := ⟨rfl, rfl, rfl, by decide +kernel, rfl, by decide +kernel, by decide +kernel⟩
abbrev s_InvalidSigns_init : Stmt := inClass (top 10) 0
theorem sc_InvalidSigns_init : FnScope ["self", "given"] ["self", "given"] (defScope s_InvalidSigns_init) := ⟨rfl, rfl, rfl, by decide +kernel, rfl, by decide +kernel, by decide +kernel⟩
abbrev s_InvalidCount_init : Stmt := inClass (top 11) 0
theorem sc_InvalidCount_init : FnScope ["self", "given"] ["self", "given"] (defScope s_InvalidCount_init) := ⟨rfl, rfl, rfl, by decide +kernel, rfl, by decide +kernel, by decide +kernel⟩
abbrev s_InvalidLines_init : Stmt := inClass (top 12) 0
theorem sc_InvalidLines_init : FnScope ["self", "given"] ["self", "given"] (defScope s_InvalidLines_init) := ⟨rfl, rfl, rfl, by decide +kernel, rfl, by decide +kernel, by decide +kernel⟩
abbrev s_Disk_text : Stmt := inClass (top 35) 1
theorem sc_Disk_text : FnScope ["self"] ["self"] (defScope s_Disk_text) := ⟨rfl, rfl, rfl, by decide +kernel, rfl, by decide +kernel, by decide +kernel⟩
abbrev s_Disk_synced : Stmt := inClass (top 35) 2
theorem sc_Disk_synced : FnScope ["self"] ["self"] (defScope s_Disk_synced) := ⟨rfl, rfl, rfl, by decide +kernel, rfl, by decide +kernel, by decide +kernel⟩
abbrev s_Log_lines : Stmt := inClass (top 31) 1
theorem sc_Log_lines : FnScope ["self"] ["self"] (defScope s_Log_lines) := ⟨rfl, rfl, rfl, by decide +kernel, rfl, by decide +kernel, by decide +kernel⟩
theorem sc_is_int : FnScope ["value"] ["value"] (defScope s_is_int) := ⟨rfl, rfl, rfl, by decide +kernel, rfl, by decide +kernel, by decide +kernel⟩
theorem sc_is_count : FnScope ["value"] ["value"] (defScope s_is_count) := ⟨rfl, rfl, rfl, by decide +kernel, rfl, by decide +kernel, by decide +kernel⟩
theorem sc_is_list : FnScope ["value"] ["value"] (defScope s_is_list) := ⟨rfl, rfl, rfl, by decide +kernel, rfl, by decide +kernel, by decide +kernel⟩
theorem sc_is_signs : FnScope ["value"] ["value"] (defScope s_is_signs) := ⟨rfl, rfl, rfl, by decide +kernel, rfl, by decide +kernel, by decide +kernel⟩
theorem sc_is_numeral : FnScope ["text"] ["text"] (defScope s_is_numeral) := ⟨rfl, rfl, rfl, by decide +kernel, rfl, by decide +kernel, by decide +kernel⟩
theorem sc_is_cell : FnScope ["value"] ["value"] (defScope s_is_cell) := ⟨rfl, rfl, rfl, by decide +kernel, rfl, by decide +kernel, by decide +kernel⟩
theorem sc_is_text : FnScope ["value"] ["value"] (defScope s_is_text) := ⟨rfl, rfl, rfl, by decide +kernel, rfl, by decide +kernel, by decide +kernel⟩
theorem sc_is_line : FnScope ["value", "home", "number", "cell", "text"] ["value"] (defScope s_is_line) := ⟨rfl, rfl, rfl, by decide +kernel, rfl, by decide +kernel, by decide +kernel⟩
theorem sc_line_text : FnScope ["line", "home", "number", "cell", "text"] ["line"] (defScope s_line_text) := ⟨rfl, rfl, rfl, by decide +kernel, rfl, by decide +kernel, by decide +kernel⟩
theorem sc_line_in : FnScope ["value", "parts", "line"] ["value"] (defScope s_line_in) := ⟨rfl, rfl, rfl, by decide +kernel, rfl, by decide +kernel, by decide +kernel⟩
theorem sc_are_lines : FnScope ["value", "line"] ["value"] (defScope s_are_lines) := ⟨rfl, rfl, rfl, by decide +kernel, rfl, by decide +kernel, by decide +kernel⟩
theorem sc_framed : FnScope ["text"] ["text"] (defScope s_framed) := ⟨rfl, rfl, rfl, by decide +kernel, rfl, by decide +kernel, by decide +kernel⟩
theorem sc_frames_in : FnScope ["signs", "texts", "good", "end"] ["signs"] (defScope s_frames_in) := ⟨rfl, rfl, rfl, by decide +kernel, rfl, by decide +kernel, by decide +kernel⟩
theorem sc_frame_end : FnScope ["signs", "start", "figures", "end"] ["signs", "start"] (defScope s_frame_end) := ⟨rfl, rfl, rfl, by decide +kernel, rfl, by decide +kernel, by decide +kernel⟩
theorem sc_Log_init : FnScope ["self", "disk", "lines"] ["self", "disk"] (defScope s_Log_init) := ⟨rfl, rfl, rfl, by decide +kernel, rfl, by decide +kernel, by decide +kernel⟩
theorem sc_Log___len__ : FnScope ["self"] ["self"] (defScope s_Log___len__) := ⟨rfl, rfl, rfl, by decide +kernel, rfl, by decide +kernel, by decide +kernel⟩
theorem sc_Log_put : FnScope ["self", "lines"] ["self", "lines"] (defScope s_Log_put) := ⟨rfl, rfl, rfl, by decide +kernel, rfl, by decide +kernel, by decide +kernel⟩
theorem sc_lines_on : FnScope ["disk", "texts", "_", "lines", "text", "line"] ["disk"] (defScope s_lines_on) := ⟨rfl, rfl, rfl, by decide +kernel, rfl, by decide +kernel, by decide +kernel⟩
theorem sc_frames_of : FnScope ["lines", "line"] ["lines"] (defScope s_frames_of) := ⟨rfl, rfl, rfl, by decide +kernel, rfl, by decide +kernel, by decide +kernel⟩
theorem sc_Disk_init : FnScope ["self"] ["self"] (defScope s_Disk_init) := ⟨rfl, rfl, rfl, by decide +kernel, rfl, by decide +kernel, by decide +kernel⟩
theorem sc_Disk_put : FnScope ["self", "signs"] ["self", "signs"] (defScope s_Disk_put) := ⟨rfl, rfl, rfl, by decide +kernel, rfl, by decide +kernel, by decide +kernel⟩
theorem sc_Disk_sync : FnScope ["self"] ["self"] (defScope s_Disk_sync) := ⟨rfl, rfl, rfl, by decide +kernel, rfl, by decide +kernel, by decide +kernel⟩
theorem sc_Disk_trim : FnScope ["self", "many"] ["self", "many"] (defScope s_Disk_trim) := ⟨rfl, rfl, rfl, by decide +kernel, rfl, by decide +kernel, by decide +kernel⟩
theorem sc_Disk_fall : FnScope ["self", "keep", "loose"] ["self", "keep"] (defScope s_Disk_fall) := ⟨rfl, rfl, rfl, by decide +kernel, rfl, by decide +kernel, by decide +kernel⟩
theorem sc_Disk_lose : FnScope ["self", "many"] ["self", "many"] (defScope s_Disk_lose) := ⟨rfl, rfl, rfl, by decide +kernel, rfl, by decide +kernel, by decide +kernel⟩
theorem sc_Disk__leave : FnScope ["self", "many"] ["self", "many"] (defScope s_Disk__leave) := ⟨rfl, rfl, rfl, by decide +kernel, rfl, by decide +kernel, by decide +kernel⟩
theorem sc_l_cell : FnScope ["script", "k"] ["script", "k"] (defScope s_l_cell) := ⟨rfl, rfl, rfl, by decide +kernel, rfl, by decide +kernel, by decide +kernel⟩
theorem sc_l_box : FnScope ["great"] ["great"] (defScope s_l_box) := ⟨rfl, rfl, rfl, by decide +kernel, rfl, by decide +kernel, by decide +kernel⟩
theorem sc_l_take : FnScope ["box", "many", "digit", "mixed"] ["box", "many"] (defScope s_l_take) := ⟨rfl, rfl, rfl, by decide +kernel, rfl, by decide +kernel, by decide +kernel⟩
theorem sc_l_letters : FnScope ["box", "turn"] ["box"] (defScope s_l_letters) := ⟨rfl, rfl, rfl, by decide +kernel, rfl, by decide +kernel, by decide +kernel⟩
theorem sc_l_words : FnScope ["box", "alphabet", "kind", "at", "many", "turn"] ["box"] (defScope s_l_words) := ⟨rfl, rfl, rfl, by decide +kernel, rfl, by decide +kernel, by decide +kernel⟩
theorem sc_l_line : FnScope ["box", "most", "numbers", "home", "number", "cell"] ["box", "most"] (defScope s_l_line) := ⟨rfl, rfl, rfl, by decide +kernel, rfl, by decide +kernel, by decide +kernel⟩
theorem sc_l_lines : FnScope ["box", "elder", "found", "turn"] ["box", "elder"] (defScope s_l_lines) := ⟨rfl, rfl, rfl, by decide +kernel, rfl, by decide +kernel, by decide +kernel⟩
theorem sc_l_text : FnScope ["line", "home", "number", "cell", "text"] ["line"] (defScope s_l_text) := ⟨rfl, rfl, rfl, by decide +kernel, rfl, by decide +kernel, by decide +kernel⟩
theorem sc_l_frame : FnScope ["text", "many"] ["text"] (defScope s_l_frame) := ⟨rfl, rfl, rfl, by decide +kernel, rfl, by decide +kernel, by decide +kernel⟩
theorem sc_l_file : FnScope ["lines", "line"] ["lines"] (defScope s_l_file) := ⟨rfl, rfl, rfl, by decide +kernel, rfl, by decide +kernel, by decide +kernel⟩
theorem sc_l_number : FnScope ["word", "sign"] ["word"] (defScope s_l_number) := ⟨rfl, rfl, rfl, by decide +kernel, rfl, by decide +kernel, by decide +kernel⟩
theorem sc_l_read_line : FnScope ["text", "parts", "home", "number", "cell", "words", "sign"] ["text"] (defScope s_l_read_line) := ⟨rfl, rfl, rfl, by decide +kernel, rfl, by decide +kernel, by decide +kernel⟩
theorem sc_l_read : FnScope ["signs", "found", "good", "turn", "head", "sign", "end", "line"] ["signs"] (defScope s_l_read) := ⟨rfl, rfl, rfl, by decide +kernel, rfl, by decide +kernel, by decide +kernel⟩
theorem sc_l_near : FnScope ["box", "line", "home", "number", "cell", "text", "whole", "kind", "at", "sign"] ["box", "line"] (defScope s_l_near) := ⟨rfl, rfl, rfl, by decide +kernel, rfl, by decide +kernel, by decide +kernel⟩
theorem sc_l_by_hand : FnScope ["box", "found", "turn"] ["box"] (defScope s_l_by_hand) := ⟨rfl, rfl, rfl, by decide +kernel, rfl, by decide +kernel, by decide +kernel⟩
theorem sc_l_is : FnScope ["disk", "log", "state", "lines", "signs", "told", "due"] ["disk", "log", "state"] (defScope s_l_is) := ⟨rfl, rfl, rfl, by decide +kernel, rfl, by decide +kernel, by decide +kernel⟩
theorem sc_l_open : FnScope ["disk", "state", "signs", "turn", "lines", "good"] ["disk", "state", "signs", "turn"] (defScope s_l_open) := ⟨rfl, rfl, rfl, by decide +kernel, rfl, by decide +kernel, by decide +kernel⟩
theorem sc_l_put : FnScope ["log", "state", "lines", "turn", "kept", "told", "same"] ["log", "state", "lines", "turn"] (defScope s_l_put) := ⟨rfl, rfl, rfl, by decide +kernel, rfl, by decide +kernel, by decide +kernel⟩
theorem sc_l_spoilt : FnScope ["box", "line", "way", "kind", "home", "number", "cell", "text", "counts", "whole"] ["box", "line"] (defScope s_l_spoilt) := ⟨rfl, rfl, rfl, by decide +kernel, rfl, by decide +kernel, by decide +kernel⟩
theorem sc_l_odd : FnScope ["box", "elder", "kind", "lines"] ["box", "elder"] (defScope s_l_odd) := ⟨rfl, rfl, rfl, by decide +kernel, rfl, by decide +kernel, by decide +kernel⟩
theorem sc_l_refused : FnScope ["log", "value", "turn", "kept", "told", "e"] ["log", "value", "turn"] (defScope s_l_refused) := ⟨rfl, rfl, rfl, by decide +kernel, rfl, by decide +kernel, by decide +kernel⟩
theorem sc_l_places : FnScope ["box", "state", "kind", "at", "end"] ["box", "state"] (defScope s_l_places) := ⟨rfl, rfl, rfl, by decide +kernel, rfl, by decide +kernel, by decide +kernel⟩
theorem sc_l_figures : FnScope ["signs", "most", "now", "sign"] ["signs"] (defScope s_l_figures) := ⟨rfl, rfl, rfl, by decide +kernel, rfl, by decide +kernel, by decide +kernel⟩
theorem sc_l_fallen : FnScope ["box", "disk", "state", "turn", "kind", "many", "more", "signs", "way", "keep"] ["box", "disk", "state", "turn"] (defScope s_l_fallen) := ⟨rfl, rfl, rfl, by decide +kernel, rfl, by decide +kernel, by decide +kernel⟩
theorem sc_l_pieces : FnScope ["box", "disk", "log", "state", "turn", "whole", "k", "many"] ["box", "disk", "log", "state", "turn"] (defScope s_l_pieces) := ⟨rfl, rfl, rfl, by decide +kernel, rfl, by decide +kernel, by decide +kernel⟩
theorem sc_l_many_right : FnScope ["box", "disk", "state", "rows", "turn", "log", "size", "lines", "many"] ["box"] (defScope s_l_many_right) := ⟨rfl, rfl, rfl, by decide +kernel, rfl, by decide +kernel, by decide +kernel⟩
theorem sc_l_right : FnScope ["box", "disks", "states", "signs", "logs", "elders", "k", "which", "kind", "turn", "disk", "state", "lines", "elder"] ["box"] (defScope s_l_right) := ⟨rfl, rfl, rfl, by decide +kernel, rfl, by decide +kernel, by decide +kernel⟩
theorem sc_law : FnScope ["script", "k", "box"] ["script"] (defScope s_law) := ⟨rfl, rfl, rfl, by decide +kernel, rfl, by decide +kernel, by decide +kernel⟩
/-- a def of the module -/
structure Tx (K : PySem.W.Frag) (mg : Str → Option Value) : Type where
  C_InvalidLine : Addr
  C_InvalidText : Addr
  C_InvalidSigns : Addr
  C_InvalidCount : Addr
  C_InvalidLines : Addr
  C_UnsaidError : Addr
  x_InvalidLine : InitT K C_InvalidLine "InvalidLine.__init__" s_InvalidLine_init ["self", "given"]
  x_InvalidText : InitT K C_InvalidText "InvalidText.__init__" s_InvalidText_init ["self", "given"]
  x_InvalidSigns : InitT K C_InvalidSigns "InvalidSigns.__init__" s_InvalidSigns_init ["self", "given"]
  x_InvalidCount : InitT K C_InvalidCount "InvalidCount.__init__" s_InvalidCount_init ["self", "given"]
  x_InvalidLines : InitT K C_InvalidLines "InvalidLines.__init__" s_InvalidLines_init ["self", "given"]
  e_InvalidLine : ErrT K mg "InvalidLine" "given" C_InvalidLine x_InvalidLine.f
  e_InvalidText : ErrT K mg "InvalidText" "given" C_InvalidText x_InvalidText.f
  e_InvalidSigns : ErrT K mg "InvalidSigns" "given" C_InvalidSigns x_InvalidSigns.f
  e_InvalidCount : ErrT K mg "InvalidCount" "given" C_InvalidCount x_InvalidCount.f
  e_InvalidLines : ErrT K mg "InvalidLines" "given" C_InvalidLines x_InvalidLines.f
  m_InvalidLine : mg "InvalidLine" = some (.ref C_InvalidLine)
  m_InvalidText : mg "InvalidText" = some (.ref C_InvalidText)
  m_InvalidSigns : mg "InvalidSigns" = some (.ref C_InvalidSigns)
  m_InvalidCount : mg "InvalidCount" = some (.ref C_InvalidCount)
  m_InvalidLines : mg "InvalidLines" = some (.ref C_InvalidLines)
  m_UnsaidError : mg "UnsaidError" = some (.ref C_UnsaidError)
  x_InvalidLines_InvalidLines : PySem.W.exmOne K (.ref C_InvalidLines) (.ref C_InvalidLines) = some true
  i_InvalidLines_UnsaidError : PySem.W.kitOne K (.ref C_InvalidLines) (.ref C_UnsaidError) = some true
  t_MOST_LETTERS : Tok
  g_MOST_LETTERS : mg "MOST_LETTERS" = some (.int 8 t_MOST_LETTERS)
  t_MOST_SIGNS_texts : Tok
  g_MOST_SIGNS_texts : mg "MOST_SIGNS_texts" = some (.int 40 t_MOST_SIGNS_texts)
  t_FIGURES : Tok
  g_FIGURES : mg "FIGURES" = some (.int 4 t_FIGURES)
  t_MOST_SIGNS_frames : Tok
  g_MOST_SIGNS_frames : mg "MOST_SIGNS_frames" = some (.int 9999 t_MOST_SIGNS_frames)
  t_END : Tok
  g_END : mg "END" = some (.str "." t_END)
  C_Log : Addr
  cl_Log : Cls K C_Log
  m_Log : mg "Log" = some (.ref C_Log)
  na_Log_disk : NoAttr K C_Log "disk"
  na_Log_lines : NoAttr K C_Log "_lines"
  C_Disk : Addr
  cl_Disk : Cls K C_Disk
  m_Disk : mg "Disk" = some (.ref C_Disk)
  na_Disk_text : NoAttr K C_Disk "_text"
  na_Disk_synced : NoAttr K C_Disk "_synced"
  p_text : PropT K C_Disk "text" "Disk.text" s_Disk_text
  p_synced : PropT K C_Disk "synced" "Disk.synced" s_Disk_synced
  p_lines : PropT K C_Log "lines" "Log.lines" s_Log_lines
  n_abs : mg "abs" = none
  n_all : mg "all" = none
  n_bool : mg "bool" = none
  n_int : mg "int" = none
  n_isinstance : mg "isinstance" = none
  n_len : mg "len" = none
  n_list : mg "list" = none
  n_max : mg "max" = none
  n_min : mg "min" = none
  n_range : mg "range" = none
  n_repr : mg "repr" = none
  n_str : mg "str" = none
  n_sum : mg "sum" = none
  n_tuple : mg "tuple" = none
  d_is_int : DefT K mg "is_int" s_is_int ["value"]
  d_is_count : DefT K mg "is_count" s_is_count ["value"]
  d_is_list : DefT K mg "is_list" s_is_list ["value"]
  d_is_signs : DefT K mg "is_signs" s_is_signs ["value"]
  d_is_numeral : DefT K mg "is_numeral" s_is_numeral ["text"]
  d_is_cell : DefT K mg "is_cell" s_is_cell ["value"]
  d_is_text : DefT K mg "is_text" s_is_text ["value"]
  d_is_line : DefT K mg "is_line" s_is_line ["value"]
  d_line_text : DefT K mg "line_text" s_line_text ["line"]
  d_line_in : DefT K mg "line_in" s_line_in ["value"]
  d_are_lines : DefT K mg "are_lines" s_are_lines ["value"]
  d_framed : DefT K mg "framed" s_framed ["text"]
  d_frames_in : DefT K mg "frames_in" s_frames_in ["signs"]
  d_frame_end : DefT K mg "_frame_end" s_frame_end ["signs", "start"]
  d_Log_init : InitT K C_Log "Log.__init__" s_Log_init ["self", "disk"]
  k_Log : Mk K C_Log d_Log_init.f
  d_Log___len__ : MethT K C_Log "__len__" "Log.__len__" s_Log___len__ ["self"]
  d_Log_put : MethT K C_Log "put" "Log.put" s_Log_put ["self", "lines"]
  d_lines_on : DefT K mg "lines_on" s_lines_on ["disk"]
  d_frames_of : DefT K mg "_frames_of" s_frames_of ["lines"]
  d_Disk_init : InitT K C_Disk "Disk.__init__" s_Disk_init ["self"]
  k_Disk : Mk K C_Disk d_Disk_init.f
  d_Disk_put : MethT K C_Disk "put" "Disk.put" s_Disk_put ["self", "signs"]
  d_Disk_sync : MethT K C_Disk "sync" "Disk.sync" s_Disk_sync ["self"]
  d_Disk_trim : MethT K C_Disk "trim" "Disk.trim" s_Disk_trim ["self", "many"]
  d_Disk_fall : MethT K C_Disk "fall" "Disk.fall" s_Disk_fall ["self", "keep"]
  d_Disk_lose : MethT K C_Disk "lose" "Disk.lose" s_Disk_lose ["self", "many"]
  d_Disk__leave : MethT K C_Disk "_leave" "Disk._leave" s_Disk__leave ["self", "many"]
  d_l_cell : DefT K mg "_law_cell" s_l_cell ["script", "k"]
  d_l_box : DefT K mg "_law_box" s_l_box ["great"]
  d_l_take : DefT K mg "_law_take" s_l_take ["box", "many"]
  d_l_letters : DefT K mg "_law_letters" s_l_letters ["box"]
  d_l_words : DefT K mg "_law_words" s_l_words ["box"]
  d_l_line : DefT K mg "_law_line" s_l_line ["box", "most"]
  d_l_lines : DefT K mg "_law_lines" s_l_lines ["box", "elder"]
  d_l_text : DefT K mg "_law_text" s_l_text ["line"]
  d_l_frame : DefT K mg "_law_frame" s_l_frame ["text"]
  d_l_file : DefT K mg "_law_file" s_l_file ["lines"]
  d_l_number : DefT K mg "_law_number" s_l_number ["word"]
  d_l_read_line : DefT K mg "_law_read_line" s_l_read_line ["text"]
  d_l_read : DefT K mg "_law_read" s_l_read ["signs"]
  d_l_near : DefT K mg "_law_near" s_l_near ["box", "line"]
  d_l_by_hand : DefT K mg "_law_by_hand" s_l_by_hand ["box"]
  d_l_is : DefT K mg "_law_is" s_l_is ["disk", "log", "state"]
  d_l_open : DefT K mg "_law_open" s_l_open ["disk", "state", "signs", "turn"]
  d_l_put : DefT K mg "_law_put" s_l_put ["log", "state", "lines", "turn"]
  d_l_spoilt : DefT K mg "_law_spoilt" s_l_spoilt ["box", "line"]
  d_l_odd : DefT K mg "_law_odd" s_l_odd ["box", "elder"]
  d_l_refused : DefT K mg "_law_refused" s_l_refused ["log", "value", "turn"]
  d_l_places : DefT K mg "_law_places" s_l_places ["box", "state"]
  d_l_figures : DefT K mg "_law_figures" s_l_figures ["signs"]
  d_l_fallen : DefT K mg "_law_fallen" s_l_fallen ["box", "disk", "state", "turn"]
  d_l_pieces : DefT K mg "_law_pieces" s_l_pieces ["box", "disk", "log", "state", "turn"]
  d_l_many_right : DefT K mg "_law_many_right" s_l_many_right ["box"]
  d_l_right : DefT K mg "_law_right" s_l_right ["box"]
  d_law : DefT K mg "law" s_law ["script"]
end K06

local macro_rules | `(tactic| walk_at "rd") => `(tactic| try simp only [Nv.e_f4, Nv.e_errv, Nv.e_js0, Nv.e_js1, Nv.e_fmt, Nv.e_lrg, Nv.e_rg1, Nv.e_seq, Nv.e_next, Nv.e_asg, Nv.e_gname, Nv.e_gtup, Nv.e_gcons, Nv.e_gnil, Nv.e_gsub, Nv.e_ret, Nv.e_retN, Nv.e_if, Nv.e_drop, Nv.e_par, Nv.e_par3, Nv.e_rP2, Nv.e_rP3, Nv.e_tyes, Nv.e_disp, Nv.e_xf, L2.tPairs, L2.upd_upd, L2.upd_same, Nv.e_wipe0, Nv.e_wipe1, Nv.e_sfld, Nv.e_var, Nv.e_c, Nv.e_op, Nv.e_un, Nv.e_ri, Nv.e_ri0, Nv.e_ru, Nv.e_eq, Nv.e_ne, Nv.e_test, Nv.e_B, Nv.e_and, Nv.e_or, Nv.e_not, Nv.e_andV, Nv.e_orV, Nv.e_notV, Nv.e_ifE, Nv.e_cb, Nv.e_nil, Nv.e_cons, Nv.e_tup, Nv.e_lst1, Nv.e_fld, Nv.e_slice, Nv.e_nopart, Nv.e_part, Nv.e_bm0, Nv.e_bm, Nv.e_m1, Nv.e_cg, Nv.e_mg, Nv.e_make, Nv.e_prop, Nv.e_raise1, Nv.e_chain, Nv.e_mulS, Nv.e_slS, Nv.e_cxK, Nv.start_def, List.getElem?_cons_zero, List.getElem?_cons_succ, List.set_cons_zero, List.set_cons_succ, List.map_cons, List.map_nil, List.cons_append, List.nil_append, List.append_nil, List.length_cons, List.length_nil, List.replicate, Option.some.injEq, exists_eq_left', exists_eq_left, L2.V.bl.injEq, L2.V.int.injEq, L2.V.str.injEq, L2.V.ref.injEq, List.cons.injEq, and_true, true_and, exists_and_left, exists_and_right, ↓reduceIte, Bool.false_eq_true, Bool.true_eq_false, decide_eq_true_eq, Bool.not_eq_true', Bool.not_true, Bool.not_false, forall_eq'])

namespace K06
open PySem L2 Nv

/-! what the questions answer, of data -/
def spJ (g : PyData → Bool) : Sp := fun vs H Q _ => ∃ v d, vs = [v] ∧ DV H v d ∧ Q (.bl (g d)) H
def spJA (K : PySem.W.Frag) (g : PyData → Bool) : Sp := fun vs H Q _ => ∃ v d, vs = [v] ∧ AV K H v d ∧ Q (.bl (g d)) H
/-- texts and numbers in it are not too long -/
structure Lens (d : PyData) : Prop where
  s : ∀ z, d = .str z → z.length ≤ 100000
  t : ∀ ds, d = .tuple ds → ∀ z, PyData.str z ∈ ds → z.length ≤ 100000
theorem Lens.str {z : Str} (h : z.length ≤ 100000) : Lens (.str z) := ⟨fun y e => (by cases e; exact h), fun _ e => (by cases e)⟩
theorem Lens.item {d : PyData} {ds : List PyData} (h : Lens (.tuple ds)) (m : d ∈ ds) (n : ∀ es, d ≠ .tuple es) : Lens d :=
  ⟨fun z e => h.t ds rfl z (e ▸ m), fun es e => absurd e (n es)⟩
def Ints (d : PyData) : Prop := ∀ ds, d = .tuple ds → ∀ i, PyData.int i ∈ ds → -(10 ^ 120) ≤ i ∧ i ≤ 10 ^ 120
def spJL (K : PySem.W.Frag) (g : PyData → Bool) : Sp := fun vs H Q _ => ∃ v d, vs = [v] ∧ AV K H v d ∧ Lens d ∧ Q (.bl (g d)) H
def spJS (K : PySem.W.Frag) (g : PyData → Bool) : Sp := fun vs H Q _ => ∃ v d, vs = [v] ∧ AV K H v d ∧ (∀ z, d = .str z → z.length ≤ 100000) ∧ Q (.bl (g d)) H
/-- the same, where new things may be laid meanwhile -/
def spJW (g : PyData → Bool) : Sp := fun vs H Q _ => ∃ v d, vs = [v] ∧ DV H v d ∧ (∀ z, d = .str z → Asc z ∧ z.length ≤ 100000) ∧ ∀ H', Same H H' → Q (.bl (g d)) H'
def cntB : PyData → Bool
  | .int i => decide (0 ≤ i)
  | _ => false
def sigOk : PyData → Bool
  | .str z => okS z
  | _ => false
def celS (z : Str) : Bool := decide (z.length ≤ 8) && (Txt.isascii z && (Txt.isalpha z && Txt.islower z))
def cellB : PyData → Bool
  | .str z => celS z
  | _ => false
def textB : PyData → Bool
  | .str z => okS z && decide (z.length ≤ 40)
  | _ => false
def lineB : PyData → Bool
  | .tuple [a, b, c, d] => cntB a && (cntB b && (cellB c && textB d))
  | _ => false
def numS (z : Str) : Bool := Txt.isascii z && (Txt.isdigit z && (decide (V.str z = V.str (Str.ofString "0")) || !Txt.startswith z (Str.ofString "0")))
section
variable {P : Program} {w : World} {K : PySem.W.Frag} {mg : Str → Option Value} {base : Heap}
theorem ok_is_int (T : Tx K mg) : FnG P w K mg base 1 T.d_is_int.f T.d_is_int.fd ["value"] (spJ isI) := by
  refine okG0 T.d_is_int.F sc_is_int (fun vs H Q E h => ?_) (fun cdv A outer s H vs Q E hg hr h => ?_)
  · obtain ⟨v, d, rfl, _⟩ := h
    rfl
  obtain ⟨v, d, rfl, hd, k⟩ := h
  refine ⟨_, (pss_one (ps_ret (pe_and (pe_callB call_isiA (by rfl) T.n_isinstance (by decide +kernel) (pa_cons (pv 0) (pa_cons (pe_bltn (v := .ty "int") (by rfl) T.n_int (by decide +kernel) rfl) pa_nil))) (pe_one (pe_not (pe_callB call_isiA (by rfl) T.n_isinstance (by decide +kernel) (pa_cons (pv 0) (pa_cons (pe_bltn (v := .ty "bool") (by rfl) T.n_bool (by decide +kernel) rfl) pa_nil)))))))), ?_⟩
  walk_at "rd"
  refine r_isiD hd (kit_int d) ?_
  walk_at "rd"
  cases d with
  | int i =>
    simp only [isI, isB, Bool.or_false]
    walk_at "rd"
    exact r_isiD hd (kit_bool _) ⟨_, rfl, k⟩
  | bool b =>
    simp only [isI, isB, Bool.or_true]
    walk_at "rd"
    exact r_isiD hd (kit_bool _) ⟨_, rfl, k⟩
  | _ =>
    simp only [isI, isB, Bool.or_false]
    walk_at "rd"
    exact k
theorem ok_is_count (T : Tx K mg) : FnG P w K mg base 2 T.d_is_count.f T.d_is_count.fd ["value"] (spJ cntB) := by
  refine okG0 T.d_is_count.F sc_is_count (fun vs H Q E h => ?_) (fun cdv A outer s H vs Q E hg hr h => ?_)
  · obtain ⟨v, d, rfl, _⟩ := h
    rfl
  obtain ⟨v, d, rfl, hd, k⟩ := h
  refine ⟨_, (pss_one (ps_ret (pe_and (pe_cG (ok_is_int T) T.d_is_int.b takes0 hg (hr.mono (by decide)) T.d_is_int.m T.d_is_int.F.kp (pa_cons (pv 0) pa_nil)) (pe_one (pe_cmpR op_ge (pv 0) pe_int (nomark _)))))), ?_⟩
  walk_at "rd"
  refine ⟨v, d, rfl, hd, ?_⟩
  cases hd with
  | int i =>
    simp only [isI]
    walk_at "rd"
    simpa only [cntB] using k
  | _ =>
    simp only [isI]
    walk_at "rd"
    exact k
theorem ok_is_signs (T : Tx K mg) : FnG P w K mg base 1 T.d_is_signs.f T.d_is_signs.fd ["value"] (spJA K sigOk) := by
  refine okG0 T.d_is_signs.F sc_is_signs (fun vs H Q E h => ?_) (fun cdv A outer s H vs Q E hg hr h => ?_)
  · obtain ⟨v, d, rfl, _⟩ := h
    rfl
  obtain ⟨v, d, rfl, hd, fin⟩ := h
  refine ⟨_, (pss_one (ps_ret (pe_and (pe_callB call_isiA (by rfl) T.n_isinstance (by decide +kernel) (pa_cons (pv 0) (pa_cons (pe_bltn (v := .ty "str") (by rfl) T.n_str (by decide +kernel) rfl) pa_nil))) (pe_and (pe_bm0 PySem.F.plainAttrs_str PySem.F.slot_str_isascii PySem.F.type_str_isascii mt_isascii (pv 0)) (pe_one (pe_bm0 PySem.F.plainAttrs_str PySem.F.slot_str_isprintable PySem.F.type_str_isprintable mt_isprintable (pv 0))))))), ?_⟩
  walk_at "rd"
  refine hd.isStr ?_
  walk_at "rd"
  cases d with
  | str z =>
    cases hd.str
    simp only [isS]
    walk_at "rd"
    refine ⟨rfl, ?_⟩
    simp only [sigOk, okS] at fin
    cases ea : Txt.isascii z with
    | false =>
      rw [ea] at fin
      simpa using fin
    | true =>
      rw [ea] at fin
      rw [if_pos rfl]
      exact ⟨rfl, by simpa using fin⟩
  | _ =>
    simp only [isS]
    walk_at "rd"
    exact fin
theorem ok_is_numeral (T : Tx K mg) : FnG P w K mg base 1 T.d_is_numeral.f T.d_is_numeral.fd ["text"] (fun vs H Q _ => ∃ z, vs = [.str z] ∧ Q (.bl (numS z)) H) := by
  refine okG0 T.d_is_numeral.F sc_is_numeral (fun vs H Q E h => ?_) (fun cdv A outer s H vs Q E hg hr h => ?_)
  · obtain ⟨z, rfl, _⟩ := h
    rfl
  obtain ⟨z, rfl, fin⟩ := h
  refine ⟨_, (pss_one (ps_ret (pe_and (pe_bm0 PySem.F.plainAttrs_str PySem.F.slot_str_isascii PySem.F.type_str_isascii mt_isascii (pv 0)) (pe_and (pe_bm0 PySem.F.plainAttrs_str PySem.F.slot_str_isdigit PySem.F.type_str_isdigit mt_isdigit (pv 0)) (pe_one (pe_or (pe_cmpR op_eq (pv 0) pe_str (nomark _)) (pe_one (pe_not (pe_bm PySem.F.plainAttrs_str PySem.F.slot_str_startswith PySem.F.type_str_startswith mt_startswith (pv 0) (pa_cons pe_str pa_nil)))))))))), ?_⟩
  walk_at "rd"
  refine ⟨rfl, ?_⟩
  unfold numS at fin
  cases ea : Txt.isascii z with
  | false =>
    rw [ea] at fin
    simpa using fin
  | true =>
    rw [ea] at fin
    rw [if_pos rfl]
    refine ⟨rfl, ?_⟩
    cases eb : Txt.isdigit z with
    | false =>
      rw [eb] at fin
      simpa using fin
    | true =>
      rw [eb] at fin
      rw [if_pos rfl]
      refine ⟨rfl, ?_⟩
      have key : (decide (V.str z = V.str (Str.ofString "0"))) = decide (z = Str.ofString "0") := by
        by_cases e : z = Str.ofString "0"
        · rw [e]
          simp
        · have : ¬ (V.str z = V.str (Str.ofString "0")) := fun q => by
            cases q
            exact e rfl
          simp [e, this]
      rw [key] at fin
      by_cases e : z = Str.ofString "0"
      · rw [if_pos e]
        simpa [e] using fin
      · rw [if_neg e]
        exact ⟨rfl, by simpa [e] using fin⟩
theorem ok_is_cell (T : Tx K mg) : FnG P w K mg base 1 T.d_is_cell.f T.d_is_cell.fd ["value"] (spJS K cellB) := by
  refine okG0 T.d_is_cell.F sc_is_cell (fun vs H Q E h => ?_) (fun cdv A outer s H vs Q E hg hr h => ?_)
  · obtain ⟨v, d, rfl, _⟩ := h
    rfl
  obtain ⟨v, d, rfl, hd, hz, fin⟩ := h
  have sz : sizeLine = 16777216 := sizeLine_eq
  refine ⟨_, (pss_cons (ps_if (PW.pt (pw_or (pt_not (pt_val (pe_callB call_isiA (by rfl) T.n_isinstance (by decide +kernel) (pa_cons (pv 0) (pa_cons (pe_bltn (v := .ty "str") (by rfl) T.n_str (by decide +kernel) rfl) pa_nil))))) (pw_or1 (pt_cmpR op_gt (pe_callB call_len_str (by rfl) T.n_len (by decide +kernel) (pa_cons (pv 0) pa_nil)) (pe_glob (v := .int 8) rfl T.g_MOST_LETTERS ⟨_, rfl⟩) (nomark _)))))
      (pss_one (ps_ret pe_bl))
      pss_nil)
    (pss_one (ps_ret (pe_and (pe_bm0 PySem.F.plainAttrs_str PySem.F.slot_str_isascii PySem.F.type_str_isascii mt_isascii (pv 0)) (pe_and (pe_bm0 PySem.F.plainAttrs_str PySem.F.slot_str_isalpha PySem.F.type_str_isalpha mt_isalpha (pv 0)) (pe_one (pe_bm0 PySem.F.plainAttrs_str PySem.F.slot_str_islower PySem.F.type_str_islower mt_islower (pv 0)))))))), ?_⟩
  walk_at "rd"
  refine hd.isStr ?_
  walk_at "rd"
  cases d with
  | str z =>
    cases hd.str
    have := hz z rfl
    simp only [isS]
    walk_at "rd"
    refine ⟨by omega, ?_⟩
    simp only [cellB, celS] at fin
    by_cases h8 : (8 : Int) < (z.length : Int)
    · rw [if_pos h8]
      have : decide (z.length ≤ 8) = false := by simp; omega
      rw [this] at fin
      exact fin
    · rw [if_neg h8]
      have : decide (z.length ≤ 8) = true := by simp; omega
      rw [this] at fin
      refine ⟨rfl, ?_⟩
      cases ea : Txt.isascii z with
      | false =>
        rw [ea] at fin
        simpa using fin
      | true =>
        rw [ea] at fin
        rw [if_pos rfl]
        refine ⟨rfl, ?_⟩
        cases eb : Txt.isalpha z with
        | false =>
          rw [eb] at fin
          simpa using fin
        | true =>
          rw [eb] at fin
          rw [if_pos rfl]
          exact ⟨rfl, by simpa using fin⟩
  | _ =>
    simp only [isS]
    walk_at "rd"
    exact fin
theorem ok_is_text (T : Tx K mg) : FnG P w K mg base 2 T.d_is_text.f T.d_is_text.fd ["value"] (spJS K textB) := by
  refine okG0 T.d_is_text.F sc_is_text (fun vs H Q E h => ?_) (fun cdv A outer s H vs Q E hg hr h => ?_)
  · obtain ⟨v, d, rfl, _⟩ := h
    rfl
  obtain ⟨v, d, rfl, hd, hz, fin⟩ := h
  have sz : sizeLine = 16777216 := sizeLine_eq
  refine ⟨_, (pss_one (ps_ret (pe_and (pe_cG (ok_is_signs T) T.d_is_signs.b takes0 hg (hr.mono (by decide)) T.d_is_signs.m T.d_is_signs.F.kp (pa_cons (pv 0) pa_nil)) (pe_one (pe_cmpR op_le (pe_callB call_len_str (by rfl) T.n_len (by decide +kernel) (pa_cons (pv 0) pa_nil)) (pe_glob (v := .int 40) rfl T.g_MOST_SIGNS_texts ⟨_, rfl⟩) (nomark _)))))), ?_⟩
  walk_at "rd"
  refine ⟨v, d, rfl, hd, ?_⟩
  cases d with
  | str z =>
    cases hd.str
    have := hz z rfl
    simp only [sigOk]
    walk_at "rd"
    simp only [textB] at fin
    cases ea : okS z with
    | false =>
      rw [ea] at fin
      simpa using fin
    | true =>
      rw [ea] at fin
      rw [if_pos rfl]
      refine ⟨by omega, ?_⟩
      have : decide ((z.length : Int) ≤ 40) = decide (z.length ≤ 40) := by
        congr 1
        exact propext (by omega)
      rw [this]
      simpa using fin
  | _ =>
    simp only [sigOk]
    walk_at "rd"
    exact fin
end
end K06


namespace K06
open PySem L2 Nv

def lineD (h n : Int) (c t : Str) : PyData := .tuple [.int h, .int n, .str c, .str t]
theorem lineB_of {d : PyData} (e : lineB d = true) : ∃ h n c t, d = lineD h n c t ∧ 0 ≤ h ∧ 0 ≤ n ∧ celS c = true ∧ okS t = true ∧ t.length ≤ 40 := by
  unfold lineB at e
  split at e
  · rename_i a b c f
    simp only [Bool.and_eq_true] at e
    obtain ⟨e1, e2, e3, e4⟩ := e
    cases a with
    | int h =>
      cases b with
      | int n =>
        cases c with
        | str c =>
          cases f with
          | str t =>
            simp only [cntB, decide_eq_true_eq, textB, Bool.and_eq_true, cellB] at e1 e2 e3 e4
            exact ⟨h, n, c, t, rfl, e1, e2, e3, e4.1, e4.2⟩
          | _ => cases e4
        | _ => cases e3
      | _ => cases e2
    | _ => cases e1
  · cases e
theorem DVs.four {H : Hp} {xs : List V} {d0 d1 d2 d3 : PyData} (h : DVs H xs [d0, d1, d2, d3]) : ∃ x0 x1 x2 x3, xs = [x0, x1, x2, x3] ∧ DV H x0 d0 ∧ DV H x1 d1 ∧ DV H x2 d2 ∧ DV H x3 d3 := by
  cases h with
  | cons a h => cases h with
    | cons b h => cases h with
      | cons c h => cases h with
        | cons d h => cases h; exact ⟨_, _, _, _, rfl, a, b, c, d⟩
theorem dv_line {H : Hp} {v : V} {h n : Int} {c t : Str} (x : DV H v (lineD h n c t)) : ∃ a, v = .ref a ∧ H a = some (.tup [.int h, .int n, .str c, .str t]) := by
  cases x with
  | tup e r =>
    obtain ⟨x0, x1, x2, x3, rfl, a, b, c, d⟩ := DVs.four r
    cases a
    cases b
    cases c
    cases d
    exact ⟨_, rfl, e⟩
theorem sp_len : (Str.ofString " ").length = 1 := by decide +kernel
theorem abs120 {i : Int} (h : -(10 ^ 120) ≤ i ∧ i ≤ 10 ^ 120) : i.natAbs < 10 ^ 121 := by
  have e : (10 : Nat) ^ 121 = 10 * 10 ^ 120 := by rw [Nat.pow_succ, Nat.mul_comm]
  have e2 : (10 : Int) ^ 120 = ((10 ^ 120 : Nat) : Int) := by norm_cast
  rw [e2] at h
  have p : 0 < (10 : Nat) ^ 120 := Nat.pow_pos (by decide)
  rw [e]
  generalize (10 : Nat) ^ 120 = N at *
  omega
theorem log120 {i : Int} (h : -(10 ^ 120) ≤ i ∧ i ≤ 10 ^ 120) : i.natAbs.log2 < 404 := by
  by_cases h0 : i.natAbs = 0
  · rw [h0]
    decide
  · rw [Nat.log2_lt h0]
    refine Nat.lt_of_lt_of_le (abs120 h) ?_
    have e1 : (10 : Nat) ^ 121 ≤ 16 ^ 101 * 1 := by decide +kernel
    have e2 : (16 : Nat) ^ 101 = 2 ^ 404 := by
      rw [show (16 : Nat) = 2 ^ 4 from rfl, ← Nat.pow_mul]
    rw [Nat.mul_one, e2] at e1
    exact e1
theorem int_len {i : Int} (h : -(10 ^ 120) ≤ i ∧ i ≤ 10 ^ 120) : (Str.ofString (toString i)).length ≤ 122 := by
  have h1 := int_text_length_le10 (a := i) (k := 121) (by decide) (abs120 h)
  have e : (Str.ofString (toString i)).length = (toString i).length := ofString_length _
  omega
def lineT (h n : Int) (c t : Str) : Str := Str.empty ++ Str.ofString (toString h) ++ Str.ofString " " ++ Str.ofString (toString n) ++ Str.ofString " " ++ c ++ Str.ofString " " ++ t
def spText (CL : Addr) (K : PySem.W.Frag) : Sp := fun vs H Q E => ∃ v d, vs = [v] ∧ AV K H v d ∧ Lens d ∧ Ints d ∧
  (∀ h n c t, d = lineD h n c t → lineB d = true → Q (.str (lineT h n c t)) H) ∧
  (lineB d = false → ∀ dd H', H dd = none → Same H H' → H' dd = some (.xd [("given", v)]) → E (.ref CL) (some dd) H')
section
variable {P : Program} {w : World} {K : PySem.W.Frag} {mg : Str → Option Value} {base : Heap}
theorem okx_InvalidLine (T : Tx K mg) : FnOk P w K mg base CX0 1 T.x_InvalidLine.f T.x_InvalidLine.fd ["self", "given"] (spXI K "given") :=
  ok_xi T.x_InvalidLine.F sc_InvalidLine_init rfl (by decide) (by decide)
theorem okx_InvalidText (T : Tx K mg) : FnOk P w K mg base CX0 1 T.x_InvalidText.f T.x_InvalidText.fd ["self", "given"] (spXI K "given") :=
  ok_xi T.x_InvalidText.F sc_InvalidText_init rfl (by decide) (by decide)
theorem ok_is_line (T : Tx K mg) : FnG P w K mg base 3 T.d_is_line.f T.d_is_line.fd ["value"] (spJL K lineB) := by
  refine okG0 T.d_is_line.F sc_is_line (fun vs H Q E h => ?_) (fun cdv A outer s H vs Q E hg hr h => ?_)
  · obtain ⟨v, d, rfl, _⟩ := h
    rfl
  obtain ⟨v, d, rfl, hd, hl, fin⟩ := h
  refine ⟨_, (pss_cons (ps_if (PW.pt (pw_or (pt_not (pt_val (pe_callB call_isiA (by rfl) T.n_isinstance (by decide +kernel) (pa_cons (pv 0) (pa_cons (pe_bltn (v := .ty "tuple") (by rfl) T.n_tuple (by decide +kernel) rfl) pa_nil))))) (pw_or1 (pt_cmpR op_ne (pe_callB call_len_seq (by rfl) T.n_len (by decide +kernel) (pa_cons (pv 0) pa_nil)) pe_int (nomark _)))))
      (pss_one (ps_ret pe_bl))
      pss_nil)
    (pss_cons (ps_asg (pv 0) (pg_tup rfl (pgs_cons (pg_name (i := 1) sc_is_line.nd rfl (Or.inl rfl)) (pgs_cons (pg_name (i := 2) sc_is_line.nd rfl (Or.inl rfl)) (pgs_cons (pg_name (i := 3) sc_is_line.nd rfl (Or.inl rfl)) (pgs_cons (pg_name (i := 4) sc_is_line.nd rfl (Or.inl rfl)) pgs_nil))))))
    (pss_one (ps_ret (pe_and (pe_cG (ok_is_count T) T.d_is_count.b takes0 hg (hr.mono (by decide)) T.d_is_count.m T.d_is_count.F.kp (pa_cons (pv 1) pa_nil)) (pe_and (pe_cG (ok_is_count T) T.d_is_count.b takes0 hg (hr.mono (by decide)) T.d_is_count.m T.d_is_count.F.kp (pa_cons (pv 2) pa_nil)) (pe_and (pe_cG (ok_is_cell T) T.d_is_cell.b takes0 hg (hr.mono (by decide)) T.d_is_cell.m T.d_is_cell.F.kp (pa_cons (pv 3) pa_nil)) (pe_one (pe_cG (ok_is_text T) T.d_is_text.b takes0 hg (hr.mono (by decide)) T.d_is_text.m T.d_is_text.F.kp (pa_cons (pv 4) pa_nil)))))))))), ?_⟩
  walk_at "rd"
  refine hd.isTup ?_
  walk_at "rd"
  cases d with
  | tuple ds =>
    obtain ⟨a, xs, rfl, ha, hr⟩ := hd.tup
    have el := hr.len
    simp only [isT]
    walk_at "rd"
    refine ⟨xs, .inr (SqT.of ha), ?_⟩
    walk_at "rd"
    have noB : ds.length ≠ 4 → lineB (.tuple ds) = false := fun h => by
      unfold lineB
      split
      · rename_i q
        cases q
        exact absurd rfl h
      · rfl
    by_cases h4 : ds.length = 4
    · obtain ⟨d0, d1, d2, d3, rfl⟩ : ∃ d0 d1 d2 d3, ds = [d0, d1, d2, d3] := by
        match ds, h4 with
        | [a, b, c, d], _ => exact ⟨a, b, c, d, rfl⟩
      obtain ⟨x0, x1, x2, x3, rfl, q0, q1, q2, q3⟩ := DVs.four hr
      refine ⟨rfl, ?_⟩
      rw [if_neg (by show ¬ (decide ((4 : Int) = 4) = false); decide)]
      refine r_unp (SqT.of ha) rfl ?_
      walk_at "rd"
      refine ⟨x0, d0, rfl, q0, ?_⟩
      simp only [lineB] at fin
      cases e0 : cntB d0 with
      | false =>
        rw [e0] at fin
        simpa using fin
      | true =>
        rw [e0] at fin
        walk_at "rd"
        refine ⟨x1, d1, rfl, q1, ?_⟩
        cases e1 : cntB d1 with
        | false =>
          rw [e1] at fin
          simpa using fin
        | true =>
          rw [e1] at fin
          walk_at "rd"
          refine ⟨x2, d2, rfl, .dat q2, fun z q => hl.t _ rfl z (by rw [← q]; simp), _, rfl, ?_⟩
          cases e2 : cellB d2 with
          | false =>
            rw [e2] at fin
            simpa using fin
          | true =>
            rw [e2] at fin
            walk_at "rd"
            exact ⟨x3, d3, rfl, .dat q3, fun z q => hl.t _ rfl z (by rw [← q]; simp), by simpa using fin⟩
    · have e4 : ¬ ((xs.length : Int) = 4) := by omega
      refine ⟨rfl, ?_⟩
      rw [if_pos (by simpa using e4)]
      rw [noB h4] at fin
      exact fin
  | _ =>
    simp only [isT]
    walk_at "rd"
    exact fin
theorem ok_line_text (T : Tx K mg) : FnG P w K mg base 4 T.d_line_text.f T.d_line_text.fd ["line"] (spText T.C_InvalidLine K) := by
  refine okG T.d_line_text.F sc_line_text (fun vs H Q E h => ?_) (fun cdv A outer s H vs Q E hg hr h => ?_)
  · obtain ⟨v, d, rfl, _⟩ := h
    rfl
  obtain ⟨v, d, rfl, hd, hl, hi, k1, k2⟩ := h
  refine ⟨_, (pss_cons (ps_if (pt_not (pt_val (pe_cG (ok_is_line T) T.d_is_line.b (takes_of rfl rfl rfl rfl) hg (hr.mono (by decide)) T.d_is_line.m T.d_is_line.F.kp (pa_cons (pv 0) pa_nil))))
      (pss_one (ps_err rfl (takes_of rfl rfl rfl rfl) T.e_InvalidLine (okx_InvalidLine T) T.x_InvalidLine.bi (hr.mono (by decide)) (pv 0)))
      pss_nil)
    (pss_cons (ps_asg (pv 0) (pg_tup rfl (pgs_cons (pg_name (i := 1) sc_line_text.nd rfl (Or.inl rfl)) (pgs_cons (pg_name (i := 2) sc_line_text.nd rfl (Or.inl rfl)) (pgs_cons (pg_name (i := 3) sc_line_text.nd rfl (Or.inl rfl)) (pgs_cons (pg_name (i := 4) sc_line_text.nd rfl (Or.inl rfl)) pgs_nil))))))
    (pss_one (ps_ret (pe_joined (.cons (pe_fmt (pv 1)) (.cons pe_str (.cons (pe_fmt (pv 2)) (.cons pe_str (.cons (pe_fmt (pv 3)) (.cons pe_str (.cons (pe_fmt (pv 4)) .nil)))))))))))), ?_⟩
  walk_at "rd"
  refine ⟨v, d, rfl, hd, hl, _, rfl, ?_⟩
  cases e : lineB d with
  | false =>
    walk_at "rd"
    intro dd hdd
    exact k2 e dd _ hdd (Same.new hdd) upd_same
  | true =>
    walk_at "rd"
    obtain ⟨h, n, c, t, rfl, h1, h2, h3, h4, h5⟩ := lineB_of e
    obtain ⟨a, rfl, ha⟩ := dv_line (h := h) (n := n) (c := c) (t := t) (show DV H v (lineD h n c t) from by cases hd with | dat x => exact x)
    refine r_unp (SqT.of ha) rfl ?_
    walk_at "rd"
    have bh := hi _ rfl h (by simp)
    have bn := hi _ rfl n (by simp)
    have lc := hl.t _ rfl c (by simp)
    have l0 : Str.empty.length = 0 := rfl
    have l1 := sp_len
    have th := int_len bh
    have tn := int_len bn
    have sz : sizeLine = 16777216 := sizeLine_eq
    have kk := k1 h n c t rfl e
    unfold lineT at kk
    refine .inr ⟨?_, ?_, ?_, .inr ⟨?_, ?_, ?_, .inl ⟨?_, ?_, ?_, .inl ⟨?_, ?_, kk⟩⟩⟩⟩
    · have := log120 bh
      omega
    · rw [append_len]; omega
    · rw [append_len, append_len]; omega
    · have := log120 bn
      omega
    · rw [append_len, append_len, append_len]; omega
    · rw [append_len, append_len, append_len, append_len]; omega
    · omega
    · rw [append_len, append_len, append_len, append_len, append_len]; omega
    · rw [append_len, append_len, append_len, append_len, append_len, append_len]; omega
    · omega
    · rw [append_len, append_len, append_len, append_len, append_len, append_len, append_len]; omega
end
end K06


namespace K06
open PySem L2 Nv

/-- what a text is read as -/
def numV (z : Str) : Int := ((Fr.num (sg z) : Nat) : Int)
theorem num_int {z : Str} (h : numS z = true) (l : z.length ≤ 640) : intText? z = some (numV z) := by
  have e : numL (sg z) = true := by
    rw [← numS_eq]
    exact h
  unfold numL at e
  simp only [Bool.and_eq_true, decide_eq_true_eq] at e
  have h1 := e.1.1
  rw [sg_len] at h1
  exact int_dig e.1.2 (by omega) l
theorem num_all {z : Str} (h : numS z = true) : (sg z).all Fr.dig = true := by
  have e : numL (sg z) = true := by
    rw [← numS_eq]
    exact h
  unfold numL at e
  simp only [Bool.and_eq_true, decide_eq_true_eq] at e
  exact e.1.2
theorem num_short {z : Str} {B : Nat} (f : Fig B (sg z)) (h : numS z = true) : z.length ≤ B := by
  have := f.self (num_all h)
  rw [sg_len] at this
  exact this
def lnP (z : Str) : Option (Int × Int × Str × Str) :=
  match Txt.splitMax z (Str.ofString " ") 3 with
  | [a, b, c, t] => if numS a = true ∧ numS b = true ∧ lineB (lineD (numV a) (numV b) c t) = true then some (numV a, numV b, c, t) else none
  | _ => none
def lnD : PyData → Option (Int × Int × Str × Str)
  | .str z => lnP z
  | _ => none
def spLn (K : PySem.W.Frag) : Sp := fun vs H Q _ => ∃ v d, vs = [v] ∧ AV K H v d ∧ (∀ z, d = .str z → z.length ≤ 10000 ∧ Fig 120 (sg z)) ∧
  (lnD d = none → ∀ H', Same H H' → Q .non H') ∧
  (∀ h n c t, lnD d = some (h, n, c, t) → ∀ p H', H p = none → Same H H' → H' p = some (.tup [.int h, .int n, .str c, .str t]) → Q (.ref p) H')
section
variable {P : Program} {w : World} {K : PySem.W.Frag} {mg : Str → Option Value} {base : Heap}
theorem ok_line_in (T : Tx K mg) : FnG P w K mg base 4 T.d_line_in.f T.d_line_in.fd ["value"] (spLn K) := by
  refine okG0 T.d_line_in.F sc_line_in (fun vs H Q E h => ?_) (fun cdv A outer s H vs Q E hg hr h => ?_)
  · obtain ⟨v, d, rfl, _⟩ := h
    rfl
  obtain ⟨v, d, rfl, hd, hz, k1, k2⟩ := h
  refine ⟨_, (pss_cons (ps_if (pt_not (pt_val (pe_callB call_isiA (by rfl) T.n_isinstance (by decide +kernel) (pa_cons (pv 0) (pa_cons (pe_bltn (v := .ty "str") (by rfl) T.n_str (by decide +kernel) rfl) pa_nil)))))
      (pss_one (ps_ret pe_non))
      pss_nil)
    (pss_cons (ps_set (i := 1) sc_line_in.nd rfl (Or.inl rfl) (pe_bm PySem.F.plainAttrs_str PySem.F.slot_str_split PySem.F.type_str_split mt_splitMax (pv 0) (pa_cons pe_str (pa_cons pe_int pa_nil))))
    (pss_cons (ps_if (PW.pt (pw_or (pt_cmpR op_ne (pe_callB call_len_seq (by rfl) T.n_len (by decide +kernel) (pa_cons (pv 1) pa_nil)) pe_int (nomark _)) (pw_or (pt_not (pt_val (pe_cG (ok_is_numeral T) T.d_is_numeral.b takes0 hg (hr.mono (by decide)) T.d_is_numeral.m T.d_is_numeral.F.kp (pa_cons (pe_ix ix_list (pv 1) pe_int (fun _ _ => rfl)) pa_nil)))) (pw_or1 (pt_not (pt_val (pe_cG (ok_is_numeral T) T.d_is_numeral.b takes0 hg (hr.mono (by decide)) T.d_is_numeral.m T.d_is_numeral.F.kp (pa_cons (pe_ix ix_list (pv 1) pe_int (fun _ _ => rfl)) pa_nil))))))))
      (pss_one (ps_ret pe_non))
      pss_nil)
    (pss_cons (ps_set (i := 2) sc_line_in.nd rfl (Or.inl rfl) (pe_tup (pa_cons (pe_callTy call_int_str (by rfl) T.n_int (by decide +kernel) (pa_cons (pe_ix ix_list (pv 1) pe_int (fun _ _ => rfl)) pa_nil)) (pa_cons (pe_callTy call_int_str (by rfl) T.n_int (by decide +kernel) (pa_cons (pe_ix ix_list (pv 1) pe_int (fun _ _ => rfl)) pa_nil)) (pa_cons (pe_ix ix_list (pv 1) pe_int (fun _ _ => rfl)) (pa_cons (pe_ix ix_list (pv 1) pe_int (fun _ _ => rfl)) pa_nil))))))
    (pss_one (ps_ret (pe_ifExp (pt_val (pe_cG (ok_is_line T) T.d_is_line.b takes0 hg (hr.mono (by decide)) T.d_is_line.m T.d_is_line.F.kp (pa_cons (pv 2) pa_nil))) (pv 2) pe_non))))))), ?_⟩
  walk_at "rd"
  have sz : sizeLine = 16777216 := sizeLine_eq
  refine hd.isStr ?_
  cases d with
  | str z =>
    cases hd.str
    obtain ⟨lz, fz⟩ := hz z rfl
    simp only [isS]
    walk_at "rd"
    refine ⟨rfl, _, _, ⟨rfl, rfl⟩, by decide +kernel, by decide, by decide, by omega, ?_⟩
    intro l hl
    obtain ⟨ps, hps⟩ : ∃ ps, Txt.splitMax z (Str.ofString " ") 3 = ps := ⟨_, rfl⟩
    rw [hps]
    have sub : ∀ p ∈ ps, p.length ≤ 10000 := fun p hp => by
      have := (splitMax_sub (x := z) (p := p) (k := 3) (by rw [hps]; exact hp)).1
      omega
    have num : ∀ p ∈ ps, numS p = true → p.length ≤ 120 := fun p hp hn => num_short (fz.sub (splitMax_infix (x := z) (p := p) (k := 3) (by rw [hps]; exact hp))) hn
    have S1 : Same H (upd H l (.lst (ps.map V.str))) := Same.new hl
    obtain ⟨H1, e1⟩ : ∃ H1, upd H l (.lst (ps.map V.str)) = H1 := ⟨_, rfl⟩
    have f1 : H1 l = some (.lst (ps.map V.str)) := by
      rw [← e1]
      exact upd_same
    rw [e1] at S1 ⊢
    refine ⟨_, rfl, _, .inl (.of f1), rfl, ?_⟩
    rw [List.length_map]
    by_cases h4 : ps.length = 4
    · obtain ⟨a, b, c, t, rfl⟩ : ∃ a b c t, ps = [a, b, c, t] := by
        match ps, h4 with
        | [a, b, c, t], _ => exact ⟨a, b, c, t, rfl⟩
      rw [if_neg (by show ¬ (decide ((4 : Int) = 4) = false); decide)]
      have f1' : SqL K H1 l [.str a, .str b, .str c, .str t] := .of f1
      have ea : lnD (.str z) = if numS a = true ∧ numS b = true ∧ lineB (lineD (numV a) (numV b) c t) = true then some (numV a, numV b, c, t) else none := by
        show lnP z = _
        unfold lnP
        rw [hps]
      refine r_ixL f1' rfl ?_
      walk_at "rd"
      cases na : numS a with
      | false =>
        simp only [↓reduceIte]
        exact k1 (by rw [ea, na]; simp) H1 S1
      | true =>
        walk_at "rd"
        refine r_ixL f1' rfl ?_
        walk_at "rd"
        cases nb : numS b with
        | false =>
          walk_at "rd"
          exact k1 (by rw [ea, nb]; simp) H1 S1
        | true =>
          walk_at "rd"
          refine r_ixL f1' rfl ⟨a, rfl, _, num_int na (by have := num a (by simp) na; omega), by have := num a (by simp) na; omega, ?_⟩
          refine r_ixL f1' rfl ⟨b, rfl, _, num_int nb (by have := num b (by simp) nb; omega), by have := num b (by simp) nb; omega, ?_⟩
          refine r_ixL f1' rfl ?_
          refine r_ixL f1' rfl ⟨by decide, fun p hp => ?_⟩
          have hpH : H p = none := by
            cases q : H p with
            | none => rfl
            | some o =>
              rw [S1 _ _ q] at hp
              cases hp
          have S2 : Same H (upd H1 p (.tup [.int (numV a), .int (numV b), .str c, .str t])) := Same.trans S1 (Same.new hp)
          refine ⟨_, lineD (numV a) (numV b) c t, rfl, .dat (.tup upd_same (.cons (.int _) (.cons (.int _) (.cons (.str _) (.cons (.str _) .nil))))), ⟨fun z e => (by cases e), fun ds e z m => ?_⟩, _, rfl, ?_⟩
          · cases e
            have hm : z = c ∨ z = t := by simpa using m
            rcases hm with rfl | rfl
            · have := sub z (by simp)
              omega
            · have := sub z (by simp)
              omega
          · cases el : lineB (lineD (numV a) (numV b) c t) with
            | false =>
              exact k1 (by rw [ea, el]; simp) _ S2
            | true =>
              exact k2 _ _ _ _ (by rw [ea, na, nb, el]; simp) p _ hpH S2 upd_same
    · rw [if_pos (by simpa using (show ¬ ((ps.length : Int) = 4) from by omega))]
      refine k1 ?_ H1 S1
      show lnP z = none
      unfold lnP
      rw [hps]
      split
      · exact absurd rfl h4
      · rfl
  | _ =>
    simp only [isS]
    walk_at "rd"
    exact k1 rfl H (Same.refl H)
end
end K06


namespace K06
open PySem L2 Nv

/-- the text of a frame -/
def frT (z : Str) : Str := tx (Fr.frm (sg z))
def spFramed (CT : Addr) : Sp := fun vs H Q E => ∃ v d, vs = [v] ∧ DV H v d ∧ (∀ z, d = .str z → z.length ≤ 100000) ∧
  (∀ z, d = .str z → okS z = true → z.length ≤ 9999 → Q (.str (frT z)) H) ∧
  ((∀ z, d = .str z → okS z = true → 9999 < z.length) → ∀ dd H', H dd = none → Same H H' → H' dd = some (.xd [("given", v)]) → E (.ref CT) (some dd) H')
def endV : Option Nat → V
  | some e => .int (e : Int)
  | none => .non
def spEnd : Sp := fun vs H Q _ => ∃ (z : Str) (s : Nat), vs = [.str z, .int (s : Int)] ∧ Pl z ∧ z.length ≤ 100000 ∧ s ≤ 100000 ∧
  Q (endV (Fr.fend (sg z) s)) H
/-- what a row of frames is read as -/
def TextsAt (H : Hp) (l : Addr) (ts : List (List Nat)) : Prop := H l = some (.lst (ts.map fun t => V.str (tx t)))
def spIn (CS : Addr) : Sp := fun vs H Q E => ∃ v d, vs = [v] ∧ DV H v d ∧
  (∀ z, d = .str z → okS z = true → z.length ≤ 100000 ∧ ∀ t l H', H t = none → H l = none → l ≠ sysModules → t ≠ l → Same H H' → TextsAt H' l (Fr.parse (sg z)).1 → H' t = some (.tup [.ref l, .int ((Fr.parse (sg z)).2 : Int)]) → Q (.ref t) H') ∧
  ((∀ z, d = .str z → okS z = false) → ∀ dd H', H dd = none → Same H H' → H' dd = some (.xd [("given", v)]) → E (.ref CS) (some dd) H')
theorem four_log {n : Int} (h0 : 0 ≤ n) (h : n < 10000) : n.natAbs < 10000 := by omega
theorem dot_sg : sg (Str.ofString ".") = [46] := by decide +kernel
theorem dot_len : (Str.ofString ".").length = 1 := by decide +kernel
section
variable {P : Program} {w : World} {K : PySem.W.Frag} {mg : Str → Option Value} {base : Heap}
theorem okx_InvalidSigns (T : Tx K mg) : FnOk P w K mg base CX0 1 T.x_InvalidSigns.f T.x_InvalidSigns.fd ["self", "given"] (spXI K "given") :=
  ok_xi T.x_InvalidSigns.F sc_InvalidSigns_init rfl (by decide) (by decide)
theorem ok_framed (T : Tx K mg) : FnG P w K mg base 3 T.d_framed.f T.d_framed.fd ["text"] (spFramed T.C_InvalidText) := by
  refine okG T.d_framed.F sc_framed (fun vs H Q E h => ?_) (fun cdv A outer s H vs Q E hg hr h => ?_)
  · obtain ⟨v, d, rfl, _⟩ := h
    rfl
  obtain ⟨v, d, rfl, hd, hz, k1, k2⟩ := h
  refine ⟨_, (pss_cons (ps_if (PW.pt (pw_or (pt_not (pt_val (pe_cG (ok_is_signs T) T.d_is_signs.b (takes_of rfl rfl rfl rfl) hg (hr.mono (by decide)) T.d_is_signs.m T.d_is_signs.F.kp (pa_cons (pv 0) pa_nil)))) (pw_or1 (pt_cmpR op_gt (pe_callB call_len_str (by rfl) T.n_len (by decide +kernel) (pa_cons (pv 0) pa_nil)) (pe_glob (v := .int 9999) rfl T.g_MOST_SIGNS_frames ⟨_, rfl⟩) (nomark _)))))
      (pss_one (ps_err rfl (takes_of rfl rfl rfl rfl) T.e_InvalidText (okx_InvalidText T) T.x_InvalidText.bi (hr.mono (by decide)) (pv 0)))
      pss_nil)
    (pss_one (ps_ret (pe_joined (.cons (pe_fmt04 (pe_callB call_len_str (by rfl) T.n_len (by decide +kernel) (pa_cons (pv 0) pa_nil))) (.cons (pe_fmt (pv 0)) (.cons (pe_fmt (pe_glob (v := .str ".") rfl T.g_END ⟨_, rfl⟩)) .nil))))))), ?_⟩
  walk_at "rd"
  refine ⟨v, d, rfl, .dat hd, _, rfl, ?_⟩
  have sz : sizeLine = 16777216 := sizeLine_eq
  cases e : sigOk d with
  | false =>
    walk_at "rd"
    intro dd hdd
    exact k2 (fun z e1 e2 => by subst e1; rw [show okS z = false from e] at e2; cases e2) dd _ hdd (Same.new hdd) upd_same
  | true =>
    walk_at "rd"
    cases hd with
    | str z =>
      have lz := hz z rfl
      refine ⟨by omega, ?_⟩
      walk_at "rd"
      by_cases hl : (9999 : Int) < (z.length : Int)
      · rw [if_pos hl]
        refine ⟨by omega, fun dd hdd => ?_⟩
        refine k2 (fun y e1 e2 => ?_) dd _ hdd (Same.new hdd) upd_same
        cases e1
        omega
      · rw [if_neg hl]
        walk_at "rd"
        refine ⟨by omega, by omega, ?_⟩
        have hn : ((z.length : Int)).natAbs < 10000 := by omega
        have l4 := four_len hn
        have ee : Str.empty.length = 0 := rfl
        refine ⟨by omega, hn, by rw [append_len]; omega, .inl ⟨by omega, by rw [append_len, append_len]; omega, .inl ⟨by rw [dot_len]; omega, by rw [append_len, append_len, append_len, dot_len]; omega, ?_⟩⟩⟩
        have fe : Str.empty ++ four (z.length : Int) ++ z ++ Str.ofString "." = frT z := sg_inj (by
          rw [sg_app, sg_app, sg_app, four_sg (by omega) hn, dot_sg]
          unfold frT
          rw [sg_tx]
          unfold Fr.frm
          rw [sg_len]
          rfl)
        rw [fe]
        exact k1 z rfl e (by omega)
    | _ => cases e
theorem ok_frame_end (T : Tx K mg) : FnG P w K mg base 1 T.d_frame_end.f T.d_frame_end.fd ["signs", "start"] spEnd := by
  refine okG0 T.d_frame_end.F sc_frame_end (fun vs H Q E h => ?_) (fun cdv A outer s H vs Q E hg hr h => ?_)
  · obtain ⟨z, s, rfl, _⟩ := h
    rfl
  obtain ⟨z, st, rfl, hp, hz, hst, k⟩ := h
  refine ⟨_, (pss_cons (ps_set (i := 2) sc_frame_end.nd rfl (Or.inl rfl) (pe_slice sl_str (pv 0) (po_some (pv 1)) (po_some (pe_op op_add (pv 1) (pe_glob (v := .int 4) rfl T.g_FIGURES ⟨_, rfl⟩)))))
    (pss_cons (ps_if (PW.pt (pw_or (pt_cmpR op_lt (pe_callB call_len_str (by rfl) T.n_len (by decide +kernel) (pa_cons (pv 2) pa_nil)) (pe_glob (v := .int 4) rfl T.g_FIGURES ⟨_, rfl⟩) (nomark _)) (pw_or1 (pt_not (pt_val (pe_bm0 PySem.F.plainAttrs_str PySem.F.slot_str_isdigit PySem.F.type_str_isdigit mt_isdigit (pv 2)))))))
      (pss_one (ps_ret pe_non))
      pss_nil)
    (pss_cons (ps_set (i := 3) sc_frame_end.nd rfl (Or.inl rfl) (pe_op op_add (pe_op op_add (pe_op op_add (pv 1) (pe_glob (v := .int 4) rfl T.g_FIGURES ⟨_, rfl⟩)) (pe_callTy call_int_str (by rfl) T.n_int (by decide +kernel) (pa_cons (pv 2) pa_nil))) (pe_callB call_len_str (by rfl) T.n_len (by decide +kernel) (pa_cons (pe_glob (v := .str ".") rfl T.g_END ⟨_, rfl⟩) pa_nil))))
    (pss_cons (ps_if (pt_cmpR op_ne (pe_slice sl_str (pv 0) (po_some (pe_op op_sub (pv 3) (pe_callB call_len_str (by rfl) T.n_len (by decide +kernel) (pa_cons (pe_glob (v := .str ".") rfl T.g_END ⟨_, rfl⟩) pa_nil)))) (po_some (pv 3))) (pe_glob (v := .str ".") rfl T.g_END ⟨_, rfl⟩) (nomark _))
      (pss_one (ps_ret pe_non))
      pss_nil)
    (pss_one (ps_ret (pv 3))))))), ?_⟩
  walk_at "rd"
  have sz : sizeLine = 16777216 := sizeLine_eq
  obtain ⟨fg, hf⟩ : ∃ fg, fg = cutS z (some (st : Int)) (some ((st : Int) + 4)) := ⟨_, rfl⟩
  have sf : sg fg = ((sg z).drop st).take 4 := by
    have := cut_nat z st (st + 4)
    rw [hf]
    have e : ((st + 4 : Nat) : Int) = (st : Int) + 4 := by omega
    rw [e] at this
    rw [this]
    congr 1
    omega
  have lf : fg.length ≤ 4 := by
    rw [← sg_len, sf, List.length_take]
    omega
  have af : Asc fg := by
    rw [hf]
    exact hp.asc.cut _ _
  rw [← hf]
  refine ⟨by omega, by omega, ?_⟩
  unfold Fr.fend at k
  rw [← sf] at k
  have none_ : ¬ ((sg fg).length = 4 ∧ (sg fg).all Fr.dig = true) → Q .non H := fun h => by
    rw [if_neg h] at k
    exact k
  by_cases h4 : (fg.length : Int) < 4
  · walk_at "rd"
    rw [if_pos h4]
    walk_at "rd"
    exact none_ fun h => by rw [sg_len] at h; omega
  · walk_at "rd"
    rw [if_neg h4]
    walk_at "rd"
    refine ⟨rfl, ?_⟩
    rw [isdigit_pl af]
    have hpos : decide (0 < fg.length) = true := by simp; omega
    rw [hpos, Bool.true_and]
    by_cases hd : (sg fg).all Fr.dig = true
    · rw [hd]
      walk_at "rd"
      have h44 : (sg fg).length = 4 ∧ (sg fg).all Fr.dig = true := ⟨by rw [sg_len]; omega, hd⟩
      rw [if_pos h44] at k
      refine ⟨_, int_dig hd (by omega) (by omega), by omega, ?_⟩
      rw [dot_len]
      refine ⟨by omega, by omega, ?_⟩
      obtain ⟨n, hn⟩ : ∃ n, n = Fr.num (sg fg) := ⟨_, rfl⟩
      rw [← hn] at k ⊢
      obtain ⟨tl, ht⟩ : ∃ tl, tl = cutS z (some ((st : Int) + 4 + (n : Int) + (1 : Nat) - (1 : Nat))) (some ((st : Int) + 4 + (n : Int) + (1 : Nat))) := ⟨_, rfl⟩
      have st1 : sg tl = ((sg z).drop (st + 4 + n)).take 1 := by
        have := cut_nat z (st + 4 + n) (st + 4 + n + 1)
        have e1 : ((st + 4 + n : Nat) : Int) = (st : Int) + 4 + (n : Int) + (1 : Nat) - (1 : Nat) := by omega
        have e2 : ((st + 4 + n + 1 : Nat) : Int) = (st : Int) + 4 + (n : Int) + (1 : Nat) := by omega
        rw [e1, e2] at this
        rw [ht, this]
        congr 1
        omega
      rw [← ht]
      refine ⟨by omega, by simp [scal], ?_⟩
      rw [← st1] at k
      by_cases hq : tl = Str.ofString "."
      · simp only [hq, decide_true, Bool.true_eq_false, ↓reduceIte]
        rw [if_pos (by rw [hq, dot_sg])] at k
        have e2 : ((st + 4 + n + 1 : Nat) : Int) = (st : Int) + 4 + (n : Int) + (1 : Nat) := by omega
        have k' : Q (.int ((st + 4 + n + 1 : Nat) : Int)) H := k
        rw [e2] at k'
        exact k'
      · simp only [hq, decide_false, ↓reduceIte]
        rw [if_neg (fun e => hq (sg_inj (by rw [e, dot_sg])))] at k
        exact k
    · have hd' : (sg fg).all Fr.dig = false := by simpa using hd
      rw [hd']
      walk_at "rd"
      exact none_ fun h => hd h.2
end
def intAt (σ : L2.St) (i : Nat) : Int := match σ[i]? with | some (some (V.int g)) => g | _ => 0
section
variable {P : Program} {w : World} {K : PySem.W.Frag} {mg : Str → Option Value} {base : Heap}
theorem ok_frames_in (T : Tx K mg) : FnG P w K mg base 3 T.d_frames_in.f T.d_frames_in.fd ["signs"] (spIn T.C_InvalidSigns) := by
  refine okG T.d_frames_in.F sc_frames_in (fun vs H Q E h => ?_) (fun cdv A outer s H vs Q E hg hr h => ?_)
  · obtain ⟨v, d, rfl, _⟩ := h
    rfl
  obtain ⟨v, d, rfl, hd, k1, k2⟩ := h
  refine ⟨_, (pss_cons (ps_if (pt_not (pt_val (pe_cG (ok_is_signs T) T.d_is_signs.b (takes_of rfl rfl rfl rfl) hg (hr.mono (by decide)) T.d_is_signs.m T.d_is_signs.F.kp (pa_cons (pv 0) pa_nil))))
      (pss_one (ps_err rfl (takes_of rfl rfl rfl rfl) T.e_InvalidSigns (okx_InvalidSigns T) T.x_InvalidSigns.bi (hr.mono (by decide)) (pv 0)))
      pss_nil)
    (pss_cons (ps_set (i := 1) sc_frames_in.nd rfl (Or.inl rfl) (pe_lst1 pa_nil))
    (pss_cons (ps_set (i := 2) sc_frames_in.nd rfl (Or.inl rfl) pe_int)
    (pss_cons (ps_set (i := 3) sc_frames_in.nd rfl (Or.inl rfl) (pe_cG (ok_frame_end T) T.d_frame_end.b (takes_of rfl rfl rfl rfl) hg (hr.mono (by decide)) T.d_frame_end.m T.d_frame_end.F.kp (pa_cons (pv 0) (pa_cons (pv 2) pa_nil))))
    (pss_cons (ps_while (passes_of rfl) (pt_cmpR op_notN (pv 3) pe_non (nomark _))
      (pss_cons (ps_expr (pe_bm PySem.F.plainAttrs_list PySem.F.slot_list_append PySem.F.type_list_append mt_append (pv 1) (pa_cons (pe_slice sl_str (pv 0) (po_some (pe_op op_add (pv 2) (pe_glob (v := .int 4) rfl T.g_FIGURES ⟨_, rfl⟩))) (po_some (pe_op op_sub (pv 3) (pe_callB call_len_str (by rfl) T.n_len (by decide +kernel) (pa_cons (pe_glob (v := .str ".") rfl T.g_END ⟨_, rfl⟩) pa_nil))))) pa_nil)))
      (pss_cons (ps_set (i := 2) sc_frames_in.nd rfl (Or.inl rfl) (pv 3))
      (pss_one (ps_set (i := 3) sc_frames_in.nd rfl (Or.inl rfl) (pe_cG (ok_frame_end T) T.d_frame_end.b (takes_of rfl rfl rfl rfl) hg (hr.mono (by decide)) T.d_frame_end.m T.d_frame_end.F.kp (pa_cons (pv 0) (pa_cons (pv 2) pa_nil))))))))
    (pss_one (ps_ret (pe_tup (pa_cons (pv 1) (pa_cons (pv 2) pa_nil)))))))))), ?_⟩
  walk_at "rd"
  refine ⟨v, d, rfl, .dat hd, _, rfl, ?_⟩
  have sz : sizeLine = 16777216 := sizeLine_eq
  cases e : sigOk d with
  | false =>
    walk_at "rd"
    intro dd hdd
    exact k2 (fun z e1 => by subst e1; exact e) dd _ hdd (Same.new hdd) upd_same
  | true =>
    walk_at "rd"
    cases hd with
    | str z =>
      obtain ⟨lz, k⟩ := k1 z rfl e
      have pz := okS_pl (z := z) e
      refine ⟨by omega, ?_⟩
      intro l hl nl
      refine ⟨z, 0, rfl, pz, lz, by omega, ?_⟩
      have st0 := Fr.At.zero (sg z)
      refine while_by (fun σ H' => ∃ (g : Nat) (acc : List (List Nat)), Fr.At (sg z) g acc ∧ TextsAt H' l acc ∧ acc.length ≤ g ∧ (∀ b o, b ≠ l → H b = some o → H' b = some o) ∧
        σ = [some (.str z), some (.ref l), some (.int (g : Int)), some (endV (Fr.fend (sg z) g))])
        (fun σ _ => (100001 - intAt σ 2).toNat) ⟨0, [], st0, ?_, Nat.le_refl _, ?_, ?_⟩ ?_ ?_
      · exact upd_same
      · intro b o nb hb
        rw [upd_ne nb]
        exact hb
      · rfl
      · rintro σ H1 ⟨g, acc, hat, htx, hla, hs, rfl⟩
        walk_at "rd"
        cases he : Fr.fend (sg z) g with
        | none =>
          simp only [endV, decide_true, Bool.true_eq_false, ↓reduceIte]
          have hp := hat.stop he
          refine ⟨by decide, fun t ht => ?_⟩
          have ntl : t ≠ l := fun q => by
            rw [q, htx] at ht
            cases ht
          have htH : H t = none := by
            cases q : H t with
            | none => rfl
            | some o =>
              rw [hs t o ntl q] at ht
              cases ht
          refine k t l _ htH hl nl ntl ?_ ?_ ?_
          · intro b o hb
            have nb : b ≠ t := ne_of_none hb htH
            rw [upd_ne nb]
            exact hs b o (ne_of_none hb hl) hb
          · show upd H1 t _ l = _
            rw [upd_ne (Ne.symm ntl), hp]
            exact htx
          · rw [upd_same, hp]
        | some e =>
          have hb := Fr.fend_bounds he
          rw [sg_len] at hb
          have nn : ¬ ((V.int (e : Int)) = V.non) := fun q => by cases q
          simp only [endV, nn, decide_false, ↓reduceIte]
          refine ⟨.inl ⟨rfl, _, .inl (.inl htx)⟩, ?_⟩
          rw [dot_len]
          walk_at "rd"
          refine ⟨by omega, by omega, l, _, _, rfl, rfl, htx, ?_, ?_⟩
          · rw [List.length_map]
            omega
          refine ⟨z, e, rfl, pz, lz, by omega, ?_⟩
          refine ⟨⟨e, acc ++ [Fr.piece (sg z) (g + 4) (e - 1)], hat.step he, ?_, ?_, ?_, rfl, rfl⟩, ?_⟩
          · show upd H1 l _ l = _
            rw [upd_same, List.map_append]
            have e1 : cutS z (some ((g : Int) + 4)) (some ((e : Int) - (1 : Nat))) = tx (Fr.piece (sg z) (g + 4) (e - 1)) := sg_inj (by
              rw [sg_tx]
              have := cut_nat z (g + 4) (e - 1)
              have q1 : ((g + 4 : Nat) : Int) = (g : Int) + 4 := by omega
              have q2 : ((e - 1 : Nat) : Int) = (e : Int) - (1 : Nat) := by omega
              rw [q1, q2] at this
              rw [this]
              rfl)
            rw [e1]
            rfl
          · rw [List.length_append]
            show _ + 1 ≤ _
            omega
          · intro b o nb hb2
            rw [upd_ne nb]
            exact hs b o nb hb2
          · simp only [intAt, List.getElem?_cons_succ, List.getElem?_cons_zero]
            omega
      · intro σ H1 Q1 Q2 hq h
        obtain ⟨v, hv, _, b, eb, q⟩ := h
        cases eb
        exact ⟨v, hv, rfl, _, rfl, hq _ _ q⟩
    | _ => cases e
end
end K06


namespace K06
open PySem L2 Nv

/-! a disk -/
theorem nts : ¬ (("_text" : Str) = "_synced") := by decide +kernel
def flds (z : Str) (n : Int) : List (Str × V) := [("_text", .str z), ("_synced", .int n)]
theorem lk_text (z : Str) (n : Int) : (flds z n).lookup ("_text" : Str) = some (.str z) := by
  have : (("_text" : Str) == ("_text" : Str)) = true := by simp
  simp [flds, List.lookup, this]
theorem lk_synced (z : Str) (n : Int) : (flds z n).lookup ("_synced" : Str) = some (.int n) := by
  have h1 : (("_synced" : Str) == ("_text" : Str)) = false := by decide +kernel
  simp [flds, List.lookup, h1]
theorem lk_no (z : Str) (n : Int) {m : Str} (h1 : (m == ("_text" : Str)) = false) (h2 : (m == ("_synced" : Str)) = false) : (flds z n).lookup m = none := by
  simp [flds, List.lookup, h1, h2]
theorem put_text (z y : Str) (n : Int) : putF "_text" (.str y) (flds z n) = flds y n := by
  simp [flds, putF]
theorem put_synced (z : Str) (n k : Int) : putF "_synced" (.int k) (flds z n) = flds z k := by
  have h1 : ¬ (("_text" : Str) = ("_synced" : Str)) := nts
  simp [flds, putF, h1]
def DiskAt (C : Addr) (H : Hp) (p : Addr) (z : Str) (n : Int) : Prop := ∃ dx, H p = some (.ins C dx (flds z n))
theorem DiskAt.mono {C : Addr} {H H' : Hp} {p : Addr} {z : Str} {n : Int} (e : Same H H') (h : DiskAt C H p z n) : DiskAt C H' p z n := by
  obtain ⟨dx, h⟩ := h
  exact ⟨dx, e _ _ h⟩
/-- what is left of a text: its first many signs -/
def firsts (z : Str) (many : Int) : Str := cutS z none (some many)

section
variable {K : PySem.W.Frag} {mg : Str → Option Value} {H : Hp} {Q : VK} {R : Hp → Prop} {p : Addr} {z y : Str} {n k : Int}
theorem r_text (T : Tx K mg) (h : DiskAt T.C_Disk H p z n) (q : Q (.str z) H) : rFld K "_text" (.ref p) H Q := by
  obtain ⟨dx, h⟩ := h
  exact r_fld h T.cl_Disk T.na_Disk_text (lk_text z n) q
theorem r_synced (T : Tx K mg) (h : DiskAt T.C_Disk H p z n) (q : Q (.int n) H) : rFld K "_synced" (.ref p) H Q := by
  obtain ⟨dx, h⟩ := h
  exact r_fld h T.cl_Disk T.na_Disk_synced (lk_synced z n) q
theorem s_text (T : Tx K mg) (h : DiskAt T.C_Disk H p z n) (q : ∀ H', DiskAt T.C_Disk H' p y n → Ext1 p H H' → R H') : rStF K "_text" (.ref p) (.str y) H R := by
  obtain ⟨dx, h⟩ := h
  refine r_stF h T.cl_Disk T.na_Disk_text (by show 2 < 1000; decide) ?_
  rw [put_text]
  exact q _ ⟨dx, upd_same⟩ Ext1.upd
theorem s_synced (T : Tx K mg) (h : DiskAt T.C_Disk H p z n) (q : ∀ H', DiskAt T.C_Disk H' p z k → Ext1 p H H' → R H') : rStF K "_synced" (.ref p) (.int k) H R := by
  obtain ⟨dx, h⟩ := h
  refine r_stF h T.cl_Disk T.na_Disk_synced (by show 2 < 1000; decide) ?_
  rw [put_synced]
  exact q _ ⟨dx, upd_same⟩ Ext1.upd
theorem m_disk {C : Addr} {m : Str} (h : DiskAt C H p z n) (h1 : (m == ("_text" : Str)) = false) (h2 : (m == ("_synced" : Str)) = false) (q : R H) : rMeth C m (.ref p) H R := by
  obtain ⟨dx, h⟩ := h
  exact r_meth h (lk_no z n h1 h2) q
end
def spInit (C : Addr) : Sp := fun vs H Q _ => ∃ p dx, vs = [.ref p] ∧ H p = some (.ins C dx []) ∧ ∀ H', DiskAt C H' p Str.empty 0 → Ext1 p H H' → Q .non H'
def spGet (C : Addr) (g : Str → Int → V) : Sp := fun vs H Q _ => ∃ p z n, vs = [.ref p] ∧ DiskAt C H p z n ∧ Q (g z n) H
def spPut (C CS : Addr) : Sp := fun vs H Q E => ∃ p v z n d, vs = [.ref p, v] ∧ DiskAt C H p z n ∧ DV H v d ∧
  (∀ y, d = .str y → okS y = true → z.length + y.length ≤ sizeLine ∧ ∀ H', DiskAt C H' p (z ++ y) n → Ext1 p H H' → Q .non H') ∧
  (sigOk d = false → ∀ dd H', H dd = none → Same H H' → H' dd = some (.xd [("given", v)]) → E (.ref CS) (some dd) H')
def spLeave (C : Addr) : Sp := fun vs H Q E => ∃ p i z n, vs = [.ref p, .int i] ∧ DiskAt C H p z n ∧ z.length ≤ sizeLine ∧
  ∀ H', DiskAt C H' p (firsts z i) ((firsts z i).length : Int) → Ext1 p H H' → Q .non H'
def spSync (C : Addr) : Sp := fun vs H Q E => ∃ p z n, vs = [.ref p] ∧ DiskAt C H p z n ∧ z.length ≤ sizeLine ∧
  ∀ H', DiskAt C H' p z (z.length : Int) → Ext1 p H H' → Q .non H'
/-- a method that leaves f i signs behind, if the count i is one and fits -/
def spCut (C CC : Addr) (fits : Str → Int → Bool) (f : Str → Int → Int → Int) : Sp := fun vs H Q E => ∃ p v z n d, vs = [.ref p, v] ∧ DiskAt C H p z n ∧ DV H v d ∧ z.length ≤ sizeLine ∧
  0 ≤ n ∧ n ≤ (z.length : Int) ∧
  (∀ i, d = .int i → 0 ≤ i → fits z i = true → ∀ H', DiskAt C H' p (firsts z (f z n i)) ((firsts z (f z n i)).length : Int) → Ext1 p H H' → Q .non H') ∧
  ((∀ i, d = .int i → 0 ≤ i → fits z i = false) → ∀ dd H', H dd = none → Same H H' → H' dd = some (.xd [("given", v)]) → E (.ref CC) (some dd) H')
section
variable {P : Program} {w : World} {K : PySem.W.Frag} {mg : Str → Option Value} {base : Heap}
theorem ok_Disk_init (T : Tx K mg) : FnOk P w K mg base CX0 1 T.d_Disk_init.f T.d_Disk_init.fd ["self"] (spInit T.C_Disk) := by
  refine T.d_Disk_init.F.ok sc_Disk_init (fun vs H Q E h => ?_) (fun cdv A outer s H vs Q E hr h => ?_)
  · obtain ⟨p, dx, rfl, _⟩ := h
    rfl
  obtain ⟨p, dx, rfl, hp, k⟩ := h
  refine ⟨_, (pss_cons (ps_fld (pv 0) pe_str rfl)
    (pss_one (ps_fld (pv 0) pe_int rfl))), ?_⟩
  walk_at "rd"
  refine r_stF hp T.cl_Disk T.na_Disk_text (by decide) ?_
  walk_at "rd"
  refine r_stF upd_same T.cl_Disk T.na_Disk_synced (by show 1 < 1000; decide) ?_
  rw [upd_upd]
  refine k _ ⟨dx, ?_⟩ Ext1.upd
  rw [upd_same]
  have h1 : ¬ (("_text" : Str) = ("_synced" : Str)) := nts
  simp [putF, flds, h1, Str.empty]
  rfl
theorem okp_text (T : Tx K mg) : FnOk P w K mg base CX0 1 T.p_text.g T.p_text.fd ["self"] (spGet T.C_Disk fun z _ => .str z) := by
  refine T.p_text.F.ok sc_Disk_text (fun vs H Q E h => ?_) (fun cdv A outer s H vs Q E hr h => ?_)
  · obtain ⟨p, z, n, rfl, _⟩ := h
    rfl
  obtain ⟨p, z, n, rfl, hp, k⟩ := h
  refine ⟨_, (pss_one (ps_ret (pe_fld (pv 0) rfl))), ?_⟩
  walk_at "rd"
  exact r_text T hp k
theorem okp_synced (T : Tx K mg) : FnOk P w K mg base CX0 1 T.p_synced.g T.p_synced.fd ["self"] (spGet T.C_Disk fun _ n => .int n) := by
  refine T.p_synced.F.ok sc_Disk_synced (fun vs H Q E h => ?_) (fun cdv A outer s H vs Q E hr h => ?_)
  · obtain ⟨p, z, n, rfl, _⟩ := h
    rfl
  obtain ⟨p, z, n, rfl, hp, k⟩ := h
  refine ⟨_, (pss_one (ps_ret (pe_fld (pv 0) rfl))), ?_⟩
  walk_at "rd"
  exact r_synced T hp k
theorem okx_InvalidCount (T : Tx K mg) : FnOk P w K mg base CX0 1 T.x_InvalidCount.f T.x_InvalidCount.fd ["self", "given"] (spXI K "given") :=
  ok_xi T.x_InvalidCount.F sc_InvalidCount_init rfl (by decide) (by decide)
theorem ok_Disk_put (T : Tx K mg) : FnG P w K mg base 3 T.d_Disk_put.f T.d_Disk_put.fd ["self", "signs"] (spPut T.C_Disk T.C_InvalidSigns) := by
  refine okG T.d_Disk_put.F sc_Disk_put (fun vs H Q E h => ?_) (fun cdv A outer s H vs Q E hg hr h => ?_)
  · obtain ⟨p, v, z, n, d, rfl, _⟩ := h
    rfl
  obtain ⟨p, v, z, n, d, rfl, hp, hd, k1, k2⟩ := h
  refine ⟨_, (pss_cons (ps_if (pt_not (pt_val (pe_cG (ok_is_signs T) T.d_is_signs.b (takes_of rfl rfl rfl rfl) hg (hr.mono (by decide)) T.d_is_signs.m T.d_is_signs.F.kp (pa_cons (pv 1) pa_nil))))
      (pss_one (ps_err rfl (takes_of rfl rfl rfl rfl) T.e_InvalidSigns (okx_InvalidSigns T) T.x_InvalidSigns.bi (hr.mono (by decide)) (pv 1)))
      pss_nil)
    (pss_one (ps_fld (pv 0) (pe_op op_add_str (pe_fld (pv 0) rfl) (pv 1)) rfl))), ?_⟩
  walk_at "rd"
  refine ⟨v, d, rfl, .dat hd, _, rfl, ?_⟩
  have e1 : Same H H := Same.refl H
  cases e : sigOk d with
  | false =>
    walk_at "rd"
    intro dd hdd
    exact k2 e dd _ (e1.free hdd) (Same.trans e1 (Same.new hdd)) upd_same
  | true =>
    walk_at "rd"
    cases hd with
    | str y =>
      obtain ⟨hz, k⟩ := k1 y rfl e
      refine r_text T (hp.mono e1) ?_
      walk_at "rd"
      refine ⟨hz, ?_⟩
      exact s_text T (hp.mono e1) fun H2 h2 e2 => k H2 h2 ((Nv.Same.ext1 e1).trans e2)
    | _ => cases e
theorem ok_Disk_sync (T : Tx K mg) : FnG P w K mg base 1 T.d_Disk_sync.f T.d_Disk_sync.fd ["self"] (spSync T.C_Disk) := by
  refine okG0 T.d_Disk_sync.F sc_Disk_sync (fun vs H Q E h => ?_) (fun cdv A outer s H vs Q E hg hr h => ?_)
  · obtain ⟨p, z, n, rfl, _⟩ := h
    rfl
  obtain ⟨p, z, n, rfl, hp, hz, k⟩ := h
  refine ⟨_, (pss_one (ps_fld (pv 0) (pe_callB call_len_str (by rfl) T.n_len (by decide +kernel) (pa_cons (pe_fld (pv 0) rfl) pa_nil)) rfl)), ?_⟩
  walk_at "rd"
  refine r_text T hp ⟨z, rfl, hz, ?_⟩
  walk_at "rd"
  exact s_synced T hp k
theorem ok_Disk__leave (T : Tx K mg) : FnG P w K mg base 1 T.d_Disk__leave.f T.d_Disk__leave.fd ["self", "many"] (spLeave T.C_Disk) := by
  refine okG0 T.d_Disk__leave.F sc_Disk__leave (fun vs H Q E h => ?_) (fun cdv A outer s H vs Q E hg hr h => ?_)
  · obtain ⟨p, i, z, n, rfl, _⟩ := h
    rfl
  obtain ⟨p, i, z, n, rfl, hp, hz, k⟩ := h
  refine ⟨_, (pss_cons (ps_fld (pv 0) (pe_slice sl_str (pe_fld (pv 0) rfl) po_none (po_some (pv 1))) rfl)
    (pss_one (ps_fld (pv 0) (pe_callB call_len_str (by rfl) T.n_len (by decide +kernel) (pa_cons (pe_fld (pv 0) rfl) pa_nil)) rfl))), ?_⟩
  walk_at "rd"
  refine r_text T hp ?_
  walk_at "rd"
  refine ⟨hz, s_text T hp fun H1 h1 e1 => ?_⟩
  walk_at "rd"
  refine r_text T h1 ⟨_, rfl, Nat.le_trans (cutS_length _ _ _) hz, ?_⟩
  walk_at "rd"
  exact s_synced T h1 fun H2 h2 e2 => k H2 h2 (e1.trans e2)
theorem spCut_len {C CC : Addr} {fits : Str → Int → Bool} {f : Str → Int → Int → Int} : ∀ vs H Q E, spCut C CC fits f vs H Q E → vs.length = 2 := fun vs H Q E h => by
  obtain ⟨p, v, z, n, d, rfl, _⟩ := h
  rfl
theorem cnt_int {d : PyData} (h : cntB d = true) : ∃ i, d = .int i ∧ 0 ≤ i := by
  cases d with
  | int i => exact ⟨i, rfl, by simpa [cntB] using h⟩
  | _ => cases h
theorem cnt_no {d : PyData} (h : cntB d = false) : ∀ i, d = .int i → 0 ≤ i → False := fun i e h0 => by
  subst e
  simp [cntB] at h
  omega
theorem ok_Disk_lose (T : Tx K mg) : FnG P w K mg base 4 T.d_Disk_lose.f T.d_Disk_lose.fd ["self", "many"] (spCut T.C_Disk T.C_InvalidCount (fun _ _ => true) fun _ _ i => i) := by
  refine okG T.d_Disk_lose.F sc_Disk_lose spCut_len (fun cdv A outer s H vs Q E hg hr h => ?_)
  obtain ⟨p, v, z, n, d, rfl, hp, hd, hz, _, _, k1, k2⟩ := h
  refine ⟨_, (pss_cons (ps_if (pt_not (pt_val (pe_cG (ok_is_count T) T.d_is_count.b (takes_of rfl rfl rfl rfl) hg (hr.mono (by decide)) T.d_is_count.m T.d_is_count.F.kp (pa_cons (pv 1) pa_nil))))
      (pss_one (ps_err rfl (takes_of rfl rfl rfl rfl) T.e_InvalidCount (okx_InvalidCount T) T.x_InvalidCount.bi (hr.mono (by decide)) (pv 1)))
      pss_nil)
    (pss_one (ps_expr (pe_mG (pv 0) T.cl_Disk T.d_Disk__leave.me (ok_Disk__leave T) T.d_Disk__leave.b (takes_of rfl rfl rfl rfl) hg (hr.mono (by decide)) (pa_cons (pv 1) pa_nil))))), ?_⟩
  walk_at "rd"
  refine ⟨v, d, rfl, hd, _, rfl, ?_⟩
  have e1 : Same H H := Same.refl H
  cases e : cntB d with
  | false =>
    walk_at "rd"
    intro dd hdd
    exact k2 (fun i h1 h2 => (cnt_no e i h1 h2).elim) dd _ (e1.free hdd) (Same.trans e1 (Same.new hdd)) upd_same
  | true =>
    walk_at "rd"
    obtain ⟨i, rfl, h0⟩ := cnt_int e
    cases hd
    refine m_disk (hp.mono e1) (by decide +kernel) (by decide +kernel) ?_
    walk_at "rd"
    exact ⟨p, i, z, n, rfl, hp.mono e1, hz, fun H2 h2 e2 => k1 i rfl h0 rfl H2 h2 ((Nv.Same.ext1 e1).trans e2)⟩
theorem ok_Disk_trim (T : Tx K mg) : FnG P w K mg base 4 T.d_Disk_trim.f T.d_Disk_trim.fd ["self", "many"] (spCut T.C_Disk T.C_InvalidCount (fun z i => decide (i ≤ (z.length : Int))) fun _ _ i => i) := by
  refine okG T.d_Disk_trim.F sc_Disk_trim spCut_len (fun cdv A outer s H vs Q E hg hr h => ?_)
  obtain ⟨p, v, z, n, d, rfl, hp, hd, hz, _, _, k1, k2⟩ := h
  refine ⟨_, (pss_cons (ps_if (PW.pt (pw_or (pt_not (pt_val (pe_cG (ok_is_count T) T.d_is_count.b (takes_of rfl rfl rfl rfl) hg (hr.mono (by decide)) T.d_is_count.m T.d_is_count.F.kp (pa_cons (pv 1) pa_nil)))) (pw_or1 (pt_cmpR op_gt (pv 1) (pe_callB call_len_str (by rfl) T.n_len (by decide +kernel) (pa_cons (pe_fld (pv 0) rfl) pa_nil)) (nomark _)))))
      (pss_one (ps_err rfl (takes_of rfl rfl rfl rfl) T.e_InvalidCount (okx_InvalidCount T) T.x_InvalidCount.bi (hr.mono (by decide)) (pv 1)))
      pss_nil)
    (pss_one (ps_expr (pe_mG (pv 0) T.cl_Disk T.d_Disk__leave.me (ok_Disk__leave T) T.d_Disk__leave.b (takes_of rfl rfl rfl rfl) hg (hr.mono (by decide)) (pa_cons (pv 1) pa_nil))))), ?_⟩
  walk_at "rd"
  refine ⟨v, d, rfl, hd, _, rfl, ?_⟩
  have e1 : Same H H := Same.refl H
  cases e : cntB d with
  | false =>
    walk_at "rd"
    intro dd hdd
    exact k2 (fun i h1 h2 => (cnt_no e i h1 h2).elim) dd _ (e1.free hdd) (Same.trans e1 (Same.new hdd)) upd_same
  | true =>
    walk_at "rd"
    obtain ⟨i, rfl, h0⟩ := cnt_int e
    cases hd
    refine r_text T (hp.mono e1) ⟨z, rfl, hz, ?_⟩
    walk_at "rd"
    by_cases hi : (z.length : Int) < i
    · rw [if_pos hi]
      intro dd hdd
      refine k2 (fun j h1 h2 => ?_) dd _ (e1.free hdd) (Same.trans e1 (Same.new hdd)) upd_same
      cases h1
      exact decide_eq_false (by omega)
    · rw [if_neg hi]
      refine m_disk (hp.mono e1) (by decide +kernel) (by decide +kernel) ?_
      walk_at "rd"
      exact ⟨p, i, z, n, rfl, hp.mono e1, hz, fun H2 h2 e2 => k1 i rfl h0 (decide_eq_true (by omega)) H2 h2 ((Nv.Same.ext1 e1).trans e2)⟩
theorem ok_Disk_fall (T : Tx K mg) : FnG P w K mg base 4 T.d_Disk_fall.f T.d_Disk_fall.fd ["self", "keep"] (spCut T.C_Disk T.C_InvalidCount (fun _ _ => true) fun z n i => n + i.fmod ((z.length : Int) - n + 1)) := by
  refine okG T.d_Disk_fall.F sc_Disk_fall spCut_len (fun cdv A outer s H vs Q E hg hr h => ?_)
  obtain ⟨p, v, z, n, d, rfl, hp, hd, hz, hn0, hn1, k1, k2⟩ := h
  refine ⟨_, (pss_cons (ps_if (pt_not (pt_val (pe_cG (ok_is_count T) T.d_is_count.b (takes_of rfl rfl rfl rfl) hg (hr.mono (by decide)) T.d_is_count.m T.d_is_count.F.kp (pa_cons (pv 1) pa_nil))))
      (pss_one (ps_err rfl (takes_of rfl rfl rfl rfl) T.e_InvalidCount (okx_InvalidCount T) T.x_InvalidCount.bi (hr.mono (by decide)) (pv 1)))
      pss_nil)
    (pss_cons (ps_set (i := 2) sc_Disk_fall.nd rfl (Or.inl rfl) (pe_op op_sub (pe_callB call_len_str (by rfl) T.n_len (by decide +kernel) (pa_cons (pe_fld (pv 0) rfl) pa_nil)) (pe_fld (pv 0) rfl)))
    (pss_one (ps_expr (pe_mG (pv 0) T.cl_Disk T.d_Disk__leave.me (ok_Disk__leave T) T.d_Disk__leave.b (takes_of rfl rfl rfl rfl) hg (hr.mono (by decide)) (pa_cons (pe_op op_add (pe_fld (pv 0) rfl) (pe_op op_modN (pv 1) (pe_op op_add (pv 2) pe_int))) pa_nil)))))), ?_⟩
  walk_at "rd"
  refine ⟨v, d, rfl, hd, _, rfl, ?_⟩
  have e1 : Same H H := Same.refl H
  cases e : cntB d with
  | false =>
    walk_at "rd"
    intro dd hdd
    exact k2 (fun i h1 h2 => (cnt_no e i h1 h2).elim) dd _ (e1.free hdd) (Same.trans e1 (Same.new hdd)) upd_same
  | true =>
    walk_at "rd"
    obtain ⟨i, rfl, h0⟩ := cnt_int e
    cases hd
    refine r_text T (hp.mono e1) ⟨z, rfl, hz, ?_⟩
    walk_at "rd"
    refine r_synced T (hp.mono e1) ?_
    walk_at "rd"
    refine m_disk (hp.mono e1) (by decide +kernel) (by decide +kernel) ?_
    walk_at "rd"
    refine r_synced T (hp.mono e1) ?_
    walk_at "rd"
    refine ⟨by omega, p, _, z, n, rfl, hp.mono e1, hz, fun H2 h2 e2 => k1 i rfl h0 rfl H2 h2 ((Nv.Same.ext1 e1).trans e2)⟩
end
end K06


namespace K06
open PySem L2 Nv

/-! lines as fours -/
abbrev L4 := Int × Int × Str × Str
def dl (x : L4) : PyData := lineD x.1 x.2.1 x.2.2.1 x.2.2.2
def tl (x : L4) : Str := lineT x.1 x.2.1 x.2.2.1 x.2.2.2
/-- a line with numbers of at most 120 figures -/
structure LOk (x : L4) : Prop where
  l : lineB (dl x) = true
  b1 : x.1 < 10 ^ 120
  b2 : x.2.1 < 10 ^ 120
theorem LOk.cases {x : L4} (h : LOk x) : 0 ≤ x.1 ∧ 0 ≤ x.2.1 ∧ celS x.2.2.1 = true ∧ okS x.2.2.2 = true ∧ x.2.2.2.length ≤ 40 := by
  obtain ⟨a, b, c, t, e, h1, h2, h3, h4, h5⟩ := lineB_of h.l
  unfold dl lineD at e
  injection e with e
  simp only [List.cons.injEq, PyData.int.injEq, PyData.str.injEq, and_true] at e
  obtain ⟨e1, e2, e3, e4⟩ := e
  rw [e1, e2, e3, e4]
  exact ⟨h1, h2, h3, h4, h5⟩
theorem celS_low {c : Str} (h : celS c = true) : 1 ≤ c.length ∧ c.length ≤ 8 ∧ ∀ d ∈ sg c, low d = true := by
  unfold celS at h
  rw [alow] at h
  simp only [Bool.and_eq_true, decide_eq_true_eq] at h
  exact ⟨by omega, h.1, List.all_eq_true.mp h.2.2⟩
theorem LOk.bounds {x : L4} (h : LOk x) : (-(10 ^ 120) ≤ x.1 ∧ x.1 ≤ 10 ^ 120) ∧ (-(10 ^ 120) ≤ x.2.1 ∧ x.2.1 ≤ 10 ^ 120) := by
  obtain ⟨h1, h2, _⟩ := h.cases
  have a := h.b1
  have b := h.b2
  have p : (0 : Int) ≤ 10 ^ 120 := Int.pow_nonneg (by decide)
  exact ⟨⟨Int.le_trans (Int.neg_nonpos_of_nonneg p) h1, Int.le_of_lt a⟩, ⟨Int.le_trans (Int.neg_nonpos_of_nonneg p) h2, Int.le_of_lt b⟩⟩
theorem LOk.asc {x : L4} (h : LOk x) : Asc x.2.2.1 ∧ Asc x.2.2.2 := by
  obtain ⟨_, _, h3, h4, _⟩ := h.cases
  exact ⟨fun d hd => low_lt ((celS_low h3).2.2 d hd), (okS_pl h4).asc⟩
theorem dig_pc {c : Nat} (h : Fr.dig c = true) : pc c = true := by
  simp [Fr.dig] at h
  simp [pc]
  omega
theorem low_pc {c : Nat} (h : low c = true) : pc c = true := by
  simp [low] at h
  simp [pc]
  omega
theorem pl_int {h : Int} (h0 : 0 ≤ h) : Pl (Str.ofString (toString h)) := by
  obtain ⟨n, rfl⟩ : ∃ n : Nat, h = (n : Int) := ⟨h.toNat, by omega⟩
  intro c hc
  rw [nat_sg] at hc
  exact dig_pc (digits_dig hc)
theorem pl_sp : Pl (Str.ofString " ") := pl_of (by decide +kernel)
theorem LOk.text {x : L4} (h : LOk x) : Pl (tl x) ∧ (tl x).length ≤ 300 := by
  obtain ⟨h1, h2, h3, h4, h5⟩ := h.cases
  obtain ⟨b1, b2⟩ := h.bounds
  have c3 := celS_low h3
  have pc' : Pl x.2.2.1 := fun d hd => low_pc (c3.2.2 d hd)
  constructor
  · unfold tl lineT
    exact ((((((Pl.empty.app (pl_int h1)).app pl_sp).app (pl_int h2)).app pl_sp).app pc').app pl_sp).app (okS_pl h4)
  · have a := int_len b1
    have b := int_len b2
    have l := sp_len
    have e : Str.empty.length = 0 := rfl
    unfold tl lineT
    rw [append_len, append_len, append_len, append_len, append_len, append_len, append_len]
    omega
/-- the file of lines -/
def fileL (ls : List L4) : List Nat := Fr.row (ls.map fun x => sg (tl x))
theorem kit_lt {K : PySem.W.Frag} (d : PyData) : PySem.W.kitAny K (.type (tyName d)) [.type "list", .type "tuple"] = some (isL d || isT d) := by
  have h1 : PySem.W.kitOne K (.type (tyName d)) (.type "list") = some (isL d) := kit_ty (kit_list d)
  have h2 : PySem.W.kitOne K (.type (tyName d)) (.type "tuple") = some (isT d) := kit_ty (kit_tuple d)
  unfold PySem.W.kitAny
  rw [h1]
  cases isL d
  · show PySem.W.kitAny K (.type (tyName d)) [.type "tuple"] = _
    unfold PySem.W.kitAny
    rw [h2]
    cases isT d <;> rfl
  · rfl
def areB : PyData → Bool
  | .list ds => ds.all lineB
  | .tuple ds => ds.all lineB
  | _ => false
def itemsD : PyData → List PyData
  | .list ds => ds
  | .tuple ds => ds
  | _ => []
def spSm (g : PyData → Bool) : Sp := fun vs H Q _ => ∃ v d, vs = [v] ∧ DR H v d ∧ ∀ H', Same H H' → Q (.bl (g d)) H'
/-- the items are not too many, their texts not too long -/
structure Its (d : PyData) : Prop where
  n : (itemsD d).length ≤ 20000
  l : ∀ x ∈ itemsD d, Lens x
def spAre : Sp := fun vs H Q _ => ∃ v d, vs = [v] ∧ DR H v d ∧ Its d ∧ ∀ H', Same H H' → Q (.bl (areB d)) H'
theorem dv_seq {K : PySem.W.Frag} {H : Hp} {v : V} {d : PyData} (h : DR H v d) (e : (isL d || isT d) = true) : ∃ a xs, v = .ref a ∧ (SqL K H a xs ∨ SqT K H a xs) ∧ DVs H xs (itemsD d) ∧ areB d = (itemsD d).all lineB := by
  cases h with
  | raw a r => exact ⟨_, _, rfl, .inl (.of a), r, rfl⟩
  | dv h =>
    cases h with
    | lst a n r => exact ⟨_, _, rfl, .inl (.of a), r, rfl⟩
    | tup a r => exact ⟨_, _, rfl, .inr (.of a), r, rfl⟩
    | _ => cases e
theorem dvs_at {H : Hp} {x : V} : ∀ {xs : List V} {ds : List PyData} {i : Nat}, DVs H xs ds → xs[i]? = some x → ∃ d, ds[i]? = some d ∧ DV H x d
  | _, _, 0, .cons a r, e => by
    simp only [List.getElem?_cons_zero, Option.some.injEq] at e
    subst e
    exact ⟨_, rfl, a⟩
  | _, _, i + 1, .cons a r, e => by
    simp only [List.getElem?_cons_succ] at e
    obtain ⟨d, h1, h2⟩ := dvs_at r e
    exact ⟨d, by simpa using h1, h2⟩
section
variable {P : Program} {w : World} {K : PySem.W.Frag} {mg : Str → Option Value} {base : Heap}
theorem okx_InvalidLines (T : Tx K mg) : FnOk P w K mg base CX0 1 T.x_InvalidLines.f T.x_InvalidLines.fd ["self", "given"] (spXI K "given") :=
  ok_xi T.x_InvalidLines.F sc_InvalidLines_init rfl (by decide) (by decide)
theorem ok_is_list (T : Tx K mg) : FnG P w K mg base 1 T.d_is_list.f T.d_is_list.fd ["value"] (spSm fun d => isL d || isT d) := by
  refine okG0 T.d_is_list.F sc_is_list (fun vs H Q E h => ?_) (fun cdv A outer s H vs Q E hg hr h => ?_)
  · obtain ⟨v, d, rfl, _⟩ := h
    rfl
  obtain ⟨v, d, rfl, hd, k⟩ := h
  refine ⟨_, (pss_one (ps_ret (pe_callB call_isiT (by rfl) T.n_isinstance (by decide +kernel) (pa_cons (pv 0) (pa_cons (pe_tup (pa_cons (pe_bltn (v := .ty "list") (by rfl) T.n_list (by decide +kernel) rfl) (pa_cons (pe_bltn (v := .ty "tuple") (by rfl) T.n_tuple (by decide +kernel) rfl) pa_nil))) pa_nil))))), ?_⟩
  walk_at "rd"
  refine ⟨by decide, fun p hp => ?_⟩
  exact ⟨v, p, _, _, _, _, rfl, upd_same, .cons (.ty _) (.cons (.ty _) .nil), (hd.mono (Same.new hp)).ty, kit_lt d, k _ (Same.new hp)⟩
theorem ok_are_lines (T : Tx K mg) : FnG P w K mg base 4 T.d_are_lines.f T.d_are_lines.fd ["value"] spAre := by
  refine okG0 T.d_are_lines.F sc_are_lines (fun vs H Q E h => ?_) (fun cdv A outer s H vs Q E hg hr h => ?_)
  · obtain ⟨v, d, rfl, _⟩ := h
    rfl
  obtain ⟨v, d, rfl, hd, it, k⟩ := h
  have sz : sizeLine = 16777216 := sizeLine_eq
  refine ⟨_, (pss_one (ps_ret (pe_and (pe_cG (ok_is_list T) T.d_is_list.b takes0 hg (hr.mono (by decide)) T.d_is_list.m T.d_is_list.F.kp (pa_cons (pv 0) pa_nil)) (pe_one (pe_callB (cr_all rfl) (by rfl) T.n_all (by decide +kernel) (pa_cons (pe_lc (own := [("line", 1)]) (g := gName 1) (tt := tYes) rfl sc_are_lines.nd (pi_seqV (pv 0)) (blkOk_by (N := ["value", "line"]) (sc := defScope s_are_lines) (by decide +kernel)) (fun _ _ _ _ _ => pg_name (i := 1) sc_are_lines.nd rfl (Or.inl rfl)) (fun _ _ _ _ _ => pts_nil) (fun _ _ _ _ _ => (pe_cG (ok_is_line T) T.d_is_line.b takes0 hg (hr.mono (by decide)) T.d_is_line.m T.d_is_line.F.kp (pa_cons (pv 1) pa_nil)))) pa_nil)))))), ?_⟩
  walk_at "rd"
  refine ⟨v, d, rfl, hd, fun H1 S1 => ?_⟩
  cases e : (isL d || isT d) with
  | false =>
    have ea : areB d = false := by
      cases d <;> first | rfl | cases e
    refine ⟨_, rfl, ?_⟩
    rw [if_neg (by show ¬ (isL d || isT d) = true; rw [e]; decide)]
    have := k H1 S1
    rw [ea] at this
    exact this
  | true =>
    refine ⟨_, rfl, ?_⟩
    rw [if_pos (show (isL d || isT d) = true from e)]
    obtain ⟨a, xs, rfl, hx, hr2, ea⟩ := dv_seq (K := K) (hd.mono S1) e
    have el := hr2.len
    have n := it.n
    refine lc_seqV rfl hx (fun D j H' => H' D = some (.lst (((itemsD d).take j).map fun x => V.bl (lineB x))) ∧ Same H1 H') (fun D hD => ⟨upd_same, Same.new hD⟩) (fun D j H' _ p => p.2) ?_ ?_
    · rintro D j x H2 hD hj ⟨f, S2⟩
      obtain ⟨dx, hdx, hvx⟩ := dvs_at hr2 hj
      refine ⟨rfl, ?_⟩
      walk_at "rd"
      refine ⟨x, dx, rfl, .dat (hvx.mono S2), it.l dx (List.mem_of_getElem? hdx), _, f, ?_, ?_, ?_⟩
      · rw [List.length_map, List.length_take, sz]
        omega
      · rw [List.take_add_one, hdx]
        simp
      · intro b o hb
        rw [upd_ne (ne_of_none hb hD)]
        exact S2 _ _ hb
    · rintro D H2 hD ⟨f, S2⟩
      rw [el, List.take_of_length_le (Nat.le_refl _)] at f
      refine ⟨D, (itemsD d).map lineB, rfl, .of ?_, ?_⟩
      · rw [f, List.map_map]
        rfl
      · have : ((itemsD d).map lineB).all id = areB d := by
          rw [ea, List.all_map]
          rfl
        rw [this]
        exact k H2 (S1.trans S2)
end
end K06


namespace K06
open PySem L2 Nv

theorem sg_join : ∀ l : List Str, sg (Str.join ⟨#[]⟩ l) = (l.map sg).flatten
  | [] => rfl
  | [k] => by simp [Str.join]
  | k :: m :: r => by
    have ih := sg_join (m :: r)
    show sg (k ++ ⟨#[]⟩ ++ Str.join ⟨#[]⟩ (m :: r)) = _
    rw [sg_app, sg_app, ih]
    simp [sg]
theorem rowOf (ts : List (List Nat)) : Txt.join (Str.ofString "") (ts.map fun t => frT (tx t)) = tx (Fr.row ts) := by
  show Builtin.Str.glued (Str.ofString "") _ = _
  rw [StrLaws.glued_eq_join]
  apply sg_inj
  have := sg_join (ts.map fun t => frT (tx t))
  have e0 : Str.ofString "" = ⟨#[]⟩ := rfl
  rw [e0, this, sg_tx, List.map_map]
  have e1 : (sg ∘ fun t => frT (tx t)) = Fr.frm := by
    funext t
    show sg (frT (tx t)) = _
    unfold frT
    rw [sg_tx, sg_tx]
  rw [e1]
  rfl
theorem dvs_snoc {H : Hp} {v : V} {d : PyData} : ∀ {xs : List V} {ds : List PyData}, DVs H xs ds → DV H v d → DVs H (xs ++ [v]) (ds ++ [d])
  | _, _, .nil, h => .cons h .nil
  | _, _, .cons a r, h => .cons a (dvs_snoc r h)
/-- lines that stand in the heap stay where a list changes -/
theorem dls_keep {H H' : Hp} {q : Addr} (hq : ∃ xs, H q = some (.lst xs)) (e : ∀ a o, a ≠ q → H a = some o → H' a = some o) : ∀ {vs : List V} {ls : List L4}, DVs H vs (ls.map dl) → DVs H' vs (ls.map dl)
  | _, [], h => by
    cases h
    exact .nil
  | _, x :: ls, h => by
    cases h with
    | cons a r =>
      obtain ⟨b, rfl, hb⟩ := dv_line a
      refine .cons (.tup (e _ _ (fun z => ?_) hb) (.cons (.int _) (.cons (.int _) (.cons (.str _) (.cons (.str _) .nil))))) (dls_keep hq e r)
      obtain ⟨xs, hx⟩ := hq
      rw [z, hx] at hb
      cases hb
def toL (x : Int × Int × Str × Str) : L4 := x
/-- the lines of texts, up to the first that is none -/
def lnsP : List (List Nat) → List L4
  | [] => []
  | t :: r => match lnP (tx t) with
    | none => []
    | some x => x :: lnsP r
theorem lnP_ok {z : Str} {x : L4} (f : Fig 120 (sg z)) (e : lnP z = some x) : LOk x := by
  unfold lnP at e
  split at e
  · rename_i a b c t hs
    split at e
    · rename_i hh
      simp only [Option.some.injEq] at e
      subst e
      have num : ∀ p ∈ [a, b, c, t], numS p = true → numV p < 10 ^ 120 := fun p hp hn => by
        have sub := f.sub (splitMax_infix (x := z) (p := p) (k := 3) (by rw [hs]; exact hp))
        have := num_lt' (num_all hn) (sub.self (num_all hn))
        have e2 : (10 : Int) ^ 120 = ((10 ^ 120 : Nat) : Int) := by norm_cast
        unfold numV
        rw [e2]
        exact Int.ofNat_lt.mpr this
      exact ⟨hh.2.2, num a (by simp) hh.1, num b (by simp) hh.2.1⟩
    · cases e
  · cases e
theorem lnsP_ok : ∀ {ts : List (List Nat)}, (∀ t ∈ ts, Fig 120 t) → ∀ x ∈ lnsP ts, LOk x
  | [], _, x, h => by cases h
  | t :: r, f, x, h => by
    unfold lnsP at h
    split at h
    · cases h
    · rename_i y hy
      rcases List.mem_cons.mp h with rfl | h
      · exact lnP_ok (by rw [sg_tx]; exact f t (by simp)) hy
      · exact lnsP_ok (fun u hu => f u (by simp [hu])) x h
theorem lnsP_len : ∀ ts : List (List Nat), (lnsP ts).length ≤ ts.length
  | [] => Nat.le_refl _
  | t :: r => by
    unfold lnsP
    split
    · exact Nat.zero_le _
    · have := lnsP_len r
      simp only [List.length_cons]
      omega
def spFof (K : PySem.W.Frag) : Sp := fun vs H Q _ => ∃ (a : Addr) (xs : List V) (ls : List L4), vs = [.ref a] ∧ (SqL K H a xs ∨ SqT K H a xs) ∧ DVs H xs (ls.map dl) ∧ (∀ x ∈ ls, LOk x) ∧ ls.length ≤ 20000 ∧
  ∀ H', Same H H' → Q (.str (tx (fileL ls))) H'
theorem LOk.lens {x : L4} (h : LOk x) : Lens (dl x) := by
  obtain ⟨_, _, h3, _, h5⟩ := h.cases
  have c := celS_low h3
  refine ⟨fun z e => (by cases e), fun ds e z m => ?_⟩
  cases e
  have hm : z = x.2.2.1 ∨ z = x.2.2.2 := by simpa using m
  rcases hm with rfl | rfl <;> omega
theorem LOk.ints {x : L4} (h : LOk x) : Ints (dl x) := by
  obtain ⟨b1, b2⟩ := h.bounds
  intro ds e i m
  cases e
  have hm : i = x.1 ∨ i = x.2.1 := by simpa using m
  rcases hm with rfl | rfl
  · exact b1
  · exact b2
section
variable {P : Program} {w : World} {K : PySem.W.Frag} {mg : Str → Option Value} {base : Heap}
theorem ok_frames_of (T : Tx K mg) : FnG P w K mg base 5 T.d_frames_of.f T.d_frames_of.fd ["lines"] (spFof K) := by
  refine okG0 T.d_frames_of.F sc_frames_of (fun vs H Q E h => ?_) (fun cdv A outer s H vs Q E hg hr h => ?_)
  · obtain ⟨a, xs, ls, rfl, _⟩ := h
    rfl
  obtain ⟨a, xs, ls, rfl, hx, dx, ok, n, k⟩ := h
  have sz : sizeLine = 16777216 := sizeLine_eq
  have el := dx.len
  rw [List.length_map] at el
  refine ⟨_, (pss_one (ps_ret (pe_join pe_str (pe_lc (own := [("line", 1)]) (g := gName 1) (tt := tYes) rfl sc_frames_of.nd (pi_seqV (pv 0)) (blkOk_by (N := ["lines", "line"]) (sc := defScope s_frames_of) (by decide +kernel)) (fun _ _ _ _ _ => pg_name (i := 1) sc_frames_of.nd rfl (Or.inl rfl)) (fun _ _ _ _ _ => pts_nil) (fun _ _ _ _ _ => (pe_cG (ok_framed T) T.d_framed.b takes0 hg (hr.mono (by decide)) T.d_framed.m T.d_framed.F.kp (pa_cons (pe_cG (ok_line_text T) T.d_line_text.b takes0 hg (hr.mono (by decide)) T.d_line_text.m T.d_line_text.F.kp (pa_cons (pv 1) pa_nil)) pa_nil))))))), ?_⟩
  walk_at "rd"
  refine ⟨⟨_, rfl⟩, ?_⟩
  refine lc_seqV rfl hx (fun D j H' => H' D = some (.lst ((ls.take j).map fun x => V.str (frT (tl x)))) ∧ Same H H') (fun D hD => ⟨upd_same, Same.new hD⟩) (fun D j H' _ p => p.2) ?_ ?_
  · rintro D j x H2 hD hj ⟨f, S2⟩
    obtain ⟨d, hd, hv⟩ := dvs_at dx hj
    rw [List.getElem?_map] at hd
    obtain ⟨y, hy, rfl⟩ := Option.map_eq_some_iff.mp hd
    have oy := ok y (List.mem_of_getElem? hy)
    obtain ⟨pt, lt⟩ := oy.text
    refine ⟨rfl, ?_⟩
    walk_at "rd"
    refine ⟨x, dl y, rfl, .dat (hv.mono S2), oy.lens, oy.ints, fun h n c t e _ => ?_, fun e => ?_⟩
    · have et : lineT h n c t = tl y := by
        unfold dl lineD at e
        injection e with e
        simp only [List.cons.injEq, PyData.int.injEq, PyData.str.injEq, and_true] at e
        obtain ⟨e1, e2, e3, e4⟩ := e
        unfold tl
        rw [e1, e2, e3, e4]
      rw [et]
      refine ⟨_, .str (tl y), rfl, .str _, fun z ez => (by cases ez; omega), fun z ez _ _ => ?_, fun ez => ?_⟩
      · cases ez
        refine ⟨_, f, ?_, ?_, ?_⟩
        · rw [List.length_map, List.length_take, sz]
          omega
        · rw [List.take_add_one, hy]
          simp
        · intro b o hb
          rw [upd_ne (ne_of_none hb hD)]
          exact S2 _ _ hb
      · have := ez _ rfl pt.ok
        omega
    · rw [oy.l] at e
      cases e
  · rintro D H2 hD ⟨f, S2⟩
    rw [el, List.take_of_length_le (Nat.le_refl _)] at f
    have ef : (ls.map fun x => V.str (frT (tl x))) = (ls.map fun x => frT (tl x)).map V.str := by rw [List.map_map]; rfl
    refine ⟨_, rfl, ls.map fun x => frT (tl x), .inl (.of (by rw [f, ef])), ?_, ?_⟩
    · have e0 : (Str.ofString "").length = 0 := by decide +kernel
      rw [e0]
      have : ∀ ms : List L4, (∀ x ∈ ms, LOk x) → ((ms.map fun x => frT (tl x)).map (·.length)).sum ≤ 310 * ms.length := by
        intro ms
        induction ms with
        | nil => intro _; simp
        | cons y r ih =>
          intro h
          have h1 := ih fun x hx => h x (by simp [hx])
          have h2 := (h y (by simp)).text.2
          simp only [List.map_cons, List.sum_cons, List.length_cons]
          have h3 : (frT (tl y)).length = (tl y).length + 5 := by
            unfold frT
            rw [tx_len, Fr.frm_len, sg_len]
          omega
      have := this ls ok
      omega
    · have er : Txt.join (Str.ofString "") (ls.map fun x => frT (tl x)) = tx (fileL ls) := by
        have := rowOf (ls.map fun x => sg (tl x))
        rw [List.map_map] at this
        have e2 : ((fun t => frT (tx t)) ∘ fun x => sg (tl x)) = fun x => frT (tl x) := by
          funext x
          show frT (tx (sg (tl x))) = _
          rw [tx_sg]
        rw [e2] at this
        exact this
      rw [er]
      exact k H2 S2
end
end K06


namespace K06
open PySem L2 Nv

/-! what lines are read from -/
theorem num_back {z : Str} (h : numS z = true) : sg (Str.ofString (toString (numV z))) = sg z := by
  have e : numL (sg z) = true := by
    rw [← numS_eq]
    exact h
  unfold numV
  rw [nat_sg]
  exact numL_back _ rfl e
theorem tl_sg {h n : Int} {c t : Str} : sg (lineT h n c t) = sg (Str.ofString (toString h)) ++ 32 :: (sg (Str.ofString (toString n)) ++ 32 :: (sg c ++ 32 :: sg t)) := by
  unfold lineT
  have e0 : sg Str.empty = [] := rfl
  have e1 : sg (Str.ofString " ") = [32] := by decide +kernel
  simp only [sg_app, e0, e1]
  simp
theorem lnP_text {z : Str} {x : L4} (e : lnP z = some x) : tl x = z := by
  unfold lnP at e
  split at e
  · rename_i a b c t hs
    split at e
    · rename_i hh
      simp only [Option.some.injEq] at e
      subst e
      apply sg_inj
      show sg (lineT (numV a) (numV b) c t) = sg z
      rw [tl_sg, num_back hh.1, num_back hh.2.1]
      exact (four_parts hs).1.symm
    · cases e
  · cases e
theorem dig_ne {d : Nat} (h : Fr.dig d = true) : d ≠ 32 := by
  simp [Fr.dig] at h
  omega
theorem low_ne {d : Nat} (h : low d = true) : d ≠ 32 := by
  simp [low] at h
  omega
theorem numS_of (n : Nat) : numS (tx (TL.numL n)) = true := by
  have e : numS (tx (TL.numL n)) = numL (sg (tx (TL.numL n))) := numS_eq _
  rw [e, sg_tx]
  exact numL_ok n
theorem numV_of (n : Nat) : numV (tx (TL.numL n)) = (n : Int) := by
  unfold numV
  rw [sg_tx, num_digits]
theorem LOk.read {x : L4} (ok : LOk x) : lnP (tl x) = some x := by
  obtain ⟨h1, h2, h3, h4, h5⟩ := ok.cases
  have lb := ok.l
  obtain ⟨h, n, c, t⟩ := x
  simp only at h1 h2 h3 h4 h5
  obtain ⟨h', rfl⟩ : ∃ k : Nat, h = (k : Int) := ⟨h.toNat, by omega⟩
  obtain ⟨n', rfl⟩ : ∃ k : Nat, n = (k : Int) := ⟨n.toNat, by omega⟩
  have e : sg (lineT (h' : Int) (n' : Int) c t) = TL.numL h' ++ 32 :: (TL.numL n' ++ 32 :: (sg c ++ 32 :: sg t)) := by
    rw [tl_sg, nat_sg, nat_sg]
  have sp := split_four e (fun d hd => dig_ne (digits_dig hd)) (fun d hd => dig_ne (digits_dig hd)) (fun d hd => low_ne ((celS_low h3).2.2 d hd))
  rw [tx_sg, tx_sg] at sp
  unfold tl lnP
  rw [sp]
  show (if numS (tx (TL.numL h')) = true ∧ numS (tx (TL.numL n')) = true ∧ lineB (lineD (numV (tx (TL.numL h'))) (numV (tx (TL.numL n'))) c t) = true then some (numV (tx (TL.numL h')), numV (tx (TL.numL n')), c, t) else none) = _
  rw [numV_of, numV_of, if_pos ⟨numS_of _, numS_of _, lb⟩]
theorem lnsP_take : ∀ ts : List (List Nat), (lnsP ts).map (fun x => sg (tl x)) = ts.take (lnsP ts).length
  | [] => rfl
  | t :: r => by
    unfold lnsP
    split
    · rfl
    · rename_i x hx
      rw [List.map_cons, List.length_cons, List.take_succ_cons, lnsP_take r, lnP_text hx, sg_tx]
/-- the lines of a file's signs -/
def lnsF (z : List Nat) : List L4 := lnsP (Fr.parse z).1
theorem row_app (a b : List (List Nat)) : Fr.row (a ++ b) = Fr.row a ++ Fr.row b := by simp [Fr.row]
theorem file_app (a b : List L4) : fileL (a ++ b) = fileL a ++ fileL b := by
  unfold fileL
  rw [List.map_append, row_app]
theorem file_prefix (z : List Nat) : ∃ r, z = fileL (lnsF z) ++ r := by
  have h := (parse_take z).1
  have e : fileL (lnsF z) = Fr.row ((Fr.parse z).1.take (lnsF z).length) := by
    unfold fileL lnsF
    rw [lnsP_take]
  have e2 : Fr.row (Fr.parse z).1 = fileL (lnsF z) ++ Fr.row ((Fr.parse z).1.drop (lnsF z).length) := by
    rw [e, ← row_app, List.take_append_drop]
  refine ⟨Fr.row ((Fr.parse z).1.drop (lnsF z).length) ++ z.drop (Fr.parse z).2, ?_⟩
  rw [← List.append_assoc, ← e2, ← h, List.take_append_drop]
theorem lnsP_all : ∀ {ls : List L4}, (∀ x ∈ ls, LOk x) → lnsP (ls.map fun x => sg (tl x)) = ls
  | [], _ => rfl
  | x :: r, h => by
    rw [List.map_cons]
    unfold lnsP
    rw [tx_sg, (h x (by simp)).read, lnsP_all fun y hy => h y (by simp [hy])]
theorem lnsF_file {ls : List L4} (h : ∀ x ∈ ls, LOk x) : lnsF (fileL ls) = ls := by
  unfold lnsF fileL
  rw [Fr.parse_all (fun t ht => ?_)]
  · exact lnsP_all h
  · obtain ⟨x, hx, rfl⟩ := List.mem_map.mp ht
    have := (h x hx).text.2
    rw [sg_len]
    omega
theorem lnsF_ok {z : List Nat} (f : Fig 120 z) : ∀ x ∈ lnsF z, LOk x := lnsP_ok fun t ht => f.sub (parse_infix ht)
theorem lnsF_len (z : List Nat) : 5 * (lnsF z).length ≤ z.length := by
  have h1 := lnsP_len (Fr.parse z).1
  have h2 := Fr.total_ge (Fr.parse z).1
  obtain ⟨_, h3, h4, _⟩ := parse_take z
  unfold lnsF
  omega
theorem pl_fig {z : Str} : Pl z → ∀ c ∈ sg z, pc c = true := fun h => h
theorem file_pl {ls : List L4} (h : ∀ x ∈ ls, LOk x) : ∀ c ∈ fileL ls, pc c = true := by
  intro c hc
  unfold fileL Fr.row at hc
  obtain ⟨l, hl, hc⟩ := List.mem_flatten.mp hc
  rw [List.map_map] at hl
  obtain ⟨x, hx, rfl⟩ := List.mem_map.mp hl
  have hc : c ∈ Fr.pad (sg (tl x)).length ++ sg (tl x) ++ [46] := hc
  rcases List.mem_append.mp hc with hc | hc
  · rcases List.mem_append.mp hc with hc | hc
    · exact dig_pc (List.all_eq_true.mp (Fr.pad_dig _) c hc)
    · exact (h x hx).text.1 c hc
  · have : c = 46 := by simpa using hc
    rw [this]
    rfl

/-! a log in the heap -/
def lfl (d l : Addr) : List (Str × V) := [("disk", .ref d), ("_lines", .ref l)]
theorem ndl : ¬ (("disk" : Str) = "_lines") := by decide +kernel
theorem lk_disk (d l : Addr) : (lfl d l).lookup ("disk" : Str) = some (.ref d) := by
  have : (("disk" : Str) == ("disk" : Str)) = true := by simp
  simp [lfl, List.lookup, this]
theorem lk_lines (d l : Addr) : (lfl d l).lookup ("_lines" : Str) = some (.ref l) := by
  have h1 : (("_lines" : Str) == ("disk" : Str)) = false := by decide +kernel
  simp [lfl, List.lookup, h1]
theorem lk_noL (d l : Addr) {m : Str} (h1 : (m == ("disk" : Str)) = false) (h2 : (m == ("_lines" : Str)) = false) : (lfl d l).lookup m = none := by
  simp [lfl, List.lookup, h1, h2]
/-- the log at p: its disk, its list at l, its lines -/
structure LogAt (C : Addr) (H : Hp) (p d l : Addr) (ls : List L4) : Prop where
  ob : ∃ dx, H p = some (.ins C dx (lfl d l))
  it : ∃ ws, H l = some (.lst ws) ∧ DVs H ws (ls.map dl)
  nm : l ≠ sysModules
section
variable {K : PySem.W.Frag} {mg : Str → Option Value} {H : Hp} {Q : VK} {R : Hp → Prop} {p d l : Addr} {ls : List L4}
theorem LogAt.mono {C : Addr} {H' : Hp} (h : LogAt C H p d l ls) (e : Same H H') : LogAt C H' p d l ls := by
  obtain ⟨⟨dx, h1⟩, ⟨ws, h2, h3⟩, n⟩ := h
  exact ⟨⟨dx, e _ _ h1⟩, ⟨ws, e _ _ h2, h3.mono e⟩, n⟩
theorem r_disk (T : Tx K mg) (h : LogAt T.C_Log H p d l ls) (q : Q (.ref d) H) : rFld K "disk" (.ref p) H Q := by
  obtain ⟨dx, h⟩ := h.ob
  exact r_fld h T.cl_Log T.na_Log_disk (lk_disk d l) q
theorem r_lines (T : Tx K mg) (h : LogAt T.C_Log H p d l ls) (q : Q (.ref l) H) : rFld K "_lines" (.ref p) H Q := by
  obtain ⟨dx, h⟩ := h.ob
  exact r_fld h T.cl_Log T.na_Log_lines (lk_lines d l) q
theorem m_log {C : Addr} {m : Str} (h : LogAt C H p d l ls) (h1 : (m == ("disk" : Str)) = false) (h2 : (m == ("_lines" : Str)) = false) (q : R H) : rMeth C m (.ref p) H R := by
  obtain ⟨dx, h⟩ := h.ob
  exact r_meth h (lk_noL d l h1 h2) q
end
end K06


namespace K06
open PySem L2 Nv

def spLon (CD : Addr) : Sp := fun vs H Q _ => ∃ (d : Addr) (z : Str) (n : Int), vs = [.ref d] ∧ DiskAt CD H d z n ∧ Pl z ∧ z.length ≤ 100000 ∧ Fig 120 (sg z) ∧
  ∀ q ws H', H q = none → q ≠ sysModules → Same H H' → H' q = some (.lst ws) → DVs H' ws ((lnsF (sg z)).map dl) → Q (.ref q) H'
def spLogI (CL CD : Addr) : Sp := fun vs H Q _ => ∃ (p d dx : Addr) (z : Str) (n : Int), vs = [.ref p, .ref d] ∧ H p = some (.ins CL dx []) ∧ DiskAt CD H d z n ∧ 0 ≤ n ∧ n ≤ (z.length : Int) ∧ Pl z ∧ z.length ≤ 100000 ∧ Fig 120 (sg z) ∧
  ∀ l H', H l = none → LogAt CL H' p d l (lnsF (sg z)) → DiskAt CD H' d (tx (fileL (lnsF (sg z)))) ((fileL (lnsF (sg z))).length : Int) → (∀ a o, a ≠ p → a ≠ d → H a = some o → H' a = some o) → Q .non H'
theorem dls_off {H H' : Hp} {q : Addr} (hq : ∀ xs, H q ≠ some (.tup xs)) (e : ∀ a o, a ≠ q → H a = some o → H' a = some o) : ∀ {vs : List V} {ls : List L4}, DVs H vs (ls.map dl) → DVs H' vs (ls.map dl)
  | _, [], h => by
    cases h
    exact .nil
  | _, x :: ls, h => by
    cases h with
    | cons a r =>
      obtain ⟨b, rfl, hb⟩ := dv_line a
      refine .cons (.tup (e _ _ (fun z => ?_) hb) (.cons (.int _) (.cons (.int _) (.cons (.str _) (.cons (.str _) .nil))))) (dls_off hq e r)
      rw [z] at hb
      exact hq _ hb
theorem dls_ext {C : Addr} {H H' : Hp} {d : Addr} (hd : ∃ z n, DiskAt C H d z n) (e : Ext1 d H H') {vs : List V} {ls : List L4} (h : DVs H vs (ls.map dl)) : DVs H' vs (ls.map dl) :=
  dls_off (fun xs q => by
    obtain ⟨z, n, dx, hx⟩ := hd
    rw [hx] at q
    cases q) e h
theorem dls_ins {H H' : Hp} {p : Addr} (hp : ∃ C dx fs, H p = some (.ins C dx fs)) (e : ∀ a o, a ≠ p → H a = some o → H' a = some o) {vs : List V} {ls : List L4} (h : DVs H vs (ls.map dl)) : DVs H' vs (ls.map dl) :=
  dls_off (fun xs q => by
    obtain ⟨C, dx, fs, hx⟩ := hp
    rw [hx] at q
    cases q) e h
section
variable {P : Program} {w : World} {K : PySem.W.Frag} {mg : Str → Option Value} {base : Heap}
theorem ok_lines_on (T : Tx K mg) : FnG P w K mg base 5 T.d_lines_on.f T.d_lines_on.fd ["disk"] (spLon T.C_Disk) := by
  refine okG0 T.d_lines_on.F sc_lines_on (fun vs H Q E h => ?_) (fun cdv A outer s H vs Q E hg hr h => ?_)
  · obtain ⟨d, z, n, rfl, _⟩ := h
    rfl
  obtain ⟨d, z, n, rfl, hd, pz, lz, fz, k⟩ := h
  have sz : sizeLine = 16777216 := sizeLine_eq
  have hr1 := hr.mono (show 2 ≤ 4 by decide)
  refine ⟨_, (pss_cons (ps_asg (pe_cG (ok_frames_in T) T.d_frames_in.b takes0 hg (hr.mono (by decide)) T.d_frames_in.m T.d_frames_in.F.kp (pa_cons (pe_prop (pv 0) T.cl_Disk T.p_text.po (okp_text T) hr1 T.p_text.bi .nil pass0 rfl) pa_nil)) (pg_tup rfl (pgs_cons (pg_name (i := 1) sc_lines_on.nd rfl (Or.inl rfl)) (pgs_cons (pg_name (i := 2) sc_lines_on.nd rfl (Or.inl rfl)) pgs_nil))))
    (pss_cons (ps_set (i := 3) sc_lines_on.nd rfl (Or.inl rfl) (pe_lst1 pa_nil))
    (pss_cons (ps_for PassesOwn.never rfl (pi_list (pv 1)) (pg_name (i := 4) sc_lines_on.nd rfl (Or.inl rfl))
      (pss_cons (ps_set (i := 5) sc_lines_on.nd rfl (Or.inl rfl) (pe_cG (ok_line_in T) T.d_line_in.b takes0 hg (hr.mono (by decide)) T.d_line_in.m T.d_line_in.F.kp (pa_cons (pv 4) pa_nil)))
      (pss_cons (ps_if (pt_cmpR op_isN (pv 5) pe_non (nomark _))
        (pss_one ps_break)
        pss_nil)
      (pss_one (ps_expr (pe_bm PySem.F.plainAttrs_list PySem.F.slot_list_append PySem.F.type_list_append mt_append (pv 3) (pa_cons (pv 5) pa_nil)))))))
    (pss_one (ps_ret (pv 3)))))), ?_⟩
  walk_at "rd"
  obtain ⟨ddx, hdx⟩ := id hd
  refine r_prp hdx ⟨d, z, n, rfl, hd, ?_⟩
  refine ⟨_, .str z, rfl, .str z, fun y e _ => ?_, fun e => (by have := e z rfl; rw [pz.ok] at this; cases this)⟩
  injection e with e
  subst e
  refine ⟨by omega, fun t0 l H0 ht hl0 nl tnl S0 hl ft => ?_⟩
  refine r_unp (.of ft) rfl ?_
  walk_at "rd"
  have pn := Fr.total_ge (Fr.parse (sg z)).1
  obtain ⟨_, q2, q3, q4⟩ := parse_take (sg z)
  have lsz : (sg z).length = z.length := sg_len z
  obtain ⟨ts, ets⟩ : ∃ ts, ts = (Fr.parse (sg z)).1 := ⟨_, rfl⟩
  have elns : lnsF (sg z) = lnsP ts := by rw [ets]; rfl
  have ht : ∀ t ∈ ts, t.length ≤ 10000 ∧ Fig 120 t := fun u hu => by
    rw [ets] at hu
    exact ⟨by have := q4 u hu; omega, fz.sub (parse_infix hu)⟩
  have nts : ts.length ≤ 100000 := by
    rw [ets]
    omega
  rw [elns] at k
  rw [← ets] at hl pn
  refine ⟨by decide, fun q hq nq => ?_⟩
  obtain ⟨H1, e1, S1, f1⟩ := gen_new (.lst []) hq
  simp only [e1]
  refine ⟨_, rfl, l, rfl, ⟨_, .of (S1 _ _ hl)⟩, ?_⟩
  have hqH : H q = none := by
    cases e : H q with
    | none => rfl
    | some o =>
      rw [S0 _ _ e] at hq
      cases hq
  refine for_list (K := K) (a := l) (xs := ts.map fun t => V.str (tx t)) (fun i σ H' => ∃ y1 y2 y3 ws acc, σ = [some (.ref d), some (.ref l), y1, some (.ref q), y2, y3] ∧ H' q = some (.lst ws) ∧ DVs H' ws (acc.map dl) ∧ ws.length = i ∧ lnsP ts = acc ++ lnsP (ts.drop i) ∧ Same H0 H')
    ⟨_, _, _, [], [], rfl, f1, .nil, rfl, rfl, S1⟩ (fun i σ H' _ ⟨_, _, _, _, _, _, _, _, _, _, S⟩ => .of (S _ _ hl)) ?_ ?_
  · rintro i x σ H2 hx ⟨y1, y2, y3, ws, acc, rfl, f2, d2, lw, ea, S2⟩
    rw [List.getElem?_map] at hx
    obtain ⟨t, htt, rfl⟩ := Option.map_eq_some_iff.mp hx
    have tt := ht t (List.mem_of_getElem? htt)
    have hi : i < ts.length := (List.getElem?_eq_some_iff.mp htt).1
    have ed : ts.drop i = t :: ts.drop (i + 1) := by
      rw [List.drop_eq_getElem_cons hi]
      congr 1
      exact (List.getElem?_eq_some_iff.mp htt).2
    walk_at "rd"
    refine ⟨_, .str (tx t), rfl, .dat (.str _), fun z e => (by cases e; rw [tx_len, sg_tx]; exact tt), fun e H3 S3 => ?_, fun h n c u e p H3 hp S3 fp => ?_⟩
    · dsimp only
      rw [if_pos rfl]
      show tRet (tVar 3) _ _ _
      walk_at "rd"
      have e0 : lnsP (ts.drop i) = [] := by
        rw [ed]
        unfold lnsP
        rw [show lnP (tx t) = none from e]
      rw [e0, List.append_nil] at ea
      exact k q ws H3 hqH nq (S0.trans (S2.trans S3)) (S3 _ _ f2) (by rw [ea]; exact d2.mono S3)
    · dsimp only
      rw [if_neg (by simp)]
      have f3 := S3 _ _ f2
      have pq : p ≠ q := fun z => by
        rw [z, f2] at hp
        cases hp
      have e0 : lnsP (ts.drop i) = (h, n, c, u) :: lnsP (ts.drop (i + 1)) := by
        rw [ed]
        conv => lhs; unfold lnsP
        rw [show lnP (tx t) = some (h, n, c, u) from e]
      refine ⟨.inl ⟨rfl, _, .of f3⟩, q, ws, _, rfl, rfl, f3, by omega, ⟨_, rfl⟩, _, upd_same, acc ++ [(h, n, c, u)], ?_, ?_, ?_, ?_⟩
      · rw [List.map_append]
        exact dvs_snoc (dls_keep ⟨_, f3⟩ (fun a o na ha => by rw [upd_ne na]; exact ha) (d2.mono S3)) (.tup (by rw [upd_ne pq]; exact fp) (.cons (.int _) (.cons (.int _) (.cons (.str _) (.cons (.str _) .nil)))))
      · rw [List.length_append, lw]
        rfl
      · rw [ea, e0]
        simp
      · intro a o ha
        rw [upd_ne (ne_of_none ha hq)]
        exact S3 _ _ (S2 _ _ ha)
  · rintro σ H2 ⟨y1, y2, y3, ws, acc, rfl, f2, d2, lw, ea, S2⟩
    walk_at "rd"
    rw [List.length_map, List.drop_length, show lnsP [] = [] from rfl, List.append_nil] at ea
    exact k q ws H2 hqH nq (S0.trans S2) f2 (by rw [ea]; exact d2)
theorem ok_Log_init (T : Tx K mg) : FnG P w K mg base 6 T.d_Log_init.f T.d_Log_init.fd ["self", "disk"] (spLogI T.C_Log T.C_Disk) := by
  refine okG0 T.d_Log_init.F sc_Log_init (fun vs H Q E h => ?_) (fun cdv A outer s H vs Q E hg hr h => ?_)
  · obtain ⟨p, d, dx, z, n, rfl, _⟩ := h
    rfl
  obtain ⟨p, d, dx, z, n, rfl, hp, hd, n0, n1, pz, lz, fz, k⟩ := h
  have sz : sizeLine = 16777216 := sizeLine_eq
  refine ⟨_, (pss_cons (ps_set (i := 2) sc_Log_init.nd rfl (Or.inl rfl) (pe_cG (ok_lines_on T) T.d_lines_on.b takes0 hg (hr.mono (by decide)) T.d_lines_on.m T.d_lines_on.F.kp (pa_cons (pv 1) pa_nil)))
    (pss_cons (ps_expr (pe_mG (pv 1) T.cl_Disk T.d_Disk_trim.me (ok_Disk_trim T) T.d_Disk_trim.b takes0 hg (hr.mono (by decide)) (pa_cons (pe_callB call_len_str (by rfl) T.n_len (by decide +kernel) (pa_cons (pe_cG (ok_frames_of T) T.d_frames_of.b takes0 hg (hr.mono (by decide)) T.d_frames_of.m T.d_frames_of.F.kp (pa_cons (pv 2) pa_nil)) pa_nil)) pa_nil)))
    (pss_cons (ps_fld (pv 0) (pv 1) rfl)
    (pss_one (ps_fld (pv 0) (pv 2) rfl))))), ?_⟩
  walk_at "rd"
  obtain ⟨ddx, hdx⟩ := id hd
  obtain ⟨_, q2, q3, q4⟩ := parse_take (sg z)
  have lsz : (sg z).length = z.length := sg_len z
  have nd : d ≠ p := fun e => by
    rw [e, hp] at hdx
    simp only [Option.some.injEq, HO.ins.injEq] at hdx
    have q := congrArg List.length hdx.2.2
    cases q
  refine ⟨d, z, n, rfl, hd, pz, lz, fz, fun q ws H2 hq2 nq S02 fq dq => ?_⟩
  walk_at "rd"
  refine m_disk (hd.mono S02) (by decide +kernel) (by decide +kernel) ?_
  have ln := lnsF_len (sg z)
  obtain ⟨r, er⟩ := file_prefix (sg z)
  have lf : (fileL (lnsF (sg z))).length ≤ z.length := by
    rw [← lsz]
    conv => rhs; rw [er]
    rw [List.length_append]
    omega
  refine ⟨q, ws, lnsF (sg z), rfl, .inl (.of fq), dq, lnsF_ok fz, by omega, fun H3 S3 => ?_⟩
  refine ⟨_, rfl, by rw [tx_len]; omega, ?_⟩
  refine ⟨d, _, z, n, _, rfl, (hd.mono S02).mono S3, .int _, by omega, n0, n1, fun i e i0 _ H4 h4 e4 => ?_, fun h => ?_⟩
  · injection e with e
    subst e
    have nq2 : q ≠ d := fun e => by
      rw [e, hdx] at hq2
      cases hq2
    have np4 : H4 p = some (.ins T.C_Log dx []) := e4 _ _ (Ne.symm nd) (S3 _ _ (S02 _ _ hp))
    refine r_stF np4 T.cl_Log T.na_Log_disk (by show 0 < 1000; decide) ?_
    refine r_stF upd_same T.cl_Log T.na_Log_lines (by show 1 < 1000; decide) ?_
    have ef : putF "_lines" (.ref q) (putF "disk" (.ref d) []) = lfl d q := by
      simp [putF, lfl, ndl]
    rw [upd_upd, ef]
    have f4 : H4 q = some (.lst ws) := e4 _ _ nq2 (S3 _ _ fq)
    have qp : q ≠ p := fun e => by
      rw [e, hp] at hq2
      cases hq2
    have es : firsts z ((fileL (lnsF (sg z))).length : Int) = tx (fileL (lnsF (sg z))) := by
      apply sg_inj
      unfold firsts
      rw [cut_to, sg_tx]
      conv => lhs; arg 2; rw [er]
      rw [List.take_left]
    rw [tx_len, es, tx_len] at h4
    refine k q _ hq2 ⟨⟨dx, upd_same⟩, ⟨ws, by rw [upd_ne qp]; exact f4, ?_⟩, nq⟩ ?_ ?_
    · have d4 : DVs H4 ws ((lnsF (sg z)).map dl) := dls_ext (C := T.C_Disk) ⟨_, _, hd.mono (S02.trans S3)⟩ e4 (dq.mono S3)
      exact dls_ins ⟨_, _, _, np4⟩ (fun a o na ha => by rw [upd_ne na]; exact ha) d4
    · obtain ⟨d5, h5⟩ := h4
      exact ⟨d5, by rw [upd_ne nd]; exact h5⟩
    · intro a o na nb ha
      rw [upd_ne na]
      exact e4 _ _ nb (S3 _ _ (S02 _ _ ha))
  · have := h _ rfl (by omega)
    rw [tx_len] at this
    simp at this
    omega
end
end K06


namespace K06
open PySem L2 Nv

def spLines (CL : Addr) : Sp := fun vs H Q _ => ∃ (p d l : Addr) (ls : List L4), vs = [.ref p] ∧ LogAt CL H p d l ls ∧ ls.length ≤ 100000 ∧
  ∀ t ws H', H t = none → Same H H' → H' t = some (.tup ws) → DVs H' ws (ls.map dl) → Q (.ref t) H'
def spLenL (CL : Addr) : Sp := fun vs H Q _ => ∃ (p d l : Addr) (ls : List L4), vs = [.ref p] ∧ LogAt CL H p d l ls ∧ Q (.int ls.length) H
def spPutL (CL CD CE : Addr) : Sp := fun vs H Q E => ∃ (p d l : Addr) (ls : List L4) (z : Str) (v : V) (dv : PyData), vs = [.ref p, v] ∧ LogAt CL H p d l ls ∧ DiskAt CD H d z (z.length : Int) ∧ d ≠ l ∧ v ≠ .ref l ∧ DR H v dv ∧ Its dv ∧ z.length ≤ 100000 ∧ ls.length ≤ 100000 ∧
  (areB dv = true → ∃ ms : List L4, itemsD dv = ms.map dl ∧ (∀ x ∈ ms, LOk x) ∧ ∀ H', LogAt CL H' p d l (ls ++ ms) → DiskAt CD H' d (z ++ tx (fileL ms)) ((z ++ tx (fileL ms)).length : Int) → (∀ a o, a ≠ d → a ≠ l → H a = some o → H' a = some o) → Q .non H') ∧
  (areB dv = false → ∀ dd H', H dd = none → Same H H' → H' dd = some (.xd [("given", v)]) → E (.ref CE) (some dd) H')
theorem fileL_len {ms : List L4} (h : ∀ x ∈ ms, LOk x) : (fileL ms).length ≤ 310 * ms.length := by
  induction ms with
  | nil => simp [fileL, Fr.row]
  | cons y r ih =>
    have h1 := ih fun x hx => h x (by simp [hx])
    have h2 := (h y (by simp)).text.2
    have e : fileL (y :: r) = Fr.frm (sg (tl y)) ++ fileL r := by simp [fileL, Fr.row]
    rw [e, List.length_append, Fr.frm_len, sg_len, List.length_cons]
    omega
theorem dv_raw {H : Hp} {v : V} {d : PyData} (h : DR H v d) (e : areB d = true) : ∃ a xs, v = .ref a ∧ (H a = some (.lst xs) ∨ H a = some (.tup xs)) ∧ DVs H xs (itemsD d) := by
  cases h with
  | raw a r => exact ⟨_, _, rfl, .inl a, r⟩
  | dv h =>
    cases h with
    | lst a n r => exact ⟨_, _, rfl, .inl a, r⟩
    | tup a r => exact ⟨_, _, rfl, .inr a, r⟩
    | _ => cases e
theorem dvs_app {H : Hp} : ∀ {xs ys : List V} {ds es : List PyData}, DVs H xs ds → DVs H ys es → DVs H (xs ++ ys) (ds ++ es)
  | _, _, _, _, .nil, h => h
  | _, _, _, _, .cons a r, h => .cons a (dvs_app r h)
theorem ntd : ¬ (("disk" : Str) = "_text") := by decide +kernel
theorem log_disk {C C2 : Addr} {H : Hp} {p d l d2 : Addr} {ls : List L4} {z : Str} {n : Int} (h : LogAt C H p d l ls) (h2 : DiskAt C2 H d2 z n) : p ≠ d2 ∧ l ≠ d2 := by
  obtain ⟨dx, h1⟩ := h.ob
  obtain ⟨ws, h3, _⟩ := h.it
  obtain ⟨dy, h4⟩ := h2
  refine ⟨fun e => ?_, fun e => ?_⟩
  · rw [e, h4] at h1
    simp only [Option.some.injEq, HO.ins.injEq] at h1
    have q := h1.2.2
    unfold flds lfl at q
    simp only [List.cons.injEq, Prod.mk.injEq] at q
    exact ntd q.1.1.symm
  · rw [e, h4] at h3
    cases h3
theorem LogAt.off {C C2 : Addr} {H H' : Hp} {p d l d2 : Addr} {ls : List L4} {z : Str} {n : Int} (h : LogAt C H p d l ls) (h2 : DiskAt C2 H d2 z n) (e : Ext1 d2 H H') : LogAt C H' p d l ls := by
  obtain ⟨n1, n2⟩ := log_disk h h2
  obtain ⟨⟨dx, h1⟩, ⟨ws, h3, h4⟩, nm⟩ := h
  exact ⟨⟨dx, e _ _ n1 h1⟩, ⟨ws, e _ _ n2 h3, dls_ext ⟨_, _, h2⟩ e h4⟩, nm⟩
section
variable {P : Program} {w : World} {K : PySem.W.Frag} {mg : Str → Option Value} {base : Heap}
theorem okp_lines (T : Tx K mg) : FnOk P w K mg base CX0 1 T.p_lines.g T.p_lines.fd ["self"] (spLines T.C_Log) := by
  refine T.p_lines.F.ok sc_Log_lines (fun vs H Q E h => ?_) (fun cdv A outer s H vs Q E hr h => ?_)
  · obtain ⟨p, d, l, ls, rfl, _⟩ := h
    rfl
  obtain ⟨p, d, l, ls, rfl, hp, n, k⟩ := h
  refine ⟨_, (pss_one (ps_ret (pe_callTy call_tuple_of (by rfl) T.n_tuple (by decide +kernel) (pa_cons (pe_fld (pv 0) rfl) pa_nil)))), ?_⟩
  walk_at "rd"
  refine r_lines T hp ?_
  obtain ⟨ws, h1, h2⟩ := hp.it
  refine ⟨l, rfl, ws, .inl ⟨.of h1, fun t ht => ?_⟩⟩
  exact k t ws _ ht (Same.new ht) upd_same (h2.mono (Same.new ht))
theorem ok_Log___len__ (T : Tx K mg) : FnG P w K mg base 1 T.d_Log___len__.f T.d_Log___len__.fd ["self"] (spLenL T.C_Log) := by
  refine okG0 T.d_Log___len__.F sc_Log___len__ (fun vs H Q E h => ?_) (fun cdv A outer s H vs Q E hg hr h => ?_)
  · obtain ⟨p, d, l, ls, rfl, _⟩ := h
    rfl
  obtain ⟨p, d, l, ls, rfl, hp, k⟩ := h
  refine ⟨_, (pss_one (ps_ret (pe_callB call_len_seq (by rfl) T.n_len (by decide +kernel) (pa_cons (pe_fld (pv 0) rfl) pa_nil)))), ?_⟩
  walk_at "rd"
  refine r_lines T hp ?_
  obtain ⟨ws, h1, h2⟩ := hp.it
  have e := h2.len
  rw [List.length_map] at e
  refine ⟨l, rfl, ws, .inl (.of h1), ?_⟩
  rw [e]
  exact k
theorem ok_Log_put (T : Tx K mg) : FnG P w K mg base 6 T.d_Log_put.f T.d_Log_put.fd ["self", "lines"] (spPutL T.C_Log T.C_Disk T.C_InvalidLines) := by
  refine okG T.d_Log_put.F sc_Log_put (fun vs H Q E h => ?_) (fun cdv A outer s H vs Q E hg hr h => ?_)
  · obtain ⟨p, d, l, ls, z, v, dv, rfl, _⟩ := h
    rfl
  obtain ⟨p, d, l, ls, z, v, dv, rfl, hp, hd, ndl, nvl, hv, it, lz, n, k1, k2⟩ := h
  have sz : sizeLine = 16777216 := sizeLine_eq
  refine ⟨_, (pss_cons (ps_if (pt_not (pt_val (pe_cG (ok_are_lines T) T.d_are_lines.b (takes_of rfl rfl rfl rfl) hg (hr.mono (by decide)) T.d_are_lines.m T.d_are_lines.F.kp (pa_cons (pv 1) pa_nil))))
      (pss_one (ps_err rfl (takes_of rfl rfl rfl rfl) T.e_InvalidLines (okx_InvalidLines T) T.x_InvalidLines.bi (hr.mono (by decide)) (pv 1)))
      pss_nil)
    (pss_one (ps_if (pt_cmpR op_gt (pe_callB call_len_seq (by rfl) T.n_len (by decide +kernel) (pa_cons (pv 1) pa_nil)) pe_int (nomark _))
      (pss_cons (ps_expr (pe_mG (pe_fld (pv 0) rfl) T.cl_Disk T.d_Disk_put.me (ok_Disk_put T) T.d_Disk_put.b (takes_of rfl rfl rfl rfl) hg (hr.mono (by decide)) (pa_cons (pe_cG (ok_frames_of T) T.d_frames_of.b (takes_of rfl rfl rfl rfl) hg (hr.mono (by decide)) T.d_frames_of.m T.d_frames_of.F.kp (pa_cons (pv 1) pa_nil)) pa_nil)))
      (pss_cons (ps_expr (pe_mG0 (pe_fld (pv 0) rfl) T.cl_Disk T.d_Disk_sync.me (ok_Disk_sync T) T.d_Disk_sync.b (takes_of rfl rfl rfl rfl) hg (hr.mono (by decide))))
      (pss_one (ps_expr (pe_bm PySem.F.plainAttrs_list PySem.F.slot_list_extend PySem.F.type_list_extend mt_extA (pe_fld (pv 0) rfl) (pa_cons (pv 1) pa_nil))))))
      pss_nil))), ?_⟩
  walk_at "rd"
  refine ⟨v, dv, rfl, hv, it, fun H1 S1 => ⟨_, rfl, ?_⟩⟩
  cases e : areB dv with
  | false =>
    walk_at "rd"
    intro dd hdd
    exact k2 e dd _ (S1.free hdd) (S1.trans (Same.new hdd)) upd_same
  | true =>
    walk_at "rd"
    obtain ⟨a, xs, rfl, ha, hxs⟩ := dv_raw hv e
    obtain ⟨ms, em, ok, k⟩ := k1 e
    rw [em] at hxs
    have lx := hxs.len
    rw [List.length_map] at lx
    have nm := it.n
    rw [em, List.length_map] at nm
    have hx1 : SqL K H1 a xs ∨ SqT K H1 a xs := ha.elim (fun h => .inl (.of (S1 _ _ h))) fun h => .inr (.of (S1 _ _ h))
    refine ⟨a, rfl, xs, hx1, ?_⟩
    have hp1 := hp.mono S1
    have hd1 := hd.mono S1
    by_cases h0 : (0 : Int) < (xs.length : Int)
    · rw [if_pos h0]
      refine r_disk T hp1 ?_
      refine m_disk hd1 (by decide +kernel) (by decide +kernel) ?_
      refine ⟨a, xs, ms, rfl, hx1, hxs.mono S1, ok, nm, fun H2 S2 => ?_⟩
      have fl : (fileL ms).length ≤ 310 * ms.length := fileL_len ok
      refine ⟨d, _, z, _, _, rfl, hd1.mono S2, .str _, fun y ey _ => ?_, fun ey => ?_⟩
      · injection ey with ey
        subst ey
        refine ⟨by rw [tx_len]; omega, fun H3 h3 e3 => ?_⟩
        have hp3 := (hp1.mono S2).off (hd1.mono S2) e3
        refine r_disk T hp3 ?_
        refine m_disk h3 (by decide +kernel) (by decide +kernel) ?_
        refine ⟨d, _, _, rfl, h3, by rw [append_len, tx_len]; omega, fun H4 h4 e4 => ?_⟩
        have hp4 := hp3.off h3 e4
        refine r_lines T hp4 ?_
        obtain ⟨ws, w1, w2⟩ := hp4.it
        refine ⟨.inl ⟨rfl, _, .of w1⟩, ?_⟩
        have e14 : ∀ b o, b ≠ d → H1 b = some o → H4 b = some o := fun b o nb hb => e4 _ _ nb (e3 _ _ nb (S2 _ _ hb))
        have nad : a ≠ d := fun q => by
          obtain ⟨dy, hy⟩ := hd
          rw [q, hy] at ha
          rcases ha with ha | ha <;> cases ha
        have nal : a ≠ l := fun q => nvl (by rw [q])
        have ha4 : H4 a = some (.lst xs) ∨ SqT K H4 a xs := ha.elim (fun h => .inl (e14 _ _ nad (S1 _ _ h))) fun h => .inr (.of (e14 _ _ nad (S1 _ _ h)))
        have lw := w2.len
        rw [List.length_map] at lw
        refine ⟨l, a, ws, xs, rfl, rfl, w1, ha4, by omega, ?_⟩
        obtain ⟨n1, n2⟩ := log_disk hp4 h4
        have x4 : DVs H4 xs (ms.map dl) := dls_ext ⟨_, _, h3⟩ e4 (dls_ext ⟨_, _, hd1.mono S2⟩ e3 ((hxs.mono S1).mono S2))
        refine k _ ⟨?_, ⟨_, upd_same, ?_⟩, hp.nm⟩ ?_ ?_
        · obtain ⟨dx, hdx⟩ := hp4.ob
          refine ⟨dx, ?_⟩
          rw [upd_ne (fun q => by rw [q, w1] at hdx; cases hdx)]
          exact hdx
        · rw [List.map_append]
          have kp : ∀ b o, b ≠ l → H4 b = some o → upd H4 l (.lst (ws ++ xs)) b = some o := fun b o nb hb => by rw [upd_ne nb]; exact hb
          exact dvs_app (dls_keep ⟨_, w1⟩ kp w2) (dls_keep ⟨_, w1⟩ kp x4)
        · obtain ⟨dy, hy⟩ := h4
          exact ⟨dy, by rw [upd_ne ndl]; exact hy⟩
        · intro b o nb nl hb
          rw [upd_ne nl]
          exact e14 _ _ nb (S1 _ _ hb)
      · have q : sigOk (.str (tx (fileL ms))) = okS (tx (fileL ms)) := rfl
        rw [q, (Pl.tx (file_pl ok)).ok] at ey
        cases ey
    · rw [if_neg h0]
      have : ms = [] := List.length_eq_zero_iff.mp (by omega)
      subst this
      have ez : z ++ tx (fileL []) = z := sg_inj (by rw [sg_app, sg_tx]; simp [fileL, Fr.row])
      rw [ez, List.append_nil] at k
      exact k H1 hp1 hd1 fun b o _ _ hb => S1 _ _ hb
end
end K06


namespace K06
open PySem L2 Nv

/-! draws -/
/-- the box of draws at p, of which at most N have been mixed -/
def BoxAt (H : Hp) (p : Addr) (N : Nat) : Prop := ∃ (n : Int) (b : Bool) (m c : Int), H p = some (.lst [.int n, .bl b, .int m, .int c]) ∧ 0 ≤ m ∧ m < 2147483648 ∧ 0 ≤ c ∧ c ≤ (N : Int)
theorem BoxAt.mono {H H' : Hp} {p : Addr} {N : Nat} (e : Same H H') (h : BoxAt H p N) : BoxAt H' p N := by
  obtain ⟨n, b, m, c, h, r⟩ := h
  exact ⟨n, b, m, c, e _ _ h, r⟩
theorem BoxAt.le {H : Hp} {p : Addr} {N M : Nat} (h : BoxAt H p N) (l : N ≤ M) : BoxAt H p M := by
  obtain ⟨n, b, m, c, h, r1, r2, r3, r4⟩ := h
  exact ⟨n, b, m, c, h, r1, r2, r3, by omega⟩
def spCell (K : PySem.W.Frag) : Sp := fun vs H Q _ => ∃ (a : Addr) (ns : List Int) (k : Int), vs = [.ref a, .int k] ∧ SqL K H a (ns.map V.int) ∧ 0 ≤ k ∧ k ≤ 1000 ∧ ∀ i H', Same H H' → Q (.int i) H'
def spBox : Sp := fun vs H Q _ => ∃ g, vs = [.int g] ∧ ∀ p H', H p = none → Same H H' → BoxAt H' p 0 → Q (.ref p) H'
def spTake : Sp := fun vs H Q _ => ∃ p m N, vs = [.ref p, .int m] ∧ BoxAt H p N ∧ N ≤ 1000000 ∧ 0 < m ∧ m < 1073741824 ∧
  ∀ d H', 0 ≤ d → d < m → BoxAt H' p (N + 1) → Ext1 p H H' → Q (.int d) H'
theorem fmod_in (a : Int) {m : Int} (h : 0 < m) : 0 ≤ a.fmod m ∧ a.fmod m < m := by
  rw [Int.fmod_eq_emod_of_nonneg a (Int.le_of_lt h)]
  exact ⟨Int.emod_nonneg a (by omega), Int.emod_lt_of_pos a h⟩
theorem at0 {α : Type} {xs : List α} {v : α} (h : xs[0]? = some v) : atI xs 0 = some v := atI_nat (j := 0) h
theorem at1 {α : Type} {xs : List α} {v : α} (h : xs[1]? = some v) : atI xs 1 = some v := atI_nat (j := 1) h
theorem at2 {α : Type} {xs : List α} {v : α} (h : xs[2]? = some v) : atI xs 2 = some v := atI_nat (j := 2) h
theorem at3 {α : Type} {xs : List α} {v : α} (h : xs[3]? = some v) : atI xs 3 = some v := atI_nat (j := 3) h
section
variable {P : Program} {w : World} {K : PySem.W.Frag} {mg : Str → Option Value} {base : Heap}
theorem ok_l_cell (T : Tx K mg) : FnG P w K mg base 1 T.d_l_cell.f T.d_l_cell.fd ["script", "k"] (spCell K) := by
  refine okG0 T.d_l_cell.F sc_l_cell (fun vs H Q E h => ?_) (fun cdv A outer s H vs Q E hg hr h => ?_)
  · obtain ⟨a, ns, k, rfl, _⟩ := h
    rfl
  obtain ⟨a, ns, k, rfl, hS, h0, h1, q⟩ := h
  refine ⟨_, (pss_one (ps_ret (pe_ifExp (pt_cmpR op_lt (pv 1) (pe_callB call_len_seq (by rfl) T.n_len (by decide +kernel) (pa_cons (pv 0) pa_nil)) (nomark _)) (pe_ix ix_list (pv 0) (pv 1) (fun _ _ => rfl)) (pe_op op_add (pe_op op_mul pe_int (pv 1)) (pe_op op_modN (pe_callB (cr_sum rfl) (by rfl) T.n_sum (by decide +kernel) (pa_cons (pe_slice sl_list (pv 0) po_none (po_some pe_int)) pa_nil)) pe_int))))), ?_⟩
  walk_at "rd"
  refine ⟨_, .inl hS, ?_⟩
  walk_at "rd"
  by_cases hk : k < ((ns.map V.int).length : Int)
  · rw [if_pos hk]
    obtain ⟨j, rfl⟩ : ∃ j : Nat, k = (j : Int) := ⟨k.toNat, by omega⟩
    have hj : j < ns.length := by
      rw [List.length_map] at hk
      omega
    refine r_ixL hS (atI_nat (j := j) (v := V.int ns[j]) (by simp [hj])) ?_
    exact q _ H (Same.refl H)
  · rw [if_neg hk]
    refine ⟨.inl (by decide), a, _, rfl, hS, fun p hp => ?_⟩
    walk_at "rd"
    have hc : cutV (ns.map V.int) none (some 1) = ((ns.drop (HT.sIx (ns.map V.int).length 0 none)).take (HT.sIx (ns.map V.int).length (ns.map V.int).length (some 1) - HT.sIx (ns.map V.int).length 0 none)).map V.int := by
      unfold cutV
      rw [List.map_take, List.map_drop]
    refine ⟨p, _, rfl, .inl (.inl (by rw [hc] at *; exact upd_same)), ?_⟩
    walk_at "rd"
    refine ⟨by decide, ?_⟩
    exact q _ _ (Same.new hp)
theorem ok_l_box (T : Tx K mg) : FnG P w K mg base 1 T.d_l_box.f T.d_l_box.fd ["great"] spBox := by
  refine okG0 T.d_l_box.F sc_l_box (fun vs H Q E h => ?_) (fun cdv A outer s H vs Q E hg hr h => ?_)
  · obtain ⟨g, rfl, _⟩ := h
    rfl
  obtain ⟨g, rfl, q⟩ := h
  refine ⟨_, (pss_one (ps_ret (pe_lst1 (pa_cons (pe_callB call_abs (by rfl) T.n_abs (by decide +kernel) (pa_cons (pv 0) pa_nil)) (pa_cons (pe_cmpR op_ge (pe_callB call_abs (by rfl) T.n_abs (by decide +kernel) (pa_cons (pv 0) pa_nil)) (pe_op op_pow pe_int pe_int) (nomark _)) (pa_cons (pe_op op_modN (pe_callTy call_intI (by rfl) T.n_int (by decide +kernel) (pa_cons (pe_callB call_abs (by rfl) T.n_abs (by decide +kernel) (pa_cons (pv 0) pa_nil)) pa_nil)) pe_int) (pa_cons pe_int pa_nil))))))), ?_⟩
  walk_at "rd"
  refine ⟨by unfold CPow; decide, by decide, by decide, fun p hp _ => ?_⟩
  have f := fmod_in (if g < 0 then -g else g) (m := 2147483629) (by decide)
  exact q p _ hp (Same.new hp) ⟨_, _, _, _, upd_same, f.1, by omega, by decide, by decide⟩
theorem cmul_r {a b : Int} (h1 : -(2 ^ 64) < b) (h2 : b < 2 ^ 64) : CMul a b := .inr ⟨h1, h2⟩
theorem cmul_l {a b : Int} (h1 : -(2 ^ 64) < a) (h2 : a < 2 ^ 64) : CMul a b := .inl ⟨h1, h2⟩
theorem cpow_of {a e : Int} (h0 : 0 ≤ e) (h1 : e ≤ 1000000) (h2 : 0 ≤ a) (h3 : a < 2 ^ 64) : CPow a e := ⟨h0, h1, by omega⟩
theorem setIx {n : Nat} {j : Nat} (h : j < n) : ixN n (j : Int) = some j := by
  unfold ixN
  rw [if_pos (by omega), if_pos (by omega)]
  simp
local macro_rules | `(tactic| walk_at "mix") => `(tactic| (
  refine r_ixL (SqL.of (by assumption)) (at3 rfl) ?_
  walk_at "rd"
  refine r_setL (by assumption) (setIx (j := 3) (by show 3 < 4; decide)) ?_
  walk_at "rd"
  refine r_ixL (SqL.of upd_same) (at2 rfl) ?_
  walk_at "rd"
  refine r_ixL (SqL.of upd_same) (at3 rfl) ?_
  walk_at "rd"
  refine ⟨cmul_l (by decide) (by decide), cpow_of (by decide) (by decide) (by omega) (by omega), by decide, cmul_r (by decide) (by decide), ?_⟩
  refine r_ixL (SqL.of upd_same) (at3 rfl) ?_
  walk_at "rd"
  refine ⟨cmul_l (by decide) (by decide), cpow_of (by decide) (by decide) ?_ ?_, by decide, ⟨by decide, by decide⟩, by omega, ?_⟩))
theorem ok_l_take (T : Tx K mg) : FnG P w K mg base 1 T.d_l_take.f T.d_l_take.fd ["box", "many"] spTake := by
  refine okG0 T.d_l_take.F sc_l_take (fun vs H Q E h => ?_) (fun cdv A outer s H vs Q E hg hr h => ?_)
  · obtain ⟨p, m, N, rfl, _⟩ := h
    rfl
  obtain ⟨p, m, N, rfl, ⟨n, b, mm, c, hp, h1, h2, h3, h4⟩, hN, hm0, hm1, q⟩ := h
  refine ⟨_, (pss_cons (ps_if (PW.pt (pw_and (pt_val (pe_ix ix_list (pv 0) pe_int (fun _ _ => rfl))) (pw_and1 (pt_cmpR op_gt (pe_ix ix_list (pv 0) pe_int (fun _ _ => rfl)) pe_int (nomark _)))))
      (pss_cons (ps_set (i := 2) sc_l_take.nd rfl (Or.inl rfl) (pe_op op_modN (pe_callTy call_intI (by rfl) T.n_int (by decide +kernel) (pa_cons (pe_ix ix_list (pv 0) pe_int (fun _ _ => rfl)) pa_nil)) (pv 1)))
      (pss_cons (ps_asg (pe_op op_fdivN (pe_ix ix_list (pv 0) pe_int (fun _ _ => rfl)) (pv 1)) (pg_sub (pv 0) pe_int set_list))
      (pss_one (ps_ret (pv 2)))))
      pss_nil)
    (pss_cons (ps_asg (pe_op op_add (pe_ix ix_list (pv 0) pe_int (fun _ _ => rfl)) pe_int) (pg_sub (pv 0) pe_int set_list))
    (pss_cons (ps_set (i := 3) sc_l_take.nd rfl (Or.inl rfl) (pe_op op_modN (pe_callTy call_intI (by rfl) T.n_int (by decide +kernel) (pa_cons (pe_op op_pow (pe_op op_add (pe_op op_add (pe_ix ix_list (pv 0) pe_int (fun _ _ => rfl)) (pe_op op_mul pe_int (pe_ix ix_list (pv 0) pe_int (fun _ _ => rfl)))) pe_int) pe_int) pa_nil)) pe_int))
    (pss_one (ps_ret (pe_op op_modN (pe_op op_fdivN (pe_op op_modN (pe_callTy call_intI (by rfl) T.n_int (by decide +kernel) (pa_cons (pe_op op_pow (pe_op op_add (pe_op op_mul (pv 3) pe_int) (pe_op op_mul pe_int (pe_ix ix_list (pv 0) pe_int (fun _ _ => rfl)))) pe_int) pa_nil)) pe_int) pe_int) (pv 1))))))), ?_⟩
  walk_at "rd"
  refine r_ixL (SqL.of hp) (at1 rfl) ?_
  walk_at "rd"
  have f1 : ∀ a : Int, 0 ≤ a.fmod 2147483647 ∧ a.fmod 2147483647 < 2147483647 := fun a => fmod_in a (by decide)
  have fin : ∀ x : Int, Q (.int (x.fmod m)) (upd H p (.lst [.int n, .bl b, .int mm, .int (c + 1)])) := fun x =>
    q _ _ (fmod_in x hm0).1 (fmod_in x hm0).2 ⟨_, _, _, _, upd_same, h1, h2, by omega, by omega⟩ Ext1.upd
  by_cases hb : b = true
  · rw [if_pos hb]
    refine r_ixL (SqL.of hp) (at0 rfl) ?_
    walk_at "rd"
    by_cases hn : 0 < n
    · rw [if_pos hn]
      refine r_ixL (SqL.of hp) (at0 rfl) ?_
      walk_at "rd"
      refine ⟨by omega, ?_⟩
      refine r_ixL (SqL.of hp) (at0 rfl) ?_
      walk_at "rd"
      refine ⟨⟨by omega, by omega⟩, ?_⟩
      refine r_setL hp (setIx (j := 0) (by show 0 < 4; decide)) ?_
      exact q _ _ (fmod_in n hm0).1 (fmod_in n hm0).2 ⟨_, _, _, _, upd_same, h1, h2, h3, by omega⟩ Ext1.upd
    · rw [if_neg hn]
      walk_at "mix"
      · have := f1 ((mm + 15485927 * (c + 1) + 179424719) ^ (5 : Int).toNat)
        omega
      · have := f1 ((mm + 15485927 * (c + 1) + 179424719) ^ (5 : Int).toNat)
        omega
      · exact fin _
  · rw [if_neg hb]
    walk_at "mix"
    · have := f1 ((mm + 15485927 * (c + 1) + 179424719) ^ (5 : Int).toNat)
      omega
    · have := f1 ((mm + 15485927 * (c + 1) + 179424719) ^ (5 : Int).toNat)
      omega
    · exact fin _
end
end K06


namespace K06
open PySem L2 Nv

theorem join_sgs (l : List Nat) : Txt.join (Str.ofString "") (l.map fun c => (⟨#[c]⟩ : Str)) = tx l := join_signs l
theorem ones_sum (l : List Nat) : ((l.map fun c => (⟨#[c]⟩ : Str)).map fun x => x.length).sum = l.length := by
  induction l with
  | nil => rfl
  | cons a r ih => simp only [List.map_cons, List.sum_cons, ih, List.length_cons]; show 1 + _ = _; omega
def alpha : Str := " !\"#$&'()*+,-./0123456789:;<=>?@ABCDEFGHIJKLMNOPQRSTUVWXYZ[\\]^_`abcdefghijklmnopqrstuvwxyz{|}~"
theorem alpha_pl : Pl alpha := pl_of (by decide +kernel)
theorem alpha_len : alpha.length = 94 := by decide +kernel
theorem alpha_at {d : Int} (h0 : 0 ≤ d) (h1 : d < 94) : ∃ c, pc c = true ∧ atI alpha.cps.toList d = some c := by
  obtain ⟨j, rfl⟩ : ∃ j : Nat, d = (j : Int) := ⟨d.toNat, by omega⟩
  have hj : j < alpha.cps.toList.length := by
    have : alpha.cps.toList.length = 94 := by decide +kernel
    omega
  exact ⟨alpha.cps.toList[j], alpha_pl _ (List.getElem_mem hj), atI_nat (by simp [hj])⟩
def abc : Str := "abcdefghijklmnopqrstuvwxyz"
theorem abc_low : ∀ c ∈ abc.cps.toList, low c = true := by decide +kernel
theorem abc_at {d : Int} (h0 : 0 ≤ d) (h1 : d < 26) : ∃ c, low c = true ∧ atI abc.cps.toList d = some c := by
  obtain ⟨j, rfl⟩ : ∃ j : Nat, d = (j : Int) := ⟨d.toNat, by omega⟩
  have hj : j < abc.cps.toList.length := by
    have : abc.cps.toList.length = 26 := by decide +kernel
    omega
  exact ⟨abc.cps.toList[j], abc_low _ (List.getElem_mem hj), atI_nat (by simp [hj])⟩
theorem box_some {H : Hp} {p : Addr} {N : Nat} (h : BoxAt H p N) : ∃ o, H p = some o := by
  obtain ⟨_, _, _, _, h, _⟩ := h
  exact ⟨_, h⟩
theorem box_ne {H : Hp} {p q : Addr} {N : Nat} (h : BoxAt H p N) (hq : H q = none) : q ≠ p := fun z => by
  obtain ⟨o, ho⟩ := box_some h
  rw [z, ho] at hq
  cases hq
theorem box_new {H : Hp} {p a : Addr} {N : Nat} {o : HO} (h : BoxAt H p N) (ha : H a = none) : BoxAt (upd H a o) p N := h.mono (Same.new ha)
theorem box_upd {H : Hp} {p l : Addr} {N : Nat} {o : HO} (h : BoxAt H p N) (n : l ≠ p) : BoxAt (upd H l o) p N := by
  obtain ⟨i, b, m, c, hx, r⟩ := h
  exact ⟨i, b, m, c, by rw [upd_ne (Ne.symm n)]; exact hx, r⟩
theorem ext_none {p a : Addr} {H H' : Hp} (hp : ∃ o, H p = some o) (e : Ext1 p H H') (h : H' a = none) (np : a ≠ p) : H a = none := by
  cases q : H a with
  | none => rfl
  | some o =>
    rw [e a o np q] at h
    cases h
theorem ext_upd {H H' : Hp} {p l : Addr} {o : HO} (e : Ext1 p H H') (n : H l = none) : Ext1 p H (upd H' l o) := fun b u nb hb => by
  rw [upd_ne (ne_of_none hb n)]
  exact e b u nb hb
theorem atI_mem {α : Type} {xs : List α} {i : Int} (h0 : 0 ≤ i) (h1 : i < (xs.length : Int)) : ∃ v, atI xs i = some v ∧ v ∈ xs := by
  obtain ⟨j, rfl⟩ : ∃ j : Nat, i = (j : Int) := ⟨i.toNat, by omega⟩
  have hj : j < xs.length := by omega
  exact ⟨xs[j], atI_nat (by simp [hj]), List.getElem_mem hj⟩
def spLet : Sp := fun vs H Q _ => ∃ p N, vs = [.ref p] ∧ BoxAt H p N ∧ N ≤ 800000 ∧ ∀ l H', 1 ≤ l.length → l.length ≤ 8 → (∀ c ∈ l, low c = true) → BoxAt H' p (N + 9) → Ext1 p H H' → Q (.str (tx l)) H'
section
variable {P : Program} {w : World} {K : PySem.W.Frag} {mg : Str → Option Value} {base : Heap}
theorem ok_l_letters (T : Tx K mg) : FnG P w K mg base 2 T.d_l_letters.f T.d_l_letters.fd ["box"] spLet := by
  refine okG0 T.d_l_letters.F sc_l_letters (fun vs H Q E h => ?_) (fun cdv A outer s H vs Q E hg hr h => ?_)
  · obtain ⟨p, N, rfl, _⟩ := h
    rfl
  obtain ⟨p, N, rfl, hp, hN, k⟩ := h
  refine ⟨_, (pss_one (ps_ret (pe_join pe_str (pe_lc (own := [("turn", 1)]) (g := gName 1) (tt := tYes) rfl sc_l_letters.nd (pi_range1 (by rfl) T.n_range (pa_cons (pe_op op_add pe_int (pe_ix ix_list (pe_lst1 (pa_cons pe_int (pa_cons pe_int (pa_cons pe_int (pa_cons pe_int pa_nil))))) (pe_cG (ok_l_take T) T.d_l_take.b takes0 hg (hr.mono (by decide)) T.d_l_take.m T.d_l_take.F.kp (pa_cons (pv 0) (pa_cons pe_int pa_nil))) (fun _ _ => rfl))) pa_nil)) (blkOk_by (N := ["box", "turn"]) (sc := defScope s_l_letters) (by decide +kernel)) (fun _ _ _ _ _ => pg_name (i := 1) sc_l_letters.nd rfl (Or.inl rfl)) (fun _ _ _ _ _ => pts_nil) (fun _ _ _ _ _ => (pe_ix ix_str pe_str (pe_cG (ok_l_take T) T.d_l_take.b takes0 hg (hr.mono (by decide)) T.d_l_take.m T.d_l_take.F.kp (pa_cons (pv 0) (pa_cons pe_int pa_nil))) (fun _ _ => rfl))))))), ?_⟩
  walk_at "rd"
  have sz : sizeLine = 16777216 := sizeLine_eq
  have el : (Str.ofString "").length = 0 := by decide +kernel
  obtain ⟨A0, hA0⟩ : ∃ A0, Str.ofString "abcdefghijklmnopqrstuvwxyz" = A0 := ⟨_, rfl⟩
  have al : A0.length = 26 := by
    rw [← hA0]
    decide +kernel
  have am : ∀ {d : Int}, 0 ≤ d → d < 26 → ∃ c, low c = true ∧ atI A0.cps.toList d = some c := by
    intro d h0 h1
    rw [← hA0]
    exact abc_at h0 h1
  rw [hA0]
  refine ⟨⟨_, rfl⟩, ?_⟩
  refine ⟨by decide, fun q hq nq => ?_⟩
  obtain ⟨H1, e1, S1, f1⟩ := gen_new (.lst [V.int 0, V.int 7, V.int 2, V.int 3]) hq
  rw [e1]
  refine ⟨_, rfl, p, 4, N, rfl, hp.mono S1, by omega, by decide, by decide, fun d0 H2 x0 x1 hp2 ex2 => ?_⟩
  have nqp : q ≠ p := box_ne hp hq
  obtain ⟨v, hv, hm⟩ := atI_mem (xs := [V.int 0, V.int 7, V.int 2, V.int 3]) x0 x1
  refine r_ixL (.of (ex2 _ _ nqp f1)) hv ?_
  obtain ⟨mn, rfl, m0, m7⟩ : ∃ mn : Nat, v = .int (mn : Int) ∧ 0 ≤ mn ∧ mn ≤ 7 := by
    simp only [List.mem_cons, List.not_mem_nil, or_false] at hm
    rcases hm with rfl | rfl | rfl | rfl
    · exact ⟨0, rfl, by decide, by decide⟩
    · exact ⟨7, rfl, by decide, by decide⟩
    · exact ⟨2, rfl, by decide, by decide⟩
    · exact ⟨3, rfl, by decide, by decide⟩
  refine ⟨_, _, rfl, rfl, _, rfl, by omega, by omega, fun D hD => ?_⟩
  have nD : D ≠ p := box_ne hp2 hD
  have HD : H D = none := by
    have := ext_none (box_some (hp.mono S1)) ex2 hD nD
    cases e : H D with
    | none => rfl
    | some o =>
      rw [S1 _ _ e] at this
      cases this
  have E2 : Ext1 p H H2 := (Nv.Same.ext1 S1).trans ex2
  have mto : ((1 : Int) + (mn : Int)).toNat = mn + 1 := by omega
  rw [mto]
  refine lc_range (lo := 0) (n := mn + 1) (fun i H' => ∃ l : List Nat, l.length = i ∧ (∀ c ∈ l, low c = true) ∧ H' D = some (.lst (l.map fun c => V.str ⟨#[c]⟩)) ∧ BoxAt H' p (N + 1 + i) ∧ Ext1 p H H')
    ⟨[], rfl, (by simp), upd_same, box_upd hp2 nD, ext_upd E2 HD⟩ ?_ ?_
  · rintro i H' hi ⟨l, hl, hb, hD', hB, hE⟩
    refine ⟨rfl, ?_⟩
    walk_at "rd"
    refine ⟨p, 26, _, rfl, hB, by omega, by decide, by decide, fun d H5 d0 d1 hB5 e5 => ?_⟩
    obtain ⟨c2, hc2, hat2⟩ := am d0 d1
    refine ⟨_, _, c2, rfl, rfl, by omega, hat2, l.map fun c => V.str ⟨#[c]⟩, e5 _ _ nD hD', ?_, l ++ [c2], by simp [hl], ?_, ?_, ?_, ?_⟩
    · rw [List.length_map, hl, sz]
      omega
    · intro c hc
      rcases List.mem_append.mp hc with h | h
      · exact hb c h
      · have : c = c2 := by simpa using h
        rw [this]
        exact hc2
    · simp
    · exact box_upd (hB5.le (by omega)) nD
    · exact ext_upd (hE.trans e5) HD
  · rintro H' ⟨l, hl, hb, hD', hB, hE⟩
    refine ⟨D, rfl, l.map fun c => ⟨#[c]⟩, .inl (.inl (.inl ?_)), ?_, ?_⟩
    · rw [hD']
      simp [List.map_map, Function.comp_def]
    · rw [el, ones_sum]
      omega
    · rw [join_sgs]
      exact k l H' (by omega) (by omega) hb (hB.le (by omega)) hE
/-- words of a drawn line -/
def spWd : Sp := fun vs H Q _ => ∃ p N, vs = [.ref p] ∧ BoxAt H p N ∧ N ≤ 800000 ∧ ∀ l H', l.length ≤ 40 → (∀ c ∈ l, pc c = true) → BoxAt H' p (N + 12) → Ext1 p H H' → Q (.str (tx l)) H'
theorem ok_l_words (T : Tx K mg) : FnG P w K mg base 2 T.d_l_words.f T.d_l_words.fd ["box"] spWd := by
  refine okG0 T.d_l_words.F sc_l_words (fun vs H Q E h => ?_) (fun cdv A outer s H vs Q E hg hr h => ?_)
  · obtain ⟨p, N, rfl, _⟩ := h
    rfl
  obtain ⟨p, N, rfl, hp, hN, k⟩ := h
  have sz : sizeLine = 16777216 := sizeLine_eq
  refine ⟨_, (pss_cons (ps_set (i := 1) sc_l_words.nd rfl (Or.inr rfl) pe_str)
    (pss_cons (ps_par3 (i := 2) (j := 3) (l := 4) rfl sc_l_words.nd rfl rfl rfl (by decide) (by decide) (by decide) rfl rfl rfl (pa_cons (pe_cG (ok_l_take T) T.d_l_take.b takes0 hg (hr.mono (by decide)) T.d_l_take.m T.d_l_take.F.kp (pa_cons (pv 0) (pa_cons pe_int pa_nil))) (pa_cons (pe_cG (ok_l_take T) T.d_l_take.b takes0 hg (hr.mono (by decide)) T.d_l_take.m T.d_l_take.F.kp (pa_cons (pv 0) (pa_cons pe_int pa_nil))) (pa_cons (pe_cG (ok_l_take T) T.d_l_take.b takes0 hg (hr.mono (by decide)) T.d_l_take.m T.d_l_take.F.kp (pa_cons (pv 0) (pa_cons pe_int pa_nil))) pa_nil))) (by rfl))
    (pss_cons (ps_if (pt_cmpR op_eq (pv 2) pe_int (nomark _))
      (pss_one (ps_ret pe_str))
      pss_nil)
    (pss_cons (ps_if (pt_cmpR op_eq (pv 2) pe_int (nomark _))
      (pss_one (ps_ret (pe_op op_add_str (pe_op op_add_str pe_str (pe_ix ix_str (pv 1) (pv 3) (fun _ _ => rfl))) (pe_op op_mul_str pe_str (pv 4)))))
      pss_nil)
    (pss_cons (ps_if (pt_cmpR op_eq (pv 2) pe_int (nomark _))
      (pss_one (ps_ret (pe_op op_add_str (pe_op op_add_str pe_str (pe_ix ix_str (pv 1) (pv 3) (fun _ _ => rfl))) pe_str)))
      pss_nil)
    (pss_cons (ps_if (pt_cmpR op_eq (pv 2) pe_int (nomark _))
      (pss_one (ps_ret (pe_slice sl_str (pe_op op_add_str (pv 1) (pv 1)) (po_some (pv 3)) (po_some (pe_op op_add (pv 3) pe_int)))))
      pss_nil)
    (pss_one (ps_ret (pe_join pe_str (pe_lc (own := [("turn", 5)]) (g := gName 5) (tt := tYes) rfl sc_l_words.nd (pi_range1 (by rfl) T.n_range (pa_cons (pv 4) pa_nil)) (blkOk_by (N := ["box", "alphabet", "kind", "at", "many", "turn"]) (sc := defScope s_l_words) (by decide +kernel)) (fun _ _ _ _ _ => pg_name (i := 5) sc_l_words.nd rfl (Or.inl rfl)) (fun _ _ _ _ _ => pts_nil) (fun _ _ _ _ _ => (pe_ix ix_str (pv 1) (pe_cG (ok_l_take T) T.d_l_take.b takes0 hg (hr.mono (by decide)) T.d_l_take.m T.d_l_take.F.kp (pa_cons (pv 0) (pa_cons pe_int pa_nil))) (fun _ _ => rfl))))))))))))), ?_⟩
  walk_at "rd"
  obtain ⟨A0, hA0⟩ : ∃ A0, Str.ofString " !\"#$&'()*+,-./0123456789:;<=>?@ABCDEFGHIJKLMNOPQRSTUVWXYZ[\\]^_`abcdefghijklmnopqrstuvwxyz{|}~" = A0 := ⟨_, rfl⟩
  have al : A0.length = 94 := by
    rw [← hA0]
    exact alpha_len
  have ap : Pl A0 := by
    rw [← hA0]
    exact alpha_pl
  have am : ∀ {d : Int}, 0 ≤ d → d < 94 → ∃ c, pc c = true ∧ atI A0.cps.toList d = some c := by
    intro d h0 h1
    rw [← hA0]
    exact alpha_at h0 h1
  rw [hA0]
  have kS : ∀ (z : Str) (G : Hp), z.length ≤ 40 → Pl z → BoxAt G p (N + 12) → Ext1 p H G → Q (.str z) G := fun z G h1 h2 h3 h4 => by
    have := k (sg z) G (by rw [sg_len]; exact h1) h2 h3 h4
    rw [tx_sg] at this
    exact this
  refine ⟨p, 6, N, rfl, hp, by omega, by decide, by decide, fun kind H1 k0 k1 hp1 e1 => ?_⟩
  refine ⟨p, 94, _, rfl, hp1, by omega, by decide, by decide, fun at_ H2 a0 a1 hp2 e2 => ?_⟩
  refine ⟨p, 8, _, rfl, hp2, by omega, by decide, by decide, fun many H3 m0 m1 hp3 e3 => ?_⟩
  walk_at "rd"
  have E3 := (e1.trans e2).trans e3
  have hp12 : BoxAt H3 p (N + 12) := hp3.le (by omega)
  obtain ⟨ca, hca, hata⟩ := am a0 a1
  have ixs : ∀ R : VK, R (.str ⟨#[ca]⟩) H3 → rIxS (V.str A0) (V.int at_) H3 R := fun R q => ⟨A0, at_, ca, rfl, rfl, by omega, hata, q⟩
  have l1 : (⟨#[ca]⟩ : Str).length = 1 := rfl
  refine ⟨rfl, ?_⟩
  by_cases h0 : kind = 0
  · rw [if_pos h0]
    exact kS _ H3 (by decide +kernel) (pl_of (by decide +kernel)) hp12 E3
  rw [if_neg h0]
  refine ⟨rfl, ?_⟩
  by_cases h1 : kind = 1
  · rw [if_pos h1]
    have ls := sp_len
    have ml := mul_len (Str.ofString " ") many
    rw [ls] at ml
    refine ixs _ ⟨_, rfl, by omega, mulOk_of (by omega) (by omega) (by omega), by rw [append_len]; omega, ?_⟩
    refine kS _ H3 (by rw [append_len, append_len]; omega) ((pl_sp.app (Pl.one hca)).app (pl_sp.mul many)) hp12 E3
  rw [if_neg h1]
  refine ⟨rfl, ?_⟩
  by_cases h2 : kind = 2
  · rw [if_pos h2]
    have z1 : (Str.ofString "0003").length = 4 := by decide +kernel
    have z2 : (Str.ofString ".0000.").length = 6 := by decide +kernel
    refine ixs _ ⟨_, rfl, by omega, by rw [append_len]; omega, ?_⟩
    exact kS _ H3 (by rw [append_len, append_len]; omega) (((pl_of (by decide +kernel)).app (Pl.one hca)).app (pl_of (by decide +kernel))) hp12 E3
  rw [if_neg h2]
  refine ⟨rfl, ?_⟩
  by_cases h3 : kind = 3
  · rw [if_pos h3]
    refine ⟨by omega, by rw [append_len]; omega, ?_⟩
    obtain ⟨j, rfl⟩ : ∃ j : Nat, at_ = (j : Int) := ⟨at_.toNat, by omega⟩
    refine kS _ H3 ?_ ((ap.app ap).cut _ _) hp12 E3
    have := cut_nat (A0 ++ A0) j (j + 40)
    have e : ((j + 40 : Nat) : Int) = (j : Int) + 40 := by omega
    rw [e] at this
    rw [← sg_len, this, List.length_take]
    omega
  rw [if_neg h3]
  have el : (Str.ofString "").length = 0 := by decide +kernel
  refine ⟨⟨_, rfl⟩, ?_⟩
  obtain ⟨mn, rfl⟩ : ∃ j : Nat, many = (j : Int) := ⟨many.toNat, by omega⟩
  refine ⟨_, rfl, _, rfl, by omega, by omega, fun D hD => ?_⟩
  have nD : D ≠ p := box_ne hp3 hD
  have HD : H D = none := ext_none (box_some hp) E3 hD nD
  refine lc_range (lo := 0) (n := (mn : Int).toNat) (fun i H' => ∃ l : List Nat, l.length = i ∧ (∀ c ∈ l, pc c = true) ∧ H' D = some (.lst (l.map fun c => V.str ⟨#[c]⟩)) ∧ BoxAt H' p (N + 3 + i) ∧ Ext1 p H H')
    ⟨[], rfl, (by simp), upd_same, box_upd (hp3.le (by omega)) nD, ext_upd E3 HD⟩ ?_ ?_
  · rintro i H' hi ⟨l, hl, hb, hD', hB, hE⟩
    refine ⟨rfl, ?_⟩
    walk_at "rd"
    refine ⟨p, 94, _, rfl, hB, by omega, by decide, by decide, fun d H5 d0 d1 hB5 e5 => ?_⟩
    obtain ⟨c2, hc2, hat2⟩ := am d0 d1
    refine ⟨_, _, c2, rfl, rfl, by omega, hat2, l.map fun c => V.str ⟨#[c]⟩, e5 _ _ nD hD', ?_, l ++ [c2], by simp [hl], ?_, ?_, ?_, ?_⟩
    · rw [List.length_map, hl, sz]
      omega
    · intro c hc
      rcases List.mem_append.mp hc with h | h
      · exact hb c h
      · have : c = c2 := by simpa using h
        rw [this]
        exact hc2
    · simp
    · exact box_upd (hB5.le (by omega)) nD
    · exact ext_upd (hE.trans e5) HD
  · rintro H' ⟨l, hl, hb, hD', hB, hE⟩
    refine ⟨_, rfl, l.map fun c => ⟨#[c]⟩, .inl (.inl (.inl ?_)), ?_, ?_⟩
    · rw [hD']
      simp [List.map_map, Function.comp_def]
    · rw [el, ones_sum]
      omega
    · rw [join_sgs]
      exact k l H' (by omega) hb (hB.le (by omega)) hE
/-- a drawn line: its text is short -/
structure LDr (x : L4) : Prop where
  ok : LOk x
  tl : (tl x).length ≤ 82
  hn : x.1 ≤ 10 ^ 12 + 1 ∧ x.2.1 ≤ 10 ^ 12 + 1
/-- the same of small numbers -/
def LSm (x : L4) : Prop := x.1 ≤ 307 ∧ x.2.1 ≤ 307
def spLine : Sp := fun vs H Q _ => ∃ p most N, vs = [.ref p, .int most] ∧ BoxAt H p N ∧ N ≤ 700000 ∧ ∀ x a H', LDr x → (most ≤ 999 → LSm x) → H a = none → DV H' (.ref a) (dl x) → BoxAt H' p (N + 30) → Ext1 p H H' → Q (.ref a) H'
theorem num12 {i : Int} (h0 : 0 ≤ i) (h1 : i ≤ 10 ^ 12 + 1) : (Str.ofString (toString i)).length ≤ 14 := by
  have h := int_text_length_le10 (a := i) (k := 13) (by decide) (by omega)
  have e : (Str.ofString (toString i)).length = (toString i).length := ofString_length _
  omega
theorem ok_l_line (T : Tx K mg) : FnG P w K mg base 3 T.d_l_line.f T.d_l_line.fd ["box", "most"] spLine := by
  refine okG0 T.d_l_line.F sc_l_line (fun vs H Q E h => ?_) (fun cdv A outer s H vs Q E hg hr h => ?_)
  · obtain ⟨p, most, N, rfl, _⟩ := h
    rfl
  obtain ⟨p, most, N, rfl, hp, hN, k⟩ := h
  have sz : sizeLine = 16777216 := sizeLine_eq
  refine ⟨_, (pss_cons (ps_set (i := 2) sc_l_line.nd rfl (Or.inl rfl) (pe_lst1 (pa_cons pe_int (pa_cons pe_int (pa_cons pe_int (pa_cons pe_int (pa_cons pe_int (pa_cons pe_int (pa_cons pe_int (pa_cons (pe_ifExp (pt_cmpR op_gt (pv 1) pe_int (nomark _)) (pe_op op_add (pe_op op_pow pe_int pe_int) pe_int) pe_int) pa_nil))))))))))
    (pss_cons (ps_par3 (i := 3) (j := 4) (l := 5) rfl sc_l_line.nd rfl rfl rfl (by decide) (by decide) (by decide) rfl rfl rfl (pa_cons (pe_ix ix_list (pv 2) (pe_cG (ok_l_take T) T.d_l_take.b takes0 hg (hr.mono (by decide)) T.d_l_take.m T.d_l_take.F.kp (pa_cons (pv 0) (pa_cons pe_int pa_nil))) (fun _ _ => rfl)) (pa_cons (pe_ix ix_list (pv 2) (pe_cG (ok_l_take T) T.d_l_take.b takes0 hg (hr.mono (by decide)) T.d_l_take.m T.d_l_take.F.kp (pa_cons (pv 0) (pa_cons pe_int pa_nil))) (fun _ _ => rfl)) (pa_cons (pe_cG (ok_l_letters T) T.d_l_letters.b takes0 hg (hr.mono (by decide)) T.d_l_letters.m T.d_l_letters.F.kp (pa_cons (pv 0) pa_nil)) pa_nil))) (by rfl))
    (pss_one (ps_ret (pe_tup (pa_cons (pv 3) (pa_cons (pv 4) (pa_cons (pv 5) (pa_cons (pe_cG (ok_l_words T) T.d_l_words.b takes0 hg (hr.mono (by decide)) T.d_l_words.m T.d_l_words.F.kp (pa_cons (pv 0) pa_nil)) pa_nil))))))))), ?_⟩
  walk_at "rd"
  have go : ∀ (last : Int) (q : Addr), 0 ≤ last → last ≤ 10 ^ 12 + 1 → (most ≤ 999 → last ≤ 307) → H q = none → spTake [V.ref p, V.int 8] (upd H q (HO.lst [V.int 0, V.int 1, V.int 2, V.int 10, V.int 15, V.int 9, V.int 307, V.int last]))
      (fun y H2 => rIxL K (V.ref q) y H2 fun x H1 => spTake [V.ref p, V.int 8] H1 (fun y H2 => rIxL K (V.ref q) y H2 fun x_1 H1 => spLet [V.ref p] H1 (fun x_2 H1 => spWd [V.ref p] H1 (fun x_3 H1 =>
        0 + 1 + 1 + 1 + 1 ≤ sizeLine ∧ ∀ (p : Addr), H1 p = none → Q (V.ref p) (upd H1 p (HO.tup [x, x_1, x_2, x_3]))) (fun _ _ _ => False)) (fun _ _ _ => False)) (fun _ _ _ => False)) (fun _ _ _ => False) := by
    intro last q l0 l1 l2 hq
    obtain ⟨H1, e1, S1, f1⟩ := gen_new (.lst [V.int 0, V.int 1, V.int 2, V.int 10, V.int 15, V.int 9, V.int 307, V.int last]) hq
    rw [e1]
    have nqp : q ≠ p := box_ne hp hq
    have pick : ∀ {i : Int}, 0 ≤ i → i < 8 → ∃ n : Int, atI [V.int 0, V.int 1, V.int 2, V.int 10, V.int 15, V.int 9, V.int 307, V.int last] i = some (.int n) ∧ 0 ≤ n ∧ n ≤ 10 ^ 12 + 1 ∧ (most ≤ 999 → n ≤ 307) := by
      intro i i0 i1
      obtain ⟨v, hv, hm⟩ := atI_mem (xs := [V.int 0, V.int 1, V.int 2, V.int 10, V.int 15, V.int 9, V.int 307, V.int last]) i0 i1
      simp only [List.mem_cons, List.not_mem_nil, or_false] at hm
      rcases hm with rfl | rfl | rfl | rfl | rfl | rfl | rfl | rfl
      · exact ⟨_, hv, by decide, by decide, fun _ => by decide⟩
      · exact ⟨_, hv, by decide, by decide, fun _ => by decide⟩
      · exact ⟨_, hv, by decide, by decide, fun _ => by decide⟩
      · exact ⟨_, hv, by decide, by decide, fun _ => by decide⟩
      · exact ⟨_, hv, by decide, by decide, fun _ => by decide⟩
      · exact ⟨_, hv, by decide, by decide, fun _ => by decide⟩
      · exact ⟨_, hv, by decide, by decide, fun _ => by decide⟩
      · exact ⟨_, hv, l0, l1, l2⟩
    refine ⟨p, 8, N, rfl, hp.mono S1, by omega, by decide, by decide, fun i H2 i0 i1 hp2 x2 => ?_⟩
    obtain ⟨hn, hv, h0, h1, h2⟩ := pick i0 i1
    refine r_ixL (.of (x2 _ _ nqp f1)) hv ?_
    refine ⟨p, 8, _, rfl, hp2, by omega, by decide, by decide, fun j H3 j0 j1 hp3 x3 => ?_⟩
    obtain ⟨nn, hv2, n0, n1, n2⟩ := pick j0 j1
    refine r_ixL (.of (x3 _ _ nqp (x2 _ _ nqp f1))) hv2 ?_
    refine ⟨p, _, rfl, hp3, by omega, fun c H4 c1 c2 cl hp4 x4 => ?_⟩
    refine ⟨p, _, rfl, hp4, by omega, fun t H5 t1 tp hp5 x5 => ⟨by decide, fun a ha => ?_⟩⟩
    have E5 : Ext1 p H H5 := ((((Nv.Same.ext1 S1).trans x2).trans x3).trans x4).trans x5
    have nap : a ≠ p := box_ne hp5 ha
    have cc : celS (tx c) = true := by
      unfold celS
      rw [alow, tx_len, sg_tx]
      have : c.all low = true := List.all_eq_true.mpr cl
      rw [this]
      simp
      omega
    have lb : lineB (dl (hn, nn, tx c, tx t)) = true := by
      show (cntB (.int hn) && (cntB (.int nn) && (celS (tx c) && (okS (tx t) && decide ((tx t).length ≤ 40))))) = true
      rw [cc, (Pl.tx tp).ok, tx_len]
      simp [cntB, h0, n0, t1]
    have big : (10 : Int) ^ 12 + 1 < 10 ^ 120 := by decide +kernel
    have ok : LOk (hn, nn, tx c, tx t) := ⟨lb, Int.lt_of_le_of_lt h1 big, Int.lt_of_le_of_lt n1 big⟩
    have q1 := num12 h0 h1
    have q2 := num12 n0 n1
    have q3 := sp_len
    have tl' : (tl (hn, nn, tx c, tx t)).length ≤ 82 := by
      unfold tl lineT
      have e0 : Str.empty.length = 0 := rfl
      rw [append_len, append_len, append_len, append_len, append_len, append_len, append_len, tx_len, tx_len]
      simp only
      omega
    exact k (hn, nn, tx c, tx t) a _ ⟨ok, tl', h1, n1⟩ (fun hm => ⟨h2 hm, n2 hm⟩) (ext_none (box_some hp) E5 ha nap) (.tup upd_same (.cons (.int _) (.cons (.int _) (.cons (.str _) (.cons (.str _) .nil))))) ((box_new hp5 ha).le (by omega)) (ext_upd E5 (ext_none (box_some hp) E5 ha nap))
  by_cases hm : 999 < most
  · rw [if_pos hm]
    exact ⟨cpow_of (by decide) (by decide) (by decide) (by decide), by decide, fun q hq _ => go _ q (by decide) (by decide) (fun h => by omega) hq⟩
  · rw [if_neg hm]
    exact ⟨by decide, fun q hq _ => go _ q (by decide) (by decide) (fun h => by decide) hq⟩
end
end K06


namespace K06
open PySem L2 Nv

/-! lines as data -/
theorem dl_lay {x : L4} (h : LOk x) : (dl x).canLay0 = true := by
  have a := (Ft.str (D := 0) h.asc.1).c
  have b := (Ft.str (D := 0) h.asc.2).c
  unfold dl lineD
  simp only [PyData.canLay0, PyData.canLayAll0] at a b ⊢
  rw [a, b]
  rfl
theorem dls_lay : ∀ {ls : List L4}, (∀ x ∈ ls, LOk x) → PyData.canLayAll0 (ls.map dl) = true
  | [], _ => rfl
  | x :: r, h => by
    rw [List.map_cons]
    unfold PyData.canLayAll0
    rw [dl_lay (h x (by simp)), dls_lay fun y hy => h y (by simp [hy])]
    rfl
theorem dls_depth : ∀ ls : List L4, PyData.depthAll (ls.map dl) ≤ 1
  | [] => by simp [PyData.depthAll]
  | x :: r => by
    have := dls_depth r
    have e : PyData.depth (dl x) = 1 := by simp [dl, lineD, PyData.depth, PyData.depthAll]
    simp only [List.map_cons, PyData.depthAll, e]
    omega
theorem dls_shaped {ls : List L4} (h : ∀ x ∈ ls, LOk x) : SeqAt.shaped (.list (ls.map dl)) = true := by
  have c : PyData.canLay0 (.list (ls.map dl)) = true := by
    simp only [PyData.canLay0]
    exact dls_lay h
  have d : PyData.depth (.list (ls.map dl)) ≤ 2 := by
    have := dls_depth ls
    simp only [PyData.depth]
    omega
  unfold SeqAt.shaped
  rw [c, Bool.true_and, decide_eq_true_eq]
  omega
theorem eqv_nil' (ds : List PyData) : PyData.eqv (.list ds) (.list []) = ds.isEmpty := by
  cases ds <;> simp [PyData.eqv, PyData.eqvAll]
theorem r_ne_nilL {K : PySem.W.Frag} {H : Hp} {Q : VK} {e p : Addr} {ws : List V} {es : List L4} (he : H e = some (.lst ws)) (hd : DVs H ws (es.map dl)) (ok : ∀ x ∈ es, LOk x) (hp : H p = some (.lst [])) (q : Q (.bl (!es.isEmpty)) H) : rNeD K (.ref e) (.ref p) H Q := by
  have nd : PyData.hasDictAll (es.map dl) = false := by
    have := PyData.hasDict_of_canLay (.list (es.map dl)) (by simp only [PyData.canLay0]; exact dls_lay ok)
    simpa only [PyData.hasDict] using this
  refine ⟨_, _, .lst (.of he) (hd.dp nd), .lst (.of hp) .nil, dls_shaped ok, by decide, ?_⟩
  rw [eqv_nil']
  have : (es.map dl).isEmpty = es.isEmpty := by cases es <;> rfl
  rw [this]
  exact q
/-- a frame's rows of figures are short -/
def FrOk (x : L4) : Prop := Fig 120 (Fr.frm (sg (tl x)))
structure LF (x : L4) : Prop where
  ok : LOk x
  fr : FrOk x
theorem LDr.lf {x : L4} (h : LDr x) : LF x := ⟨h.ok, Fig.len (by
  have := h.tl
  rw [Fr.frm_len, sg_len]
  omega)⟩
theorem fig_file : ∀ {ls : List L4}, (∀ x ∈ ls, FrOk x) → Fig 120 (fileL ls)
  | [], _ => Fig.nil 120
  | x :: r, h => by
    have e : fileL (x :: r) = (Fr.pad (sg (tl x)).length ++ sg (tl x)) ++ 46 :: fileL r := by simp [fileL, Fr.row, Fr.frm]
    rw [e]
    refine Fig.part ?_ (fig_file fun y hy => h y (by simp [hy])) rfl
    refine (h x (by simp)).sub ⟨[], [46], ?_⟩
    simp [Fr.frm]
theorem file_fig : ∀ {ls : List L4}, Fig 120 (fileL ls) → ∀ x ∈ ls, FrOk x
  | y :: r, f, x, h => by
    have e : fileL (y :: r) = Fr.frm (sg (tl y)) ++ fileL r := by simp [fileL, Fr.row]
    rw [e] at f
    rcases List.mem_cons.mp h with rfl | h
    · exact f.sub ⟨[], fileL r, by simp⟩
    · exact file_fig (f.sub ⟨Fr.frm (sg (tl y)), [], by simp⟩) x h
theorem lnsF_lf {z : List Nat} (f : Fig 120 z) : ∀ x ∈ lnsF z, LF x := fun x hx => ⟨lnsF_ok f x hx, by
  obtain ⟨r, e⟩ := file_prefix z
  have f2 : Fig 120 (fileL (lnsF z)) := f.sub ⟨[], r, by rw [List.nil_append]; exact e.symm⟩
  exact file_fig f2 x hx⟩
def spLs : Sp := fun vs H Q _ => ∃ (p e : Addr) (N : Nat) (es : List L4) (ws : List V), vs = [.ref p, .ref e] ∧ BoxAt H p N ∧ N ≤ 600000 ∧ e ≠ p ∧ H e = some (.lst ws) ∧ DVs H ws (es.map dl) ∧ (∀ x ∈ es, LF x) ∧ es.length ≤ 100000 ∧
  ∀ (ms : List L4) (q : Addr) (us : List V) H', H q = none → H' q = some (.lst us) → DVs H' us (ms.map dl) → (∀ x ∈ ms, LF x) → ms.length ≤ 6 → BoxAt H' p (N + 160) → Ext1 p H H' → Q (.ref q) H'
theorem dls_box {H H' : Hp} {p : Addr} {N : Nat} (hb : BoxAt H p N) (e : Ext1 p H H') {vs : List V} {ls : List L4} (h : DVs H vs (ls.map dl)) : DVs H' vs (ls.map dl) :=
  dls_off (fun xs q => by
    obtain ⟨_, _, _, _, hx, _⟩ := hb
    rw [hx] at q
    cases q) e h
section
variable {P : Program} {w : World} {K : PySem.W.Frag} {mg : Str → Option Value} {base : Heap}
theorem ok_l_lines (T : Tx K mg) : FnG P w K mg base 4 T.d_l_lines.f T.d_l_lines.fd ["box", "elder"] spLs := by
  refine okG0 T.d_l_lines.F sc_l_lines (fun vs H Q E h => ?_) (fun cdv A outer s H vs Q E hg hr h => ?_)
  · obtain ⟨p, e, N, es, ws, rfl, _⟩ := h
    rfl
  obtain ⟨p, e, N, es, ws, rfl, hp, hN, nep, he, hes, oks, nes, k⟩ := h
  have sz : sizeLine = 16777216 := sizeLine_eq
  refine ⟨_, (pss_cons (ps_setLc (i := 2) (own := [("turn", 3)]) (g := gName 3) (tt := tYes) rfl sc_l_lines.nd rfl rfl (sw_true rfl rfl rfl (by decide +kernel)) (pi_range1 (by rfl) T.n_range (pa_cons (pe_cG (ok_l_take T) T.d_l_take.b takes0 hg (hr.mono (by decide)) T.d_l_take.m T.d_l_take.F.kp (pa_cons (pv 0) (pa_cons pe_int pa_nil))) pa_nil)) (blkOk_by (N := ["box", "elder", "found", "turn"]) (sc := defScope s_l_lines) (by decide +kernel)) (fun _ _ _ _ _ => pg_name (i := 3) sc_l_lines.nd rfl (Or.inl rfl)) (fun _ _ _ _ _ => pts_nil) (fun _ _ _ _ _ => (pe_cG (ok_l_line T) T.d_l_line.b takes0 hg (hr.mono (by decide)) T.d_l_line.m T.d_l_line.F.kp (pa_cons (pv 0) (pa_cons pe_int pa_nil)))))
    (pss_cons (ps_if (PW.pt (pw_and (pt_cmpR (op_neD hr.units) (pv 1) (pe_lst1 pa_nil) (nomark _)) (pw_and1 (pt_cmpR op_eq (pe_cG (ok_l_take T) T.d_l_take.b takes0 hg (hr.mono (by decide)) T.d_l_take.m T.d_l_take.F.kp (pa_cons (pv 0) (pa_cons pe_int pa_nil))) pe_int (nomark _)))))
      (pss_one (ps_expr (pe_bm PySem.F.plainAttrs_list PySem.F.slot_list_append PySem.F.type_list_append mt_append (pv 2) (pa_cons (pe_ix ix_list (pv 1) (pe_cG (ok_l_take T) T.d_l_take.b takes0 hg (hr.mono (by decide)) T.d_l_take.m T.d_l_take.F.kp (pa_cons (pv 0) (pa_cons (pe_callB call_len_seq (by rfl) T.n_len (by decide +kernel) (pa_cons (pv 1) pa_nil)) pa_nil))) (fun _ _ => rfl)) pa_nil))))
      pss_nil)
    (pss_one (ps_ret (pv 2))))), ?_⟩
  walk_at "rd"
  refine ⟨_, rfl, p, 5, N, rfl, hp, by omega, by decide, by decide, fun m H1 m0 m1 hp1 e1 => ?_⟩
  obtain ⟨mn, rfl⟩ : ∃ j : Nat, m = (j : Int) := ⟨m.toNat, by omega⟩
  refine ⟨_, rfl, by omega, by omega, fun D hD => ?_⟩
  have nD : D ≠ p := box_ne hp1 hD
  have HD : H D = none := ext_none (box_some hp) e1 hD nD
  refine lc_range (lo := 0) (n := (mn : Int).toNat) (fun i H' => ∃ (us : List V) (ms : List L4), ms.length = i ∧ (∀ x ∈ ms, LDr x) ∧ H' D = some (.lst us) ∧ DVs H' us (ms.map dl) ∧ BoxAt H' p (N + 1 + 30 * i) ∧ Ext1 p H H')
    ⟨[], [], rfl, (by simp), upd_same, .nil, box_upd hp1 nD, ext_upd e1 HD⟩ ?_ ?_
  · rintro i H2 hi ⟨us, ms, lm, okm, fD, du, hp2, x2⟩
    refine ⟨rfl, ?_⟩
    walk_at "rd"
    refine ⟨p, 1000, _, rfl, hp2, by omega, fun y a H3 oy _ na da hp3 x3 => ?_⟩
    have f3 := x3 _ _ nD fD
    have lu := du.len
    rw [List.length_map] at lu
    have naD : a ≠ D := fun q => by
      rw [q, fD] at na
      cases na
    have d3 : DVs H3 us (ms.map dl) := dls_box hp2 x3 du
    have kp : ∀ b o, b ≠ D → H3 b = some o → upd H3 D (.lst (us ++ [V.ref a])) b = some o := fun b o nb hb => by rw [upd_ne nb]; exact hb
    refine ⟨us, f3, by omega, _, ms ++ [y], by simp [lm], ?_, rfl, ?_, box_upd (hp3.le (by omega)) nD, ext_upd (x2.trans x3) HD⟩
    · intro x hx
      rcases List.mem_append.mp hx with hx | hx
      · exact okm x hx
      · have : x = y := by simpa using hx
        rw [this]
        exact oy
    · rw [List.map_append]
      have z : DVs H3 [V.ref a] ([y].map dl) := .cons da .nil
      exact dvs_app (dls_keep ⟨_, f3⟩ kp d3) (dls_keep ⟨_, f3⟩ kp z)
  · rintro H2 ⟨us, ms, lm, okm, fD, du, hp2, x2⟩
    have mN : ms.length ≤ 4 := by omega
    have e2 : Ext1 p H H2 := x2
    have he2 : H2 e = some (.lst ws) := e2 _ _ nep he
    have hes2 : DVs H2 ws (es.map dl) := dls_box hp e2 hes
    refine ⟨by decide, fun q hq nq => ?_⟩
    have kq : ∀ b o, H2 b = some o → upd H2 q (.lst []) b = some o := Same.new hq
    refine r_ne_nilL (kq _ _ he2) (hes2.mono kq) (fun x hx => (oks x hx).ok) upd_same ?_
    refine ⟨_, rfl, ?_⟩
    have hp3 : BoxAt (upd H2 q (.lst [])) p (N + 1 + 30 * (mn : Int).toNat) := hp2.mono kq
    have x3 : Ext1 p H (upd H2 q (.lst [])) := x2.trans (fun b o _ hb => kq b o hb)
    have fD3 := kq _ _ fD
    have du3 := du.mono kq
    cases es with
    | nil =>
      rw [if_neg (by simp)]
      exact k ms D us _ HD fD3 du3 (fun x hx => (okm x hx).lf) (by omega) (hp3.le (by omega)) x3
    | cons y r =>
      rw [if_pos (by rfl)]
      refine ⟨p, 3, _, rfl, hp3, by omega, by decide, by decide, fun m2 H4 m20 m21 hp4 x4 => ⟨rfl, ?_⟩⟩
      have fD4 := x4 _ _ nD fD3
      have du4 : DVs H4 us (ms.map dl) := dls_box hp3 x4 du3
      have he4 := x4 _ _ nep (kq _ _ he2)
      have hes4 : DVs H4 ws ((y :: r).map dl) := dls_box hp3 x4 (hes2.mono kq)
      have lw := hes4.len
      rw [List.length_map] at lw
      split
      · refine ⟨.inl ⟨rfl, _, .of fD4⟩, ws, .inl (.of he4), p, _, _, rfl, hp4, by omega, by rw [lw, List.length_cons]; omega, by rw [lw]; omega, fun m3 H5 m30 m31 hp5 x5 => ?_⟩
        obtain ⟨j, rfl⟩ : ∃ j : Nat, m3 = (j : Int) := ⟨m3.toNat, by omega⟩
        have hj : j < ws.length := by omega
        have gj := List.getElem?_eq_getElem hj
        have he5 := x5 _ _ nep he4
        have fD5 := x5 _ _ nD fD4
        have hes5 := dls_box hp4 x5 hes4
        have du5 := dls_box hp4 x5 du4
        obtain ⟨dx, hdx, hvx⟩ := dvs_at hes5 gj
        rw [List.getElem?_map] at hdx
        obtain ⟨x, hx, rfl⟩ := Option.map_eq_some_iff.mp hdx
        have ox := oks x (List.mem_of_getElem? hx)
        refine r_ixL (.of he5) (atI_nat gj) ?_
        have lu := du5.len
        rw [List.length_map] at lu
        refine ⟨D, us, _, rfl, rfl, fD5, by omega, ?_⟩
        have kp : ∀ b o, b ≠ D → H5 b = some o → upd H5 D (.lst (us ++ [ws[j]])) b = some o := fun b o nb hb => by rw [upd_ne nb]; exact hb
        refine k (ms ++ [x]) D (us ++ [ws[j]]) _ HD upd_same ?_ ?_ (by simp; omega) ((box_upd hp5 nD).le (by omega)) (ext_upd ((x3.trans x4).trans x5) HD)
        · rw [List.map_append]
          have z : DVs H5 [ws[j]] ([x].map dl) := .cons hvx .nil
          exact dvs_app (dls_keep ⟨_, fD5⟩ kp du5) (dls_keep ⟨_, fD5⟩ kp z)
        · intro x' hx'
          rcases List.mem_append.mp hx' with hx' | hx'
          · exact (okm x' hx').lf
          · have : x' = x := by simpa using hx'
            rw [this]
            exact ox
      · exact k ms D us _ HD fD4 du4 (fun x hx => (okm x hx).lf) (by omega) (hp4.le (by omega)) (x3.trans x4)
end
end K06


namespace K06
open PySem L2 Nv

theorem tl_own (h n : Int) (c t : Str) : Str.ofString (toString h) ++ Str.ofString " " ++ Str.ofString (toString n) ++ Str.ofString " " ++ c ++ Str.ofString " " ++ t = lineT h n c t := by
  apply sg_inj
  rw [tl_sg]
  have e1 : sg (Str.ofString " ") = [32] := by decide +kernel
  simp only [sg_app, e1]
  simp
def spTx : Sp := fun vs H Q _ => ∃ v x, vs = [v] ∧ DV H v (dl x) ∧ LOk x ∧ Q (.str (tl x)) H
def spFile : Sp := fun vs H Q _ => ∃ (a : Addr) (xs : List V) (ls : List L4), vs = [.ref a] ∧ H a = some (.lst xs) ∧ DVs H xs (ls.map dl) ∧ (∀ x ∈ ls, LOk x) ∧ ls.length ≤ 20000 ∧
  ∀ H', Same H H' → Q (.str (tx (fileL ls))) H'
section
variable {P : Program} {w : World} {K : PySem.W.Frag} {mg : Str → Option Value} {base : Heap}
theorem ok_l_text (T : Tx K mg) : FnG P w K mg base 1 T.d_l_text.f T.d_l_text.fd ["line"] spTx := by
  refine okG0 T.d_l_text.F sc_l_text (fun vs H Q E h => ?_) (fun cdv A outer s H vs Q E hg hr h => ?_)
  · obtain ⟨v, x, rfl, _⟩ := h
    rfl
  obtain ⟨v, x, rfl, hd, ok, k⟩ := h
  refine ⟨_, (pss_cons (ps_asg (pv 0) (pg_tup rfl (pgs_cons (pg_name (i := 1) sc_l_text.nd rfl (Or.inl rfl)) (pgs_cons (pg_name (i := 2) sc_l_text.nd rfl (Or.inl rfl)) (pgs_cons (pg_name (i := 3) sc_l_text.nd rfl (Or.inl rfl)) (pgs_cons (pg_name (i := 4) sc_l_text.nd rfl (Or.inl rfl)) pgs_nil))))))
    (pss_one (ps_ret (pe_op op_add_str (pe_op op_add_str (pe_op op_add_str (pe_op op_add_str (pe_op op_add_str (pe_op op_add_str (pe_callTy call_str_int (by rfl) T.n_str (by decide +kernel) (pa_cons (pv 1) pa_nil)) pe_str) (pe_callTy call_str_int (by rfl) T.n_str (by decide +kernel) (pa_cons (pv 2) pa_nil))) pe_str) (pv 3)) pe_str) (pv 4))))), ?_⟩
  obtain ⟨h, n, c, t⟩ := x
  obtain ⟨a, rfl, ha⟩ := dv_line (h := h) (n := n) (c := c) (t := t) hd
  walk_at "rd"
  obtain ⟨h1, h2, h3, h4, h5⟩ := ok.cases
  obtain ⟨bh, bn⟩ := ok.bounds
  have lc := celS_low h3
  have l1 := sp_len
  have th := int_len bh
  have tn := int_len bn
  have sz : sizeLine = 16777216 := sizeLine_eq
  have kk : Q (.str (lineT h n c t)) H := k
  rw [← tl_own] at kk
  have g1 := log120 bh
  have g2 := log120 bn
  refine r_unp (SqT.of ha) rfl ?_
  walk_at "rd"
  dsimp only at th tn g1 g2 lc h5
  refine ⟨by omega, by omega, by omega, ?_, ?_, ?_, ?_, ?_, kk⟩ <;> (simp only [append_len]; omega)
def spFrame : Sp := fun vs H Q _ => ∃ z, vs = [.str z] ∧ z.length ≤ 9999 ∧ Q (.str (frT z)) H
theorem ok_l_frame (T : Tx K mg) : FnG P w K mg base 1 T.d_l_frame.f T.d_l_frame.fd ["text"] spFrame := by
  refine okG0 T.d_l_frame.F sc_l_frame (fun vs H Q E h => ?_) (fun cdv A outer s H vs Q E hg hr h => ?_)
  · obtain ⟨z, rfl, _⟩ := h
    rfl
  obtain ⟨z, rfl, hz, k⟩ := h
  refine ⟨_, (pss_cons (ps_set (i := 1) sc_l_frame.nd rfl (Or.inl rfl) (pe_callTy call_str_int (by rfl) T.n_str (by decide +kernel) (pa_cons (pe_callB call_len_str (by rfl) T.n_len (by decide +kernel) (pa_cons (pv 0) pa_nil)) pa_nil)))
    (pss_one (ps_ret (pe_op op_add_str (pe_op op_add_str (pe_op op_add_str (pe_op op_mul_str pe_str (pe_op op_sub pe_int (pe_callB call_len_str (by rfl) T.n_len (by decide +kernel) (pa_cons (pv 1) pa_nil)))) (pv 1)) (pv 0)) pe_str)))), ?_⟩
  walk_at "rd"
  have sz : sizeLine = 16777216 := sizeLine_eq
  have hn := str_nat z.length
  have hp := four_pad z.length (by omega)
  have h4 := PyProof.Rows.digits10_le (k := 4) (n := z.length) (by decide) (by omega)
  obtain ⟨y, hy⟩ : ∃ y, y = Str.ofString (toString (z.length : Int)) := ⟨_, rfl⟩
  rw [← hy] at hn ⊢
  have ly : y.length ≤ 4 := by
    rw [← sg_len, hn, List.length_map]
    exact h4
  have ly2 : y.length = (Nat.toDigits 10 z.length).length := by
    rw [← sg_len, hn, List.length_map]
  have e4 : (4 : Int) - (y.length : Int) = ((4 - y.length : Nat) : Int) := by omega
  rw [e4]
  have l0 : (Str.ofString "0").length = 1 := by decide +kernel
  have s0 : sg (Str.ofString "0") = [48] := by decide +kernel
  have ml := mul_len (Str.ofString "0") ((4 - y.length : Nat) : Int)
  rw [l0] at ml
  have fe : Txt.mul (Str.ofString "0") ((4 - y.length : Nat) : Int) ++ y ++ z ++ Str.ofString "." = frT z := sg_inj (by
    rw [sg_app, sg_app, sg_app, dot_sg, sg_mul, s0, hn, ly2]
    unfold frT
    rw [sg_tx]
    unfold Fr.frm
    rw [sg_len, ← hp]
    simp)
  refine ⟨by omega, small_log (by omega), by omega, mulOk_of (by omega) (by omega) (by omega), by omega, by rw [append_len]; omega, by rw [append_len, append_len, dot_len]; omega, ?_⟩
  rw [fe]
  exact k
theorem ok_l_file (T : Tx K mg) : FnG P w K mg base 2 T.d_l_file.f T.d_l_file.fd ["lines"] spFile := by
  refine okG0 T.d_l_file.F sc_l_file (fun vs H Q E h => ?_) (fun cdv A outer s H vs Q E hg hr h => ?_)
  · obtain ⟨a, xs, ls, rfl, _⟩ := h
    rfl
  obtain ⟨a, xs, ls, rfl, hx, dx, ok, n, k⟩ := h
  have sz : sizeLine = 16777216 := sizeLine_eq
  have el := dx.len
  rw [List.length_map] at el
  refine ⟨_, (pss_one (ps_ret (pe_join pe_str (pe_lc (own := [("line", 1)]) (g := gName 1) (tt := tYes) rfl sc_l_file.nd (pi_list (pv 0)) (blkOk_by (N := ["lines", "line"]) (sc := defScope s_l_file) (by decide +kernel)) (fun _ _ _ _ _ => pg_name (i := 1) sc_l_file.nd rfl (Or.inl rfl)) (fun _ _ _ _ _ => pts_nil) (fun _ _ _ _ _ => (pe_cG (ok_l_frame T) T.d_l_frame.b takes0 hg (hr.mono (by decide)) T.d_l_frame.m T.d_l_frame.F.kp (pa_cons (pe_cG (ok_l_text T) T.d_l_text.b takes0 hg (hr.mono (by decide)) T.d_l_text.m T.d_l_text.F.kp (pa_cons (pv 1) pa_nil)) pa_nil))))))), ?_⟩
  walk_at "rd"
  refine ⟨⟨_, rfl⟩, ?_⟩
  refine ⟨_, rfl, a, rfl, ⟨xs, .of hx⟩, fun D hD => ?_⟩
  refine lc_list (K := K) (a := a) (xs := xs) (fun j H' => H' D = some (.lst ((ls.take j).map fun x => V.str (frT (tl x)))) ∧ Same H H') ⟨upd_same, Same.new hD⟩ (fun j H' _ p => .of (p.2 _ _ hx)) ?_ ?_
  · rintro j x H2 hj ⟨f, S2⟩
    obtain ⟨d, hd, hv⟩ := dvs_at dx hj
    rw [List.getElem?_map] at hd
    obtain ⟨y, hy, rfl⟩ := Option.map_eq_some_iff.mp hd
    have oy := ok y (List.mem_of_getElem? hy)
    obtain ⟨pt, lt⟩ := oy.text
    refine ⟨rfl, ?_⟩
    walk_at "rd"
    refine ⟨x, y, rfl, hv.mono S2, oy, _, rfl, by omega, _, f, ?_, ?_, ?_⟩
    · rw [List.length_map, List.length_take, sz]
      omega
    · rw [List.take_add_one, hy]
      simp
    · intro b o hb
      rw [upd_ne (ne_of_none hb hD)]
      exact S2 _ _ hb
  · rintro H2 ⟨f, S2⟩
    rw [el, List.take_of_length_le (Nat.le_refl _)] at f
    have ef : (ls.map fun x => V.str (frT (tl x))) = (ls.map fun x => frT (tl x)).map V.str := by rw [List.map_map]; rfl
    refine ⟨_, rfl, ls.map fun x => frT (tl x), .inl (.of (by rw [f, ef])), ?_, ?_⟩
    · have e0 : (Str.ofString "").length = 0 := by decide +kernel
      rw [e0]
      have : ∀ ms : List L4, (∀ x ∈ ms, LOk x) → ((ms.map fun x => frT (tl x)).map (·.length)).sum ≤ 310 * ms.length := by
        intro ms
        induction ms with
        | nil => intro _; simp
        | cons y r ih =>
          intro h
          have h1 := ih fun x hx => h x (by simp [hx])
          have h2 := (h y (by simp)).text.2
          simp only [List.map_cons, List.sum_cons, List.length_cons]
          have h3 : (frT (tl y)).length = (tl y).length + 5 := by
            unfold frT
            rw [tx_len, Fr.frm_len, sg_len]
          omega
      have := this ls ok
      omega
    · have er : Txt.join (Str.ofString "") (ls.map fun x => frT (tl x)) = tx (fileL ls) := by
        have := rowOf (ls.map fun x => sg (tl x))
        rw [List.map_map] at this
        have e2 : ((fun t => frT (tx t)) ∘ fun x => sg (tl x)) = fun x => frT (tl x) := by
          funext x
          show frT (tx (sg (tl x))) = _
          rw [tx_sg]
        rw [e2] at this
        exact this
      rw [er]
      exact k H2 S2
end
end K06


namespace K06
open PySem L2 Nv

def spNum : Sp := fun vs H Q _ => ∃ z, vs = [.str z] ∧ Asc z ∧ Fig 120 (sg z) ∧ z.length ≤ 100000 ∧ ∀ H', Same H H' → Q (if numS z = true then .int (numV z) else .non) H'
section
variable {P : Program} {w : World} {K : PySem.W.Frag} {mg : Str → Option Value} {base : Heap}
theorem ok_l_number (T : Tx K mg) : FnG P w K mg base 1 T.d_l_number.f T.d_l_number.fd ["word"] spNum := by
  refine okG0 T.d_l_number.F sc_l_number (fun vs H Q E h => ?_) (fun cdv A outer s H vs Q E hg hr h => ?_)
  · obtain ⟨z, rfl, _⟩ := h
    rfl
  obtain ⟨z, rfl, az, fz, lz, k⟩ := h
  have sz : sizeLine = 16777216 := sizeLine_eq
  refine ⟨_, (pss_cons (ps_if (PW.pt (pw_or (pt_cmpR op_eq (pv 0) pe_str (nomark _)) (pw_or (pt_cmpR (op_neD hr.units) (pe_lc (own := [("sign", 1)]) (g := gName 1) rfl sc_l_number.nd (pi_str (pv 0)) (blkOk_by (N := ["word", "sign"]) (sc := defScope s_l_number) (by decide +kernel)) (fun _ _ _ _ _ => pg_name (i := 1) sc_l_number.nd rfl (Or.inl rfl)) (fun _ _ _ _ _ => (pts_one (pt_cmpR op_notIn_sign (pv 1) pe_str (by rfl)))) (fun _ _ _ _ _ => (pv 1))) (pe_lst1 pa_nil) (nomark _)) (pw_or1 (PW.pt (pw_and (pt_cmpR op_eq (pe_ix ix_str (pv 0) pe_int (fun _ _ => rfl)) pe_str (nomark _)) (pw_and1 (pt_cmpR op_ne (pv 0) pe_str (nomark _)))))))))
      (pss_one (ps_ret pe_non))
      pss_nil)
    (pss_one (ps_ret (pe_callTy call_int_str (by rfl) T.n_int (by decide +kernel) (pa_cons (pv 0) pa_nil))))), ?_⟩
  walk_at "rd"
  refine ⟨rfl, ?_⟩
  have ns : numS z = numL (sg z) := numS_eq z
  rw [ns] at k
  by_cases e0 : z = Str.ofString ""
  · rw [if_pos e0]
    have : numL (sg z) = false := by
      rw [e0]
      decide +kernel
    rw [this] at k
    exact k H (Same.refl H)
  · rw [if_neg e0]
    have l0 : 0 < (sg z).length := List.length_pos_iff.mpr fun e => e0 (sg_inj (by rw [e]; decide +kernel))
    refine ⟨V.str z, rfl, z, rfl, fun D hD => ?_⟩
    refine lc_it walk_str (fun i H' => H' D = some (.lst ((((sg z).take i).filter fun c => !Fr.dig c).map fun c => V.str ⟨#[c]⟩)) ∧ Same H H') ⟨upd_same, Same.new hD⟩ (fun _ _ _ _ => trivial) ?_ ?_
    · rintro j x H2 H3 hj ⟨f, S⟩ ⟨rfl, c, hc, rfl⟩
      have hc' : (sg z)[j]? = some c := by
        show z.cps.toList[j]? = _
        rw [Array.getElem?_toList]
        exact hc
      refine ⟨rfl, ?_⟩
      walk_at "rd"
      refine ⟨c, rfl, ?_⟩
      rw [figs_in]
      rw [take_filter hc']
      have hlen : ((((sg z).take j).filter fun c => !Fr.dig c).map fun c => V.str ⟨#[c]⟩).length < sizeLine := by
        rw [List.length_map, sz]
        have h1 := List.length_filter_le (fun c => !Fr.dig c) ((sg z).take j)
        have h2 : ((sg z).take j).length ≤ (sg z).length := by
          rw [List.length_take]
          omega
        rw [sg_len] at h2
        omega
      cases hd : Fr.dig c with
      | true =>
        simp only [Bool.not_true, Bool.false_eq_true, ↓reduceIte, List.append_nil]
        exact ⟨f, S⟩
      | false =>
        simp only [Bool.not_false, ↓reduceIte]
        refine ⟨_, f, hlen, ?_, fun a u ha => by rw [upd_ne (ne_of_none ha hD)]; exact S a u ha⟩
        rw [List.map_append]
        rfl
    · rintro H2 ⟨f, S⟩
      refine ⟨by decide, fun p hp np => ?_⟩
      have e : (sg z).take z.cps.size = sg z := by
        apply List.take_of_length_le
        rw [sg_len]
        exact Nat.le_refl _
      rw [e] at f
      have npD : D ≠ p := ne_of_none f hp
      have S3 : Same H (upd H2 p (.lst [])) := Same.trans S (Same.new hp)
      obtain ⟨H3, e3⟩ : ∃ H3, upd H2 p (.lst []) = H3 := ⟨_, rfl⟩
      have f3 : H3 D = some (.lst (((sg z).filter fun c => !Fr.dig c).map fun c => V.str ⟨#[c]⟩)) := by
        rw [← e3, upd_ne npD]
        exact f
      have p3 : H3 p = some (.lst []) := by
        rw [← e3]
        exact upd_same
      rw [e3] at S3 ⊢
      refine r_ne_ones (fun c hc => az c (List.mem_filter.mp hc).1) f3 p3 ?_
      rw [filt_all]
      refine ⟨_, rfl, ?_⟩
      have kk := k H3 S3
      unfold numL at kk
      cases ed : (sg z).all Fr.dig with
      | false =>
        have ed' : z.cps.toList.all Fr.dig = false := ed
        rw [ed] at kk
        rw [ed']
        simpa using kk
      | true =>
        have l120 : z.length ≤ 120 := by
          have := fz.self ed
          rw [sg_len] at this
          exact this
        have ed' : z.cps.toList.all Fr.dig = true := ed
        rw [ed] at kk
        rw [ed']
        have it := int_dig (z := z) ed (by rw [sg_len] at l0; omega) (by omega)
        simp only [Bool.not_true, Bool.false_eq_true, ↓reduceIte]
        obtain ⟨c, r, ec⟩ : ∃ c r, sg z = c :: r := by
          match h : sg z, l0 with
          | c :: r, _ => exact ⟨c, r, rfl⟩
        rw [ec] at kk
        refine ⟨z, 0, c, rfl, rfl, by omega, ?_, ?_⟩
        · have : z.cps.toList = c :: r := ec
          rw [this]
          exact atI_nat (j := 0) rfl
        · have z0 : Str.ofString "0" = ⟨#[48]⟩ := by decide +kernel
          have s0 : sg (Str.ofString "0") = [48] := by decide +kernel
          have cz : (V.str ⟨#[c]⟩ = V.str (Str.ofString "0")) ↔ c = 48 := by
            rw [z0]
            constructor
            · intro q
              injection q with q
              injection q with q
              simpa using q
            · rintro rfl
              rfl
          have zz : (z = Str.ofString "0") ↔ c :: r = [48] := by
            rw [← ec, ← s0]
            exact ⟨fun q => by rw [q], fun q => sg_inj q⟩
          refine ⟨rfl, ?_⟩
          by_cases hc : c = 48
          · rw [if_pos (cz.mpr hc)]
            refine ⟨rfl, ?_⟩
            by_cases hz : c :: r = [48]
            · have hd : (decide (0 < (c :: r).length) && true && (decide (c :: r = [48]) || !decide ((c :: r).head? = some 48))) = true := by simp [hz]
              rw [if_neg (by simpa using zz.mpr hz)]
              rw [if_pos hd] at kk
              exact ⟨_, it, by omega, kk⟩
            · rw [if_pos (by simpa using fun q => hz (zz.mp q))]
              have hd : ¬ (decide (0 < (c :: r).length) && true && (decide (c :: r = [48]) || !decide ((c :: r).head? = some 48))) = true := by
                have q1 : decide (c :: r = [48]) = false := decide_eq_false hz
                have q2 : (c :: r).head? = some 48 := by rw [hc]; rfl
                rw [q1, q2]
                simp
              rw [if_neg hd] at kk
              exact kk
          · rw [if_neg (fun q => hc (cz.mp q))]
            have hd : (decide (0 < (c :: r).length) && true && (decide (c :: r = [48]) || !decide ((c :: r).head? = some 48))) = true := by simp [hc]
            rw [if_pos hd] at kk
            exact ⟨_, it, by omega, kk⟩
/-- the parts of a text at its blanks -/
theorem parts_few {z : Str} (h : (splitL (sg z)).length < 4) : lnP z = none := by
  unfold lnP
  split
  · rename_i a b c t hs
    exfalso
    obtain ⟨e, ha, hb, hc⟩ := four_parts hs
    rw [e, splitL_cons ha, splitL_cons hb, splitL_cons hc] at h
    have := List.length_pos_iff.mpr (splitL_ne (sg t))
    simp only [List.length_cons] at h
    omega
  · rfl
theorem splitL_cat {l p : List Nat} {ps : List (List Nat)} (e : splitL l = p :: ps) : l = p ++ (ps.map fun q => 32 :: q).flatten ∧ ∀ q ∈ splitL l, ∀ d ∈ q, d ≠ 32 := by
  obtain ⟨p', ps', h1, h2, h3⟩ := splitL_join l.length l rfl
  rw [e] at h1
  cases h1
  exact ⟨h2, h3⟩
theorem parts_four {z : Str} {a b c t : List Nat} {r : List (List Nat)} (h : splitL (sg z) = a :: b :: c :: t :: r) :
    sg z = a ++ 32 :: (b ++ 32 :: (c ++ 32 :: (t ++ (r.map fun q => 32 :: q).flatten))) ∧ Txt.splitMax z (Str.ofString " ") 3 = [tx a, tx b, tx c, tx (t ++ (r.map fun q => 32 :: q).flatten)] := by
  obtain ⟨e, f⟩ := splitL_cat h
  have e2 : sg z = a ++ 32 :: (b ++ 32 :: (c ++ 32 :: (t ++ (r.map fun q => 32 :: q).flatten))) := by
    rw [e]
    simp
  exact ⟨e2, split_four e2 (f a (by rw [h]; simp)) (f b (by rw [h]; simp)) (f c (by rw [h]; simp))⟩
theorem sg_joinB : ∀ (k : Str) (l : List Str), sg (Str.join (Str.ofString " ") (k :: l)) = sg k ++ ((l.map sg).map fun q => 32 :: q).flatten
  | k, [] => by simp [Str.join]
  | k, m :: r => by
    have ih := sg_joinB m r
    show sg (k ++ Str.ofString " " ++ Str.join (Str.ofString " ") (m :: r)) = _
    have e1 : sg (Str.ofString " ") = [32] := by decide +kernel
    rw [sg_app, sg_app, ih, e1]
    simp
theorem join_tail (t : List Nat) (r : List (List Nat)) : Txt.join (Str.ofString " ") ((t :: r).map tx) = tx (t ++ (r.map fun q => 32 :: q).flatten) := by
  show Builtin.Str.glued (Str.ofString " ") _ = _
  rw [StrLaws.glued_eq_join]
  apply sg_inj
  rw [List.map_cons, sg_joinB, sg_tx, sg_tx]
  have : (r.map tx).map sg = r := by
    rw [List.map_map]
    have : sg ∘ tx = id := by
      funext l
      exact sg_tx l
    rw [this, List.map_id]
  rw [this]
theorem le_one (a c : Nat) : (!decide (([c] : List Nat) < [a])) = decide (a ≤ c) := by
  rw [← decide_not]
  congr 1
  simp [List.cons_lt_cons_iff]
theorem one_le (a c : Nat) : (!decide (([a] : List Nat) < [c])) = decide (c ≤ a) := le_one c a
theorem cutV_from (xs : List V) (b : Nat) : cutV xs (some (b : Int)) none = xs.drop b := by
  unfold cutV
  rw [HT.sIx_nat, HT.sIx_none]
  by_cases h2 : b ≤ xs.length
  · rw [Nat.min_eq_left h2, List.take_of_length_le (by rw [List.length_drop]; exact Nat.le_refl _)]
  · rw [Nat.min_eq_right (by omega), List.drop_eq_nil_of_le (Nat.le_refl _), List.drop_eq_nil_of_le (by omega), List.take_nil]
def spRl : Sp := fun vs H Q _ => ∃ z, vs = [.str z] ∧ Pl z ∧ z.length ≤ 100000 ∧ Fig 120 (sg z) ∧
  (lnP z = none → ∀ H', Same H H' → Q .non H') ∧
  (∀ x, lnP z = some x → ∀ v H', Same H H' → DV H' v (dl x) → Q v H')
theorem ok_l_read_line (T : Tx K mg) : FnG P w K mg base 2 T.d_l_read_line.f T.d_l_read_line.fd ["text"] spRl := by
  refine okG0 T.d_l_read_line.F sc_l_read_line (fun vs H Q E h => ?_) (fun cdv A outer s H vs Q E hg hr h => ?_)
  · obtain ⟨z, rfl, _⟩ := h
    rfl
  obtain ⟨z, rfl, pz, lz, fz, k1, k2⟩ := h
  have sz : sizeLine = 16777216 := sizeLine_eq
  refine ⟨_, (pss_cons (ps_set (i := 1) sc_l_read_line.nd rfl (Or.inl rfl) (pe_bm PySem.F.plainAttrs_str PySem.F.slot_str_split PySem.F.type_str_split mt_split (pv 0) (pa_cons pe_str pa_nil)))
    (pss_cons (ps_if (pt_cmpR op_lt (pe_callB call_len_seq (by rfl) T.n_len (by decide +kernel) (pa_cons (pv 1) pa_nil)) pe_int (nomark _))
      (pss_one (ps_ret pe_non))
      pss_nil)
    (pss_cons (ps_par3 (i := 2) (j := 3) (l := 4) rfl sc_l_read_line.nd rfl rfl rfl (by decide) (by decide) (by decide) rfl rfl rfl (pa_cons (pe_cG (ok_l_number T) T.d_l_number.b takes0 hg (hr.mono (by decide)) T.d_l_number.m T.d_l_number.F.kp (pa_cons (pe_ix ix_list (pv 1) pe_int (fun _ _ => rfl)) pa_nil)) (pa_cons (pe_cG (ok_l_number T) T.d_l_number.b takes0 hg (hr.mono (by decide)) T.d_l_number.m T.d_l_number.F.kp (pa_cons (pe_ix ix_list (pv 1) pe_int (fun _ _ => rfl)) pa_nil)) (pa_cons (pe_ix ix_list (pv 1) pe_int (fun _ _ => rfl)) pa_nil))) (by rfl))
    (pss_cons (ps_set (i := 5) sc_l_read_line.nd rfl (Or.inl rfl) (pe_join pe_str (pe_slice sl_list (pv 1) (po_some pe_int) po_none)))
    (pss_cons (ps_if (PW.pt (pw_or (pt_cmpR op_isN (pv 2) pe_non (nomark _)) (pw_or (pt_cmpR op_isN (pv 3) pe_non (nomark _)) (pw_or (pt_not (pt_chain op_le op_le pe_int (pe_callB call_len_str (by rfl) T.n_len (by decide +kernel) (pa_cons (pv 4) pa_nil)) pe_int)) (pw_or1 (pt_cmpR op_gt (pe_callB call_len_str (by rfl) T.n_len (by decide +kernel) (pa_cons (pv 5) pa_nil)) pe_int (nomark _)))))))
      (pss_one (ps_ret pe_non))
      pss_nil)
    (pss_cons (ps_if (pt_cmpR (op_neD hr.units) (pe_lc (own := [("sign", 6)]) (g := gName 6) rfl sc_l_read_line.nd (pi_str (pv 4)) (blkOk_by (N := ["text", "parts", "home", "number", "cell", "words", "sign"]) (sc := defScope s_l_read_line) (by decide +kernel)) (fun _ _ _ _ _ => pg_name (i := 6) sc_l_read_line.nd rfl (Or.inl rfl)) (fun _ _ _ _ _ => (pts_one (pt_not (pt_chain op_le_str op_le_str pe_str (pv 6) pe_str)))) (fun _ _ _ _ _ => (pv 6))) (pe_lst1 pa_nil) (nomark _))
      (pss_one (ps_ret pe_non))
      pss_nil)
    (pss_one (ps_ret (pe_tup (pa_cons (pv 2) (pa_cons (pv 3) (pa_cons (pv 4) (pa_cons (pv 5) pa_nil))))))))))))), ?_⟩
  walk_at "rd"
  refine ⟨rfl, by decide +kernel, by omega, fun l hl => ?_⟩
  obtain ⟨ps, hps⟩ : ∃ ps, splitL (sg z) = ps := ⟨_, rfl⟩
  rw [split_is, hps]
  have S1 : Same H (upd H l (.lst ((ps.map tx).map V.str))) := Same.new hl
  obtain ⟨H1, e1⟩ : ∃ H1, upd H l (.lst ((ps.map tx).map V.str)) = H1 := ⟨_, rfl⟩
  have f1 : H1 l = some (.lst ((ps.map tx).map V.str)) := by
    rw [← e1]
    exact upd_same
  rw [e1] at S1 ⊢
  refine ⟨_, rfl, _, .inl (.of f1), ?_⟩
  rw [List.length_map, List.length_map]
  by_cases h4 : ps.length < 4
  · rw [if_pos (by omega)]
    exact k1 (parts_few (by rw [hps]; exact h4)) H1 S1
  rw [if_neg (by omega)]
  obtain ⟨a, b, c, t, r, rfl⟩ : ∃ a b c t r, ps = a :: b :: c :: t :: r := by
    match ps, h4 with
    | a :: b :: c :: t :: r, _ => exact ⟨a, b, c, t, r, rfl⟩
    | [], h | [_], h | [_, _], h | [_, _, _], h => exact absurd (by simp) h
  obtain ⟨ez, e3⟩ := parts_four hps
  obtain ⟨u, hu⟩ : ∃ u, t ++ (r.map fun q => 32 :: q).flatten = u := ⟨_, rfl⟩
  rw [hu] at ez e3
  have el : lnP z = if numS (tx a) = true ∧ numS (tx b) = true ∧ lineB (lineD (numV (tx a)) (numV (tx b)) (tx c) (tx u)) = true then some (numV (tx a), numV (tx b), tx c, tx u) else none := by
    unfold lnP
    rw [e3]
  have f1' : SqL K H1 l (.str (tx a) :: .str (tx b) :: .str (tx c) :: .str (tx t) :: (r.map tx).map V.str) := .of f1
  have lz2 : z.length = a.length + b.length + c.length + u.length + 3 := by
    rw [← sg_len, ez]
    simp
    omega
  have as : Asc z := pz.asc
  have mem : ∀ d, (d ∈ a ∨ d ∈ b ∨ d ∈ c ∨ d ∈ u) → d ∈ sg z := fun d hd => by
    rw [ez]
    simp only [List.mem_append, List.mem_cons]
    rcases hd with h | h | h | h <;> simp [h]
  have tm : ∀ (l : List Nat) d, d ∈ (tx l).cps.toList → d ∈ l := fun l d h => by
    have e : (tx l).cps.toList = l := sg_tx l
    rw [e] at h
    exact h
  have iA : a <:+: sg z := ⟨[], 32 :: (b ++ 32 :: (c ++ 32 :: u)), by rw [ez]; simp⟩
  have iB : b <:+: sg z := ⟨a ++ [32], 32 :: (c ++ 32 :: u), by rw [ez]; simp⟩
  refine r_ixL f1' (atI_nat (j := 0) rfl) ⟨tx a, rfl, fun d hd => as d (mem d (.inl (tm _ _ hd))), by rw [sg_tx]; exact fz.sub iA, by rw [tx_len]; omega, fun H2 S2 => ?_⟩
  have f2 := S2 _ _ f1
  have f2' : SqL K H2 l (.str (tx a) :: .str (tx b) :: .str (tx c) :: .str (tx t) :: (r.map tx).map V.str) := .of f2
  refine r_ixL f2' (atI_nat (j := 1) rfl) ⟨tx b, rfl, fun d hd => as d (mem d (.inr (.inl (tm _ _ hd)))), by rw [sg_tx]; exact fz.sub iB, by rw [tx_len]; omega, fun H3 S3 => ?_⟩
  have f3 := S3 _ _ f2
  have f3' : SqL K H3 l (.str (tx a) :: .str (tx b) :: .str (tx c) :: .str (tx t) :: (r.map tx).map V.str) := .of f3
  refine r_ixL f3' (atI_nat (j := 2) rfl) ⟨⟨_, rfl⟩, l, _, rfl, .of f3, fun q hq => ?_⟩
  have S13 : Same H H3 := S1.trans (S2.trans S3)
  have hqH := S13.free hq
  have S14 : Same H (upd H3 q (.lst (cutV ((((a :: b :: c :: t :: r).map tx)).map V.str) (some 3) none))) := S13.trans (Same.new hq)
  obtain ⟨H4, e4⟩ : ∃ H4, upd H3 q (.lst (cutV ((((a :: b :: c :: t :: r).map tx)).map V.str) (some 3) none)) = H4 := ⟨_, rfl⟩
  have f4 : H4 q = some (.lst (((t :: r).map tx).map V.str)) := by
    have c3 : cutV ((((a :: b :: c :: t :: r).map tx)).map V.str) (some 3) none = ((t :: r).map tx).map V.str := cutV_from _ 3
    rw [← e4, upd_same, c3]
  rw [e4] at S14 ⊢
  refine ⟨q, rfl, (t :: r).map tx, .inl (.of f4), ?_, ?_⟩
  · have lj : ∀ rs : List (List Nat), (((rs.map tx)).map fun x => x.length).sum + rs.length = (rs.map fun q => 32 :: q).flatten.length := by
      intro rs
      induction rs with
      | nil => rfl
      | cons y rs ih =>
        simp only [List.map_cons, List.sum_cons, List.length_cons, List.flatten_cons, List.length_append, tx_len] at ih ⊢
        omega
    have l1 := lj r
    have l2 : u.length = t.length + (r.map fun q => 32 :: q).flatten.length := by rw [← hu, List.length_append]
    have sp := sp_len
    simp only [List.map_cons, List.sum_cons, List.length_cons, List.length_map, tx_len, sp] at l1 ⊢
    omega
  rw [join_tail, hu]
  cases na : numS (tx a) with
  | false =>
    rw [if_pos (by simp)]
    exact k1 (by rw [el, na]; simp) H4 S14
  | true =>
  rw [if_neg (by simp)]
  cases nb : numS (tx b) with
  | false =>
    rw [if_pos (by simp)]
    exact k1 (by rw [el, nb]; simp) H4 S14
  | true =>
  rw [if_neg (by simp)]
  refine ⟨_, rfl, by rw [tx_len]; omega, ?_⟩
  rw [na, nb] at el
  have cl : celS (tx c) = (decide (c.length ≤ 8) && (decide (0 < c.length) && c.all low)) := by
    unfold celS
    rw [alow, sg_tx, tx_len]
  have ln : lineB (lineD (numV (tx a)) (numV (tx b)) (tx c) (tx u)) = (celS (tx c) && (okS (tx u) && decide (u.length ≤ 40))) := by
    have p1 : cntB (.int (numV (tx a))) = true := by
      unfold cntB
      exact decide_eq_true (by unfold numV; exact Int.natCast_nonneg _)
    have p2 : cntB (.int (numV (tx b))) = true := by
      unfold cntB
      exact decide_eq_true (by unfold numV; exact Int.natCast_nonneg _)
    show (cntB (.int (numV (tx a))) && (cntB (.int (numV (tx b))) && (celS (tx c) && (okS (tx u) && decide ((tx u).length ≤ 40))))) = _
    rw [p1, p2, Bool.true_and, Bool.true_and, tx_len]
  have ou : okS (tx u) = true := by
    have : Pl (tx u) := fun d hd => pz d (mem d (.inr (.inr (.inr (tm _ _ hd)))))
    exact this.ok
  rw [ln, cl, ou] at el
  rw [tx_len, tx_len]
  by_cases c1 : 1 ≤ (c.length : Int)
  · rw [if_pos c1]
    have c1' : decide (0 < c.length) = true := decide_eq_true (by omega)
    rw [c1'] at el
    by_cases c8 : (c.length : Int) ≤ 8
    · rw [if_neg (by simpa using c8)]
      have c8' : decide (c.length ≤ 8) = true := decide_eq_true (by omega)
      rw [c8'] at el
      refine ⟨by omega, ?_⟩
      by_cases u40 : (40 : Int) < (u.length : Int)
      · rw [if_pos u40]
        have u4' : decide (u.length ≤ 40) = false := decide_eq_false (by omega)
        rw [u4'] at el
        exact k1 (by rw [el]; simp) H4 S14
      · rw [if_neg u40]
        have u4' : decide (u.length ≤ 40) = true := decide_eq_true (by omega)
        rw [u4'] at el
        refine ⟨V.str (tx c), rfl, tx c, rfl, fun D hD => ?_⟩
        refine lc_it walk_str (fun i H' => H' D = some (.lst (((c.take i).filter fun x => !low x).map fun x => V.str ⟨#[x]⟩)) ∧ Same H4 H') ⟨upd_same, Same.new hD⟩ (fun _ _ _ _ => trivial) ?_ ?_
        · rintro j x H5 H6 hj ⟨f, S⟩ ⟨rfl, d, hd, rfl⟩
          have hd' : c[j]? = some d := by
            have : (sg (tx c))[j]? = some d := by
              show (tx c).cps.toList[j]? = _
              rw [Array.getElem?_toList]
              exact hd
            rw [sg_tx] at this
            exact this
          refine ⟨rfl, ?_⟩
          walk_at "rd"
          have ea : (Str.ofString "a").cps.toList = [97] := by decide +kernel
          have ezz : (Str.ofString "z").cps.toList = [122] := by decide +kernel
          rw [take_filter hd', ea, ezz]
          have hlen : (((c.take j).filter fun x => !low x).map fun x => V.str ⟨#[x]⟩).length < sizeLine := by
            rw [List.length_map, sz]
            have h1 := List.length_filter_le (fun x => !low x) (c.take j)
            have h2 : (c.take j).length ≤ c.length := by
              rw [List.length_take]
              omega
            omega
          have l1 := le_one 97 d
          have l2 := one_le 122 d
          have bad : low d = false → ∃ acc, H6 D = some (.lst acc) ∧ acc.length < sizeLine ∧ HO.lst (acc ++ [V.str ⟨#[d]⟩]) = HO.lst (((c.take j).filter (fun x => !low x) ++ if (!low d) = true then [d] else []).map fun x => V.str ⟨#[x]⟩) ∧ Same H4 (upd H6 D (.lst (acc ++ [V.str ⟨#[d]⟩]))) := fun e => by
            rw [e]
            refine ⟨_, f, hlen, by simp, fun a u ha => by rw [upd_ne (ne_of_none ha hD)]; exact S a u ha⟩
          cases d1 : decide (97 ≤ d) with
          | false =>
            rw [d1] at l1
            rw [if_neg (by simpa using l1)]
            exact bad (by unfold low; rw [d1]; rfl)
          | true =>
            rw [d1] at l1
            rw [if_pos (by simpa using l1)]
            cases d2 : decide (d ≤ 122) with
            | false =>
              rw [d2] at l2
              rw [if_pos l2]
              exact bad (by unfold low; rw [d1, d2]; rfl)
            | true =>
              rw [d2] at l2
              have lo : low d = true := by unfold low; rw [d1, d2]; rfl
              rw [if_neg (by rw [l2]; decide), lo]
              simp only [Bool.not_true, Bool.false_eq_true, ↓reduceIte, List.append_nil]
              exact ⟨f, S⟩
        · rintro H5 ⟨f, S⟩
          refine ⟨by decide, fun p hp np => ?_⟩
          have e : c.take (tx c).cps.size = c := by
            apply List.take_of_length_le
            have : (tx c).cps.size = c.length := tx_len c
            omega
          rw [e] at f
          have npD : D ≠ p := ne_of_none f hp
          have S5 : Same H (upd H5 p (.lst [])) := S14.trans (S.trans (Same.new hp))
          obtain ⟨H6, e6⟩ : ∃ H6, upd H5 p (.lst []) = H6 := ⟨_, rfl⟩
          have f6 : H6 D = some (.lst ((c.filter fun x => !low x).map fun x => V.str ⟨#[x]⟩)) := by
            rw [← e6, upd_ne npD]
            exact f
          have p6 : H6 p = some (.lst []) := by
            rw [← e6]
            exact upd_same
          rw [e6] at S5 ⊢
          refine r_ne_ones (fun d hd => as d (mem d (.inr (.inr (.inl (List.mem_filter.mp hd).1))))) f6 p6 ?_
          rw [filt_all]
          refine ⟨_, rfl, ?_⟩
          cases ed : c.all low with
          | false =>
            rw [ed] at el
            rw [if_pos (by rfl)]
            exact k1 (by rw [el]; simp) H6 S5
          | true =>
            rw [ed] at el
            rw [if_neg (by decide)]
            refine ⟨by decide, fun v hv => ?_⟩
            refine k2 (numV (tx a), numV (tx b), tx c, tx u) (by rw [el]; simp) _ _ (S5.trans (Same.new hv)) ?_
            exact .tup upd_same (.cons (.int _) (.cons (.int _) (.cons (.str _) (.cons (.str _) .nil))))
    · rw [if_pos (by simpa using c8)]
      have c8' : decide (c.length ≤ 8) = false := decide_eq_false (by omega)
      rw [c8'] at el
      exact k1 (by rw [el]; simp) H4 S14
  · rw [if_neg c1]
    have c1' : decide (0 < c.length) = false := decide_eq_false (by omega)
    rw [c1'] at el
    exact k1 (by rw [el]; simp) H4 S14
end
end K06


namespace K06
open PySem L2 Nv

/-- texts that are all lines -/
def AllL (ts : List (List Nat)) (ls : List L4) : Prop := ts.map (fun t => lnP (tx t)) = ls.map some
theorem AllL.lns : ∀ {ts : List (List Nat)} {ls : List L4}, AllL ts ls → ∀ rest, lnsP (ts ++ rest) = ls ++ lnsP rest
  | [], [], _, rest => rfl
  | [], _ :: _, h, _ => by simp [AllL] at h
  | _ :: _, [], h, _ => by simp [AllL] at h
  | t :: ts, x :: ls, h, rest => by
    unfold AllL at h
    rw [List.map_cons, List.map_cons, List.cons.injEq] at h
    have ih := AllL.lns (ts := ts) (ls := ls) h.2 rest
    show lnsP (t :: (ts ++ rest)) = _
    conv => lhs; unfold lnsP
    rw [h.1, ih]
    rfl
theorem AllL.snoc {ts : List (List Nat)} {ls : List L4} {t : List Nat} {x : L4} (h : AllL ts ls) (e : lnP (tx t) = some x) : AllL (ts ++ [t]) (ls ++ [x]) := by
  unfold AllL at h ⊢
  rw [List.map_append, List.map_append, h]
  simp [e]
theorem AllL.row : ∀ {ts : List (List Nat)} {ls : List L4}, AllL ts ls → ts = ls.map fun x => sg (tl x)
  | [], [], _ => rfl
  | [], _ :: _, h => by simp [AllL] at h
  | _ :: _, [], h => by simp [AllL] at h
  | t :: ts, x :: ls, h => by
    unfold AllL at h
    rw [List.map_cons, List.map_cons, List.cons.injEq] at h
    rw [List.map_cons, lnP_text h.1, sg_tx, ← AllL.row (ts := ts) (ls := ls) h.2]
theorem rd_more' {z : List Nat} : ∀ (n s : Nat) (acc : List (List Nat)), ∃ m, (Fr.rd z n s acc).1 = acc ++ m
  | 0, s, acc => ⟨[], by simp [Fr.rd]⟩
  | n + 1, s, acc => by
    rw [Fr.rd]
    cases e : Fr.fend z s with
    | none => exact ⟨[], by simp⟩
    | some x =>
      obtain ⟨m, h⟩ := rd_more' (z := z) n x (acc ++ [Fr.piece z (s + 4) (x - 1)])
      exact ⟨Fr.piece z (s + 4) (x - 1) :: m, by rw [h]; simp⟩
/-- what stands read at a place -/
structure Rd (z : List Nat) (g : Nat) (acc : List (List Nat)) (ls : List L4) : Prop where
  at_ : Fr.At z g acc
  all : AllL acc ls
  len : g = (fileL ls).length
theorem Rd.zero (z : List Nat) : Rd z 0 [] [] := ⟨Fr.At.zero z, rfl, rfl⟩
theorem Rd.stop {z : List Nat} {g : Nat} {acc : List (List Nat)} {ls : List L4} (h : Rd z g acc ls) (e : Fr.fend z g = none) : lnsF z = ls := by
  unfold lnsF
  rw [h.at_.stop e]
  have := h.all.lns []
  simpa [lnsP] using this
theorem Rd.bad {z : List Nat} {g e : Nat} {acc : List (List Nat)} {ls : List L4} (h : Rd z g acc ls) (he : Fr.fend z g = some e) (hl : lnP (tx (Fr.piece z (g + 4) (e - 1))) = none) : lnsF z = ls := by
  have a := (h.at_.step he).2
  unfold lnsF
  rw [← a]
  obtain ⟨m, hm⟩ := rd_more' (z := z) (z.length + 1) e (acc ++ [Fr.piece z (g + 4) (e - 1)])
  rw [hm, List.append_assoc, h.all.lns]
  have : lnsP ([Fr.piece z (g + 4) (e - 1)] ++ m) = [] := by
    show lnsP (_ :: m) = _
    unfold lnsP
    rw [hl]
  rw [this, List.append_nil]
theorem Rd.step {z : List Nat} {g e : Nat} {acc : List (List Nat)} {ls : List L4} {x : L4} (h : Rd z g acc ls) (he : Fr.fend z g = some e) (hl : lnP (tx (Fr.piece z (g + 4) (e - 1))) = some x) : Rd z e (acc ++ [Fr.piece z (g + 4) (e - 1)]) (ls ++ [x]) := by
  refine ⟨h.at_.step he, h.all.snoc hl, ?_⟩
  rw [file_app, List.length_append, ← h.len]
  have e1 : fileL [x] = Fr.frm (sg (tl x)) := by simp [fileL, Fr.row]
  obtain ⟨_, _, h3⟩ := fend_split he
  rw [e1, Fr.frm_len, lnP_text hl, sg_tx]
  omega
theorem file_len5 : ∀ ls : List L4, 5 * ls.length ≤ (fileL ls).length
  | [] => Nat.zero_le _
  | x :: r => by
    have e : fileL (x :: r) = Fr.frm (sg (tl x)) ++ fileL r := by simp [fileL, Fr.row]
    have := file_len5 r
    rw [e, List.length_append, Fr.frm_len, List.length_cons]
    omega
def spRead : Sp := fun vs H Q _ => ∃ z, vs = [.str z] ∧ Pl z ∧ z.length ≤ 100000 ∧ Fig 120 (sg z) ∧
  ∀ q l ws H', H l = none → l ≠ sysModules → Same H H' → H' q = some (.lst [.ref l, .int ((fileL (lnsF (sg z))).length : Int)]) → H' l = some (.lst ws) → DVs H' ws ((lnsF (sg z)).map dl) → Q (.ref q) H'
section
variable {P : Program} {w : World} {K : PySem.W.Frag} {mg : Str → Option Value} {base : Heap}
theorem ok_l_read (T : Tx K mg) : FnG P w K mg base 3 T.d_l_read.f T.d_l_read.fd ["signs"] spRead := by
  refine okG0 T.d_l_read.F sc_l_read (fun vs H Q E h => ?_) (fun cdv A outer s H vs Q E hg hr h => ?_)
  · obtain ⟨z, rfl, _⟩ := h
    rfl
  obtain ⟨z, rfl, pz, lz, fz, k⟩ := h
  have sz : sizeLine = 16777216 := sizeLine_eq
  refine ⟨_, (pss_cons (ps_par (i := 1) (j := 2) rfl sc_l_read.nd rfl rfl (by decide) rfl rfl (pa_cons (pe_lst1 pa_nil) (pa_cons pe_int pa_nil)) (by rfl))
    (pss_cons (ps_for PassesOwn.never rfl (pi_range1 (by rfl) T.n_range (pa_cons (pe_op op_add (pe_op op_fdivN (pe_callB call_len_str (by rfl) T.n_len (by decide +kernel) (pa_cons (pv 0) pa_nil)) pe_int) pe_int) pa_nil)) (pg_name (i := 3) sc_l_read.nd rfl (Or.inl rfl))
      (pss_cons (ps_set (i := 4) sc_l_read.nd rfl (Or.inl rfl) (pe_slice sl_str (pv 0) (po_some (pv 2)) (po_some (pe_op op_add (pv 2) pe_int))))
      (pss_cons (ps_if (PW.pt (pw_or (pt_cmpR op_lt (pe_callB call_len_str (by rfl) T.n_len (by decide +kernel) (pa_cons (pv 4) pa_nil)) pe_int (nomark _)) (pw_or1 (pt_cmpR (op_neD hr.units) (pe_lc (own := [("sign", 5)]) (g := gName 5) rfl sc_l_read.nd (pi_str (pv 4)) (blkOk_by (N := ["signs", "found", "good", "turn", "head", "sign", "end", "line"]) (sc := defScope s_l_read) (by decide +kernel)) (fun _ _ _ _ _ => pg_name (i := 5) sc_l_read.nd rfl (Or.inl rfl)) (fun _ _ _ _ _ => (pts_one (pt_cmpR op_notIn_sign (pv 5) pe_str (by rfl)))) (fun _ _ _ _ _ => (pv 5))) (pe_lst1 pa_nil) (nomark _)))))
        (pss_one (ps_ret (pe_lst1 (pa_cons (pv 1) (pa_cons (pv 2) pa_nil)))))
        pss_nil)
      (pss_cons (ps_set (i := 6) sc_l_read.nd rfl (Or.inl rfl) (pe_op op_add (pe_op op_add (pv 2) pe_int) (pe_callTy call_int_str (by rfl) T.n_int (by decide +kernel) (pa_cons (pv 4) pa_nil))))
      (pss_cons (ps_set (i := 7) sc_l_read.nd rfl (Or.inl rfl) (pe_cG (ok_l_read_line T) T.d_l_read_line.b takes0 hg (hr.mono (by decide)) T.d_l_read_line.m T.d_l_read_line.F.kp (pa_cons (pe_slice sl_str (pv 0) (po_some (pe_op op_add (pv 2) pe_int)) (po_some (pv 6))) pa_nil)))
      (pss_cons (ps_if (PW.pt (pw_or (pt_cmpR op_ne (pe_slice sl_str (pv 0) (po_some (pv 6)) (po_some (pe_op op_add (pv 6) pe_int))) pe_str (nomark _)) (pw_or1 (pt_cmpR op_isN (pv 7) pe_non (nomark _)))))
        (pss_one (ps_ret (pe_lst1 (pa_cons (pv 1) (pa_cons (pv 2) pa_nil)))))
        pss_nil)
      (pss_cons (ps_expr (pe_bm PySem.F.plainAttrs_list PySem.F.slot_list_append PySem.F.type_list_append mt_append (pv 1) (pa_cons (pv 7) pa_nil)))
      (pss_one (ps_set (i := 2) sc_l_read.nd rfl (Or.inl rfl) (pe_op op_add (pv 6) pe_int))))))))))
    (pss_one (ps_ret (pe_lst1 (pa_cons (pv 1) (pa_cons (pv 2) pa_nil))))))), ?_⟩
  walk_at "rd"
  refine ⟨by decide, fun l hl nl => ?_⟩
  have hdv : (z.length : Int).fdiv 5 = ((z.length / 5 : Nat) : Int) := by
    rw [Int.fdiv_eq_ediv_of_nonneg _ (by decide)]
    omega
  have fin : ∀ (H1 : Hp) (g : Nat) (acc : List (List Nat)) (ls : List L4) (ws : List V), Rd (sg z) g acc ls → lnsF (sg z) = ls → H1 l = some (.lst ws) → DVs H1 ws (ls.map dl) → (∀ b o, b ≠ l → H b = some o → H1 b = some o) →
      0 + 1 + 1 ≤ sizeLine ∧ ∀ (p : Addr), H1 p = none → p ≠ sysModules → Q (V.ref p) (upd H1 p (HO.lst [V.ref l, V.int (g : Int)])) := by
    intro H1 g acc ls ws rd el hl1 dv1 hs
    refine ⟨by decide, fun t ht nt => ?_⟩
    have ntl : t ≠ l := fun q => by
      rw [q, hl1] at ht
      cases ht
    have kp : ∀ b o, H1 b = some o → upd H1 t (.lst [V.ref l, V.int (g : Int)]) b = some o := Same.new ht
    refine k t l ws _ hl nl ?_ ?_ (kp _ _ hl1) ?_
    · intro b o hb
      exact kp _ _ (hs b o (ne_of_none hb hl) hb)
    · rw [upd_same, el, rd.len]
    · rw [el]
      exact dv1.mono kp
  refine ⟨_, rfl, _, rfl, by omega, _, _, rfl, rfl, ⟨by decide, by decide⟩, _, _, rfl, rfl, _, rfl, by omega, by omega, ?_⟩
  rw [hdv]
  refine for_range (fun i σ H' => ∃ (g : Nat) (acc : List (List Nat)) (ls : List L4) (ws : List V) (y3 y4 y5 y6 y7 : Option V), σ = [some (.str z), some (.ref l), some (.int (g : Int)), y3, y4, y5, y6, y7] ∧ Rd (sg z) g acc ls ∧ H' l = some (.lst ws) ∧ DVs H' ws (ls.map dl) ∧ 5 * i ≤ g ∧
    (∀ b o, b ≠ l → H b = some o → H' b = some o)) ⟨0, [], [], [], _, _, _, _, _, rfl, Rd.zero _, upd_same, .nil, Nat.le_refl _, fun b o nb hb => by rw [upd_ne nb]; exact hb⟩ ?_ ?_
  · rintro i σ H1 hi ⟨g, acc, ls, ws, y3, y4, y5, y6, y7, rfl, rd, hl1, dv1, hig, hs⟩
    walk_at "rd"
    have hgz := rd.at_.1
    rw [sg_len] at hgz
    obtain ⟨fg, hf⟩ : ∃ fg, fg = cutS z (some (g : Int)) (some ((g : Int) + 4)) := ⟨_, rfl⟩
    have sf : sg fg = ((sg z).drop g).take 4 := by
      have := cut_nat z g (g + 4)
      have e : ((g + 4 : Nat) : Int) = (g : Int) + 4 := by omega
      rw [e] at this
      rw [hf, this]
      congr 1
      omega
    have lf : fg.length ≤ 4 := by
      rw [← sg_len, sf, List.length_take]
      omega
    have af : Asc fg := by
      rw [hf]
      exact pz.asc.cut _ _
    rw [← hf]
    refine ⟨by omega, by omega, ?_⟩
    by_cases h4 : (fg.length : Int) < 4
    · rw [if_pos h4]
      refine fin H1 g acc ls ws rd (rd.stop ?_) hl1 dv1 hs
      unfold Fr.fend
      rw [← sf, sg_len, if_neg (fun h => by omega)]
    · rw [if_neg h4]
      refine ⟨V.str fg, rfl, fg, rfl, fun D hD => ?_⟩
      have hfs : fg.cps.toList = sg fg := rfl
      refine lc_it walk_str (fun i H' => H' D = some (.lst ((((sg fg).take i).filter fun c => !Fr.dig c).map fun c => V.str ⟨#[c]⟩)) ∧ Same H1 H') ⟨upd_same, Same.new hD⟩ (fun _ _ _ _ => trivial) ?_ ?_
      · rintro j x H2 H3 hj ⟨f, S⟩ ⟨rfl, c, hc, rfl⟩
        have hc' : (sg fg)[j]? = some c := by
          show fg.cps.toList[j]? = _
          rw [Array.getElem?_toList]
          exact hc
        refine ⟨rfl, ?_⟩
        walk_at "rd"
        refine ⟨c, rfl, ?_⟩
        rw [figs_in, take_filter hc']
        have hlen : ((((sg fg).take j).filter fun c => !Fr.dig c).map fun c => V.str ⟨#[c]⟩).length < sizeLine := by
          rw [List.length_map, sz]
          have h1 := List.length_filter_le (fun c => !Fr.dig c) ((sg fg).take j)
          have h2 : ((sg fg).take j).length ≤ (sg fg).length := by
            rw [List.length_take]
            omega
          rw [sg_len] at h2
          omega
        cases hd : Fr.dig c with
        | true =>
          simp only [Bool.not_true, Bool.false_eq_true, ↓reduceIte, List.append_nil]
          exact ⟨f, S⟩
        | false =>
          simp only [Bool.not_false, ↓reduceIte]
          refine ⟨_, f, hlen, ?_, fun a u ha => by rw [upd_ne (ne_of_none ha hD)]; exact S a u ha⟩
          rw [List.map_append]
          rfl
      · rintro H2 ⟨f, S⟩
        refine ⟨by decide, fun p hp np => ?_⟩
        have e : (sg fg).take fg.cps.size = sg fg := by
          apply List.take_of_length_le
          rw [sg_len]
          exact Nat.le_refl _
        rw [e] at f
        have npD : D ≠ p := ne_of_none f hp
        have S3 : Same H1 (upd H2 p (.lst [])) := Same.trans S (Same.new hp)
        obtain ⟨H3, e3⟩ : ∃ H3, upd H2 p (.lst []) = H3 := ⟨_, rfl⟩
        have f3 : H3 D = some (.lst (((sg fg).filter fun c => !Fr.dig c).map fun c => V.str ⟨#[c]⟩)) := by
          rw [← e3, upd_ne npD]
          exact f
        have p3 : H3 p = some (.lst []) := by
          rw [← e3]
          exact upd_same
        rw [e3] at S3 ⊢
        have hl3 : H3 l = some (.lst ws) := S3 _ _ hl1
        have dv3 : DVs H3 ws (ls.map dl) := dv1.mono S3
        have hs3 : ∀ b o, b ≠ l → H b = some o → H3 b = some o := fun b o nb hb => S3 _ _ (hs b o nb hb)
        refine r_ne_ones (fun c hc => af c (List.mem_filter.mp hc).1) f3 p3 ?_
        rw [filt_all]
        refine ⟨_, rfl, ?_⟩
        by_cases hd : (sg fg).all Fr.dig = true
        · have hd2 : fg.cps.toList.all Fr.dig = true := hd
          rw [hd2]
          simp only [Bool.not_true, Bool.false_eq_true, ↓reduceIte]
          have h44 : (sg fg).length = 4 ∧ (sg fg).all Fr.dig = true := ⟨by rw [sg_len]; omega, hd⟩
          refine ⟨_, int_dig hd (by omega) (by omega), by omega, by omega, ?_⟩
          obtain ⟨n, hn⟩ : ∃ n, n = Fr.num (sg fg) := ⟨_, rfl⟩
          rw [← hn]
          obtain ⟨tl', ht⟩ : ∃ tl', tl' = cutS z (some ((g : Int) + 4 + (n : Int))) (some ((g : Int) + 4 + (n : Int) + 1)) := ⟨_, rfl⟩
          have st1 : sg tl' = ((sg z).drop (g + 4 + n)).take 1 := by
            have := cut_nat z (g + 4 + n) (g + 4 + n + 1)
            have e1 : ((g + 4 + n : Nat) : Int) = (g : Int) + 4 + (n : Int) := by omega
            have e2 : ((g + 4 + n + 1 : Nat) : Int) = (g : Int) + 4 + (n : Int) + 1 := by omega
            rw [e1, e2] at this
            rw [ht, this]
            congr 1
            omega
          rw [← ht]
          obtain ⟨tt, htt⟩ : ∃ tt, tt = cutS z (some ((g : Int) + 4)) (some ((g : Int) + 4 + (n : Int))) := ⟨_, rfl⟩
          have et : tt = tx (Fr.piece (sg z) (g + 4) (g + 4 + n + 1 - 1)) := sg_inj (by
            rw [sg_tx, htt]
            have := cut_nat z (g + 4) (g + 4 + n + 1 - 1)
            have q1 : ((g + 4 : Nat) : Int) = (g : Int) + 4 := by omega
            have q2 : ((g + 4 + n + 1 - 1 : Nat) : Int) = (g : Int) + 4 + (n : Int) := by omega
            rw [q1, q2] at this
            rw [this]
            rfl)
          have inf : sg tt <:+: sg z := by
            rw [et, sg_tx]
            unfold Fr.piece
            exact (List.take_prefix _ _).isInfix.trans (List.drop_suffix _ _).isInfix
          rw [← htt]
          have fe : tl' = Str.ofString "." → Fr.fend (sg z) g = some (g + 4 + n + 1) := fun hq => by
            unfold Fr.fend
            rw [← sf, if_pos h44, ← hn, ← st1, hq, dot_sg, if_pos rfl]
          have fn : ¬ tl' = Str.ofString "." → Fr.fend (sg z) g = none := fun hq => by
            unfold Fr.fend
            rw [← sf, if_pos h44, ← hn, ← st1, if_neg (fun e => hq (sg_inj (by rw [e, dot_sg])))]
          refine ⟨tt, rfl, fun c hc => pz c (inf.subset hc), ?_, fz.sub inf, fun en H4 S4 => ?_, fun x ex v H4 S4 dvx => ?_⟩
          · have := inf.length_le
            rw [sg_len, sg_len] at this
            omega
          · have hs4 : ∀ b o, b ≠ l → H b = some o → H4 b = some o := fun b o nb hb => S4 _ _ (hs3 b o nb hb)
            refine ⟨by omega, by simp [scal], ?_⟩
            by_cases hq : tl' = Str.ofString "."
            · rw [if_neg (by simp [hq]), if_pos rfl]
              exact fin H4 g acc ls ws rd (rd.bad (fe hq) (by rw [← et]; exact en)) (S4 _ _ hl3) (dv3.mono S4) hs4
            · rw [if_pos (by simp [hq])]
              exact fin H4 g acc ls ws rd (rd.stop (fn hq)) (S4 _ _ hl3) (dv3.mono S4) hs4
          · have hs4 : ∀ b o, b ≠ l → H b = some o → H4 b = some o := fun b o nb hb => S4 _ _ (hs3 b o nb hb)
            have hl4 := S4 _ _ hl3
            have dv4 := dv3.mono S4
            refine ⟨by omega, by simp [scal], ?_⟩
            by_cases hq : tl' = Str.ofString "."
            · have vn : ¬ (v = V.non) := fun q => by
                rw [q] at dvx
                unfold dl lineD at dvx
                cases dvx
              rw [if_neg (by simp [hq]), if_neg vn]
              have he := fe hq
              have hb := Fr.fend_bounds he
              rw [sg_len] at hb
              have lw := dv4.len
              rw [List.length_map] at lw
              have l5 := file_len5 ls
              have gl := rd.len
              refine ⟨.inl ⟨rfl, _, .of hl4⟩, l, ws, _, rfl, rfl, hl4, by omega, ?_⟩
              refine ⟨g + 4 + n + 1, ⟨by omega, _, rfl⟩, _, ls ++ [x], rd.step he (by rw [← et]; exact ex), ws ++ [v], upd_same, ?_, by omega, fun b o nb hb2 => by rw [upd_ne nb]; exact hs4 b o nb hb2⟩
              have kp : ∀ b o, b ≠ l → H4 b = some o → upd H4 l (.lst (ws ++ [v])) b = some o := fun b o nb hb => by rw [upd_ne nb]; exact hb
              rw [List.map_append]
              have z1 : DVs H4 [v] ([x].map dl) := .cons dvx .nil
              exact dvs_app (dls_keep ⟨_, hl4⟩ kp dv4) (dls_keep ⟨_, hl4⟩ kp z1)
            · rw [if_pos (by simp [hq])]
              exact fin H4 g acc ls ws rd (rd.stop (fn hq)) hl4 dv4 hs4
        · have hd' : fg.cps.toList.all Fr.dig = false := (Bool.not_eq_true _).mp hd
          rw [hd']
          simp only [Bool.not_false, ↓reduceIte]
          refine fin H3 g acc ls ws rd (rd.stop ?_) hl3 dv3 hs3
          unfold Fr.fend
          rw [← sf, if_neg (fun h => hd h.2)]
  · rintro σ H1 ⟨g, acc, ls, ws, y3, y4, y5, y6, y7, rfl, rd, hl1, dv1, hig, hs⟩
    exfalso
    have hg := rd.at_.1
    rw [sg_len] at hg
    omega
end
end K06


namespace K06
open PySem L2 Nv

theorem upC : ∀ c, c < 128 → pc c = true → (Unicode.upperOf c).length = 1 ∧ (Unicode.upperOf c).all pc = true := by decide +kernel
theorem mapIdx_same {α β : Type} (f : α → β) : ∀ (l : List α), List.mapIdx (fun _ c => f c) l = l.map f
  | [] => rfl
  | a :: r => by
    rw [List.mapIdx_cons, List.map_cons, mapIdx_same f r]
theorem upper_sg (z : Str) : sg (Txt.upper z) = ((sg z).map Unicode.upperOf).flatten := by
  show (placed z fun x c => Unicode.upperOf c).toList = _
  unfold placed
  rw [Array.toList_flatten, Array.toList_mapIdx, mapIdx_same (fun c => (Unicode.upperOf c).toArray), List.map_map]
  rfl
theorem upper_ok {z : Str} (h : Pl z) : Pl (Txt.upper z) ∧ (Txt.upper z).length = z.length := by
  constructor
  · intro c hc
    rw [upper_sg] at hc
    obtain ⟨l, hl, hc⟩ := List.mem_flatten.mp hc
    obtain ⟨d, hd, rfl⟩ := List.mem_map.mp hl
    exact List.all_eq_true.mp (upC d (h.asc d hd) (h d hd)).2 c hc
  · rw [← sg_len, upper_sg, ← sg_len]
    have : ∀ l : List Nat, (∀ c ∈ l, c < 128 ∧ pc c = true) → ((l.map Unicode.upperOf).flatten).length = l.length := by
      intro l
      induction l with
      | nil => intro _; rfl
      | cons a r ih =>
        intro hl
        have h1 := hl a (by simp)
        rw [List.map_cons, List.flatten_cons, List.length_append, (upC a h1.1 h1.2).1, ih fun c hc => hl c (by simp [hc]), List.length_cons]
        omega
    exact this _ fun c hc => ⟨h.asc c hc, h c hc⟩
theorem num3 {i : Int} (h0 : 0 ≤ i) (h1 : i ≤ 307) : (Str.ofString (toString i)).length ≤ 3 := by
  have h := int_text_length_le10 (a := i) (k := 3) (by decide) (by omega)
  have e : (Str.ofString (toString i)).length = (toString i).length := ofString_length _
  obtain ⟨n, rfl⟩ : ∃ n : Nat, i = (n : Int) := ⟨i.toNat, by omega⟩
  have := sg_len (Str.ofString (toString (n : Int)))
  rw [nat_sg] at this
  have d := PyProof.Rows.digits10_le (k := 3) (n := n) (by decide) (by omega)
  have dl : (TL.numL n).length = (Nat.toDigits 10 n).length := by
    have := str_nat n
    rw [← nat_sg, this, List.length_map]
  omega
theorem LSm.tl {x : L4} (h : LDr x) (s : LSm x) : (tl x).length ≤ 57 := by
  obtain ⟨h1, h2, h3, h4, h5⟩ := h.ok.cases
  have a := num3 h1 s.1
  have b := num3 h2 s.2
  have c := celS_low h3
  have l := sp_len
  have e : Str.empty.length = 0 := rfl
  unfold K06.tl lineT
  rw [append_len, append_len, append_len, append_len, append_len, append_len, append_len]
  omega
theorem cutS_le (z : Str) (lo hi : Option Int) : (cutS z lo hi).length ≤ z.length := by
  have h : (cutS z lo hi).cps.toList.length ≤ z.cps.toList.length := by
    unfold cutS
    simp only [List.length_take, List.length_drop]
    omega
  rw [Array.length_toList, Array.length_toList] at h
  exact h
def spNear : Sp := fun vs H Q _ => ∃ p v x N, vs = [.ref p, v] ∧ BoxAt H p N ∧ N ≤ 700000 ∧ DV H v (dl x) ∧ LDr x ∧ LSm x ∧ ∀ u H', Pl u → u.length ≤ 115 → BoxAt H' p (N + 3) → Ext1 p H H' → Q (.str u) H'
section
variable {P : Program} {w : World} {K : PySem.W.Frag} {mg : Str → Option Value} {base : Heap}
theorem ok_l_near (T : Tx K mg) : FnG P w K mg base 3 T.d_l_near.f T.d_l_near.fd ["box", "line"] spNear := by
  refine okG0 T.d_l_near.F sc_l_near (fun vs H Q E h => ?_) (fun cdv A outer s H vs Q E hg hr h => ?_)
  · obtain ⟨p, v, x, N, rfl, _⟩ := h
    rfl
  obtain ⟨p, v, x, N, rfl, hp, hN, hv, hx, hs, k⟩ := h
  have sz : sizeLine = 16777216 := sizeLine_eq
  obtain ⟨h, n, c, t⟩ := x
  obtain ⟨a, rfl, ha⟩ := dv_line (h := h) (n := n) (c := c) (t := t) hv
  refine ⟨_, (pss_cons (ps_asg (pv 1) (pg_tup rfl (pgs_cons (pg_name (i := 2) sc_l_near.nd rfl (Or.inl rfl)) (pgs_cons (pg_name (i := 3) sc_l_near.nd rfl (Or.inl rfl)) (pgs_cons (pg_name (i := 4) sc_l_near.nd rfl (Or.inl rfl)) (pgs_cons (pg_name (i := 5) sc_l_near.nd rfl (Or.inl rfl)) pgs_nil))))))
    (pss_cons (ps_par (i := 6) (j := 7) rfl sc_l_near.nd rfl rfl (by decide) rfl rfl (pa_cons (pe_cG (ok_l_text T) T.d_l_text.b takes0 hg (hr.mono (by decide)) T.d_l_text.m T.d_l_text.F.kp (pa_cons (pv 1) pa_nil)) (pa_cons (pe_cG (ok_l_take T) T.d_l_take.b takes0 hg (hr.mono (by decide)) T.d_l_take.m T.d_l_take.F.kp (pa_cons (pv 0) (pa_cons pe_int pa_nil))) pa_nil)) (by rfl))
    (pss_cons (ps_if (pt_cmpR op_lt (pv 7) pe_int (nomark _))
      (pss_one (ps_ret (pe_ix ix_list (pe_lst1 (pa_cons (pe_op op_add_str pe_str (pv 6)) (pa_cons (pe_op op_add_str pe_str (pv 6)) (pa_cons (pe_bm0 PySem.F.plainAttrs_str PySem.F.slot_str_upper PySem.F.type_str_upper mt_upper (pv 6)) (pa_cons (pe_op op_add_str (pv 6) (pe_op op_mul_str pe_str pe_int)) pa_nil))))) (pv 7) (fun _ _ => rfl))))
      pss_nil)
    (pss_cons (ps_if (pt_cmpR op_lt (pv 7) pe_int (nomark _))
      (pss_cons (ps_set (i := 8) sc_l_near.nd rfl (Or.inl rfl) (pe_cG (ok_l_take T) T.d_l_take.b takes0 hg (hr.mono (by decide)) T.d_l_take.m T.d_l_take.F.kp (pa_cons (pv 0) (pa_cons (pe_callB call_len_str (by rfl) T.n_len (by decide +kernel) (pa_cons (pv 6) pa_nil)) pa_nil))))
      (pss_cons (ps_set (i := 9) sc_l_near.nd rfl (Or.inl rfl) (pe_ix ix_str pe_str (pe_cG (ok_l_take T) T.d_l_take.b takes0 hg (hr.mono (by decide)) T.d_l_take.m T.d_l_take.F.kp (pa_cons (pv 0) (pa_cons pe_int pa_nil))) (fun _ _ => rfl)))
      (pss_one (ps_ret (pe_ix ix_list (pe_lst1 (pa_cons (pe_op op_add_str (pe_slice sl_str (pv 6) po_none (po_some (pv 8))) (pe_slice sl_str (pv 6) (po_some (pe_op op_add (pv 8) pe_int)) po_none)) (pa_cons (pe_op op_add_str (pe_op op_add_str (pe_slice sl_str (pv 6) po_none (po_some (pv 8))) (pv 9)) (pe_slice sl_str (pv 6) (po_some (pe_op op_add (pv 8) pe_int)) po_none)) (pa_cons (pe_op op_add_str (pe_op op_add_str (pe_slice sl_str (pv 6) po_none (po_some (pv 8))) (pv 9)) (pe_slice sl_str (pv 6) (po_some (pv 8)) po_none)) (pa_cons (pe_slice sl_str (pv 6) po_none (po_some (pv 8))) pa_nil))))) (pe_op op_sub (pv 7) pe_int) (fun _ _ => rfl))))))
      pss_nil)
    (pss_one (ps_ret (pe_ix ix_list (pe_lst1 (pa_cons pe_str (pa_cons (pe_op op_add_str (pe_op op_add_str (pe_callTy call_str_int (by rfl) T.n_str (by decide +kernel) (pa_cons (pv 3) pa_nil)) pe_str) (pv 4)) (pa_cons pe_str (pa_cons pe_str pa_nil))))) (pe_op op_sub (pv 7) pe_int) (fun _ _ => rfl)))))))), ?_⟩
  walk_at "rd"
  refine r_unp (SqT.of ha) rfl ?_
  walk_at "rd"
  obtain ⟨w, hw⟩ : ∃ w, w = tl (h, n, c, t) := ⟨_, rfl⟩
  have pw : Pl w := by rw [hw]; exact hx.ok.text.1
  have lw : w.length ≤ 57 := by rw [hw]; exact LSm.tl hx hs
  refine ⟨_, _, rfl, hv, hx.ok, ?_⟩
  rw [← hw]
  have fin : ∀ (us : List Str) (i : Int) (q : Addr) (H' : Hp), 0 ≤ i → i < (us.length : Int) → H' q = none → BoxAt H' p (N + 3) → Ext1 p H H' → (∀ u ∈ us, Pl u ∧ u.length ≤ 115) → rIxL K (.ref q) (.int i) (upd H' q (.lst (us.map V.str))) Q := by
    intro us i q H' h0 h1 hq hb he ha
    obtain ⟨v, e, m⟩ := atI_mem (xs := us.map V.str) h0 (by rw [List.length_map]; exact h1)
    obtain ⟨u, hu, rfl⟩ := List.mem_map.mp m
    refine r_ixL (.of upd_same) e ?_
    exact k u _ (ha u hu).1 (ha u hu).2 (hb.mono (Same.new hq)) (he.trans fun b o _ hb => Same.new hq b o hb)
  refine ⟨p, 12, N, rfl, hp, by omega, by decide, by decide, fun d H1 d0 d1 hp1 e1 => ?_⟩
  walk_at "rd"
  by_cases d4 : d < 4
  · rw [if_pos d4]
    have z0 : (Str.ofString "0").length = 1 := by decide +kernel
    have p0 : Pl (Str.ofString "0") := pl_of (by decide +kernel)
    have pd : Pl (Str.ofString ".") := pl_of (by decide +kernel)
    have l1 := sp_len
    have ml := mul_len (Str.ofString ".") 41
    have dt := dot_len
    rw [dt] at ml
    have ml' : (Txt.mul (Str.ofString ".") 41).length ≤ 41 := by simpa using ml
    refine ⟨by omega, by omega, rfl, by omega, mulOk_of (by decide) (by decide) (by omega), by omega, by decide, fun q hq nq => ?_⟩
    refine fin [Str.ofString "0" ++ w, Str.ofString " " ++ w, Txt.upper w, w ++ Txt.mul (Str.ofString ".") 41] d q H1 d0 d4 hq (hp1.le (by omega)) e1 ?_
    intro u hu
    have : u = Str.ofString "0" ++ w ∨ u = Str.ofString " " ++ w ∨ u = Txt.upper w ∨ u = w ++ Txt.mul (Str.ofString ".") 41 := by simpa using hu
    rcases this with rfl | rfl | rfl | rfl
    · exact ⟨p0.app pw, by rw [append_len]; omega⟩
    · exact ⟨pl_sp.app pw, by rw [append_len]; omega⟩
    · exact ⟨(upper_ok pw).1, by rw [(upper_ok pw).2]; omega⟩
    · exact ⟨pw.app (pd.mul _), by rw [append_len]; omega⟩
  rw [if_neg d4]
  by_cases d8 : d < 8
  · rw [if_pos d8]
    have w0 : 0 < w.length := by
      rw [hw]
      unfold K06.tl lineT
      have l := sp_len
      rw [append_len, append_len, append_len, append_len, append_len, append_len, append_len]
      omega
    refine ⟨by omega, p, _, _, rfl, hp1, by omega, by omega, by omega, fun at_ H2 t0 t1 hp2 e2 => ?_⟩
    try dsimp only
    refine ⟨p, 6, _, rfl, hp2, by omega, by decide, by decide, fun d6 H3 s0 s1 hp3 e3 => ?_⟩
    obtain ⟨B, hB⟩ : ∃ B, Str.ofString " 0aZ-+" = B := ⟨_, rfl⟩
    have bl : B.cps.toList.length = 6 := by rw [← hB]; decide +kernel
    have bl2 : B.length = 6 := by rw [← hB]; decide +kernel
    have bp : Pl B := by rw [← hB]; exact pl_of (by decide +kernel)
    obtain ⟨x, hx1, hx2⟩ := atI_mem (xs := B.cps.toList) s0 (by rw [bl]; omega)
    have px : Pl ⟨#[x]⟩ := Pl.one (bp x hx2)
    have lx : (⟨#[x]⟩ : Str).length = 1 := rfl
    try dsimp only
    rw [hB]
    refine ⟨B, _, x, rfl, rfl, by omega, hx1, ?_⟩
    walk_at "rd"
    have q1 := cutS_le w none (some at_)
    have q2 := cutS_le w (some (at_ + 1)) none
    have q3 := cutS_le w (some at_) none
    refine ⟨by omega, by omega, by omega, by omega, by omega, by omega, by rw [append_len]; omega, by omega, by omega, by omega, by rw [append_len]; omega, by omega, by decide, fun q hq nq => ?_⟩
    refine fin [cutS w none (some at_) ++ cutS w (some (at_ + 1)) none, cutS w none (some at_) ++ ⟨#[x]⟩ ++ cutS w (some (at_ + 1)) none, cutS w none (some at_) ++ ⟨#[x]⟩ ++ cutS w (some at_) none, cutS w none (some at_)] (d - 4) q H3 (by omega) (by show d - 4 < 4; omega) hq (hp3.le (by omega)) ((e1.trans e2).trans e3) ?_
    intro u hu
    have : u = cutS w none (some at_) ++ cutS w (some (at_ + 1)) none ∨ u = cutS w none (some at_) ++ ⟨#[x]⟩ ++ cutS w (some (at_ + 1)) none ∨ u = cutS w none (some at_) ++ ⟨#[x]⟩ ++ cutS w (some at_) none ∨ u = cutS w none (some at_) := by simpa using hu
    have r1 := pw.cut none (some at_)
    have r2 := pw.cut (some (at_ + 1)) none
    have r3 := pw.cut (some at_) none
    rcases this with rfl | rfl | rfl | rfl
    · exact ⟨r1.app r2, by rw [append_len]; omega⟩
    · exact ⟨(r1.app px).app r2, by rw [append_len, append_len]; omega⟩
    · exact ⟨(r1.app px).app r3, by rw [append_len, append_len]; omega⟩
    · exact ⟨r1, by omega⟩
  · rw [if_neg d8]
    have z1 : (Str.ofString " 0 ").length = 3 := by decide +kernel
    have p1 : Pl (Str.ofString " 0 ") := pl_of (by decide +kernel)
    obtain ⟨h1, h2, h3, h4, h5⟩ := hx.ok.cases
    try dsimp only at h2 h3
    have c3 := celS_low h3
    have n3 := num3 h2 hs.2
    try dsimp only at n3
    refine ⟨by have := hs.2; dsimp only at this; exact small_log (by omega), by omega, by rw [append_len]; omega, by decide, fun q hq nq => ?_⟩
    refine fin [Str.ofString "", Str.ofString (toString n) ++ Str.ofString " 0 " ++ c, Str.ofString "0 00 a b", Str.ofString "0  0 a b"] (d - 8) q H1 (by omega) (by show d - 8 < 4; omega) hq (hp1.le (by omega)) e1 ?_
    intro u hu
    have : u = Str.ofString "" ∨ u = Str.ofString (toString n) ++ Str.ofString " 0 " ++ c ∨ u = Str.ofString "0 00 a b" ∨ u = Str.ofString "0  0 a b" := by simpa using hu
    rcases this with rfl | rfl | rfl | rfl
    · exact ⟨Pl.empty, by decide +kernel⟩
    · exact ⟨((pl_int h2).app p1).app (fun d hd => low_pc (c3.2.2 d hd)), by rw [append_len, append_len]; omega⟩
    · exact ⟨pl_of (by decide +kernel), by decide +kernel⟩
    · exact ⟨pl_of (by decide +kernel), by decide +kernel⟩
theorem fig_own {l : List Nat} (h : l.length ≤ 115) : Fig 120 (Fr.frm l) := Fig.len (by rw [Fr.frm_len]; omega)
theorem fig_row : ∀ {ts : List (List Nat)}, (∀ t ∈ ts, Fig 120 (Fr.frm t)) → Fig 120 (Fr.row ts)
  | [], _ => Fig.nil 120
  | t :: r, h => by
    have e : Fr.row (t :: r) = (Fr.pad t.length ++ t) ++ 46 :: Fr.row r := by simp [Fr.row, Fr.frm]
    rw [e]
    refine Fig.part ?_ (fig_row fun y hy => h y (by simp [hy])) rfl
    refine (h t (by simp)).sub ⟨[], [46], ?_⟩
    simp [Fr.frm]
theorem file_small : ∀ {ls : List L4}, (∀ x ∈ ls, LDr x ∧ LSm x) → (fileL ls).length ≤ 62 * ls.length
  | [], _ => by simp [fileL, Fr.row]
  | x :: r, h => by
    have e : fileL (x :: r) = Fr.frm (sg (tl x)) ++ fileL r := by simp [fileL, Fr.row]
    have h1 := LSm.tl (h x (by simp)).1 (h x (by simp)).2
    have := file_small (ls := r) fun y hy => h y (List.mem_cons_of_mem _ hy)
    rw [e, List.length_append, Fr.frm_len, sg_len, List.length_cons]
    omega
theorem frT_pl {u : Str} (h : Pl u) : Pl (frT u) := by
  refine Pl.tx fun c hc => ?_
  have hc : c ∈ Fr.pad (sg u).length ++ sg u ++ [46] := hc
  rcases List.mem_append.mp hc with hc | hc
  · rcases List.mem_append.mp hc with hc | hc
    · exact dig_pc (List.all_eq_true.mp (Fr.pad_dig _) c hc)
    · exact h c hc
  · have : c = 46 := by simpa using hc
    rw [this]
    rfl
def spHand : Sp := fun vs H Q _ => ∃ p N, vs = [.ref p] ∧ BoxAt H p N ∧ N ≤ 600000 ∧ ∀ u H', Pl u → Fig 120 (sg u) → u.length ≤ 400 → BoxAt H' p (N + 160) → Ext1 p H H' → Q (.str u) H'
theorem ok_l_by_hand (T : Tx K mg) : FnG P w K mg base 4 T.d_l_by_hand.f T.d_l_by_hand.fd ["box"] spHand := by
  refine okG0 T.d_l_by_hand.F sc_l_by_hand (fun vs H Q E h => ?_) (fun cdv A outer s H vs Q E hg hr h => ?_)
  · obtain ⟨p, N, rfl, _⟩ := h
    rfl
  obtain ⟨p, N, rfl, hp, hN, k⟩ := h
  have sz : sizeLine = 16777216 := sizeLine_eq
  refine ⟨_, (pss_cons (ps_set (i := 1) sc_l_by_hand.nd rfl (Or.inl rfl) (pe_cG (ok_l_file T) T.d_l_file.b takes0 hg (hr.mono (by decide)) T.d_l_file.m T.d_l_file.F.kp (pa_cons (pe_lc (own := [("turn", 2)]) (g := gName 2) (tt := tYes) rfl sc_l_by_hand.nd (pi_range1 (by rfl) T.n_range (pa_cons (pe_cG (ok_l_take T) T.d_l_take.b takes0 hg (hr.mono (by decide)) T.d_l_take.m T.d_l_take.F.kp (pa_cons (pv 0) (pa_cons pe_int pa_nil))) pa_nil)) (blkOk_by (N := ["box", "found", "turn"]) (sc := defScope s_l_by_hand) (by decide +kernel)) (fun _ _ _ _ _ => pg_name (i := 2) sc_l_by_hand.nd rfl (Or.inl rfl)) (fun _ _ _ _ _ => pts_nil) (fun _ _ _ _ _ => (pe_cG (ok_l_line T) T.d_l_line.b takes0 hg (hr.mono (by decide)) T.d_l_line.m T.d_l_line.F.kp (pa_cons (pv 0) (pa_cons pe_int pa_nil))))) pa_nil)))
    (pss_cons (ps_if (pt_cmpR op_gt (pe_cG (ok_l_take T) T.d_l_take.b takes0 hg (hr.mono (by decide)) T.d_l_take.m T.d_l_take.F.kp (pa_cons (pv 0) (pa_cons pe_int pa_nil))) pe_int (nomark _))
      (pss_one (ps_set (i := 1) sc_l_by_hand.nd rfl (Or.inl rfl) (pe_op op_add_str (pe_op op_add_str (pv 1) (pe_cG (ok_l_frame T) T.d_l_frame.b takes0 hg (hr.mono (by decide)) T.d_l_frame.m T.d_l_frame.F.kp (pa_cons (pe_cG (ok_l_near T) T.d_l_near.b takes0 hg (hr.mono (by decide)) T.d_l_near.m T.d_l_near.F.kp (pa_cons (pv 0) (pa_cons (pe_cG (ok_l_line T) T.d_l_line.b takes0 hg (hr.mono (by decide)) T.d_l_line.m T.d_l_line.F.kp (pa_cons (pv 0) (pa_cons pe_int pa_nil))) pa_nil))) pa_nil))) (pe_cG (ok_l_file T) T.d_l_file.b takes0 hg (hr.mono (by decide)) T.d_l_file.m T.d_l_file.F.kp (pa_cons (pe_lst1 (pa_cons (pe_cG (ok_l_line T) T.d_l_line.b takes0 hg (hr.mono (by decide)) T.d_l_line.m T.d_l_line.F.kp (pa_cons (pv 0) (pa_cons pe_int pa_nil))) pa_nil)) pa_nil)))))
      pss_nil)
    (pss_one (ps_ret (pe_ifExp (pt_cmpR op_eq (pe_cG (ok_l_take T) T.d_l_take.b takes0 hg (hr.mono (by decide)) T.d_l_take.m T.d_l_take.F.kp (pa_cons (pv 0) (pa_cons pe_int pa_nil))) pe_int (nomark _)) (pe_slice sl_str (pv 1) po_none (po_some (pe_cG (ok_l_take T) T.d_l_take.b takes0 hg (hr.mono (by decide)) T.d_l_take.m T.d_l_take.F.kp (pa_cons (pv 0) (pa_cons (pe_op op_add (pe_callB call_len_str (by rfl) T.n_len (by decide +kernel) (pa_cons (pv 1) pa_nil)) pe_int) pa_nil))))) (pv 1)))))), ?_⟩
  walk_at "rd"
  have fin : ∀ (u : Str) (H1 : Hp) (N1 : Nat), Pl u → Fig 120 (sg u) → u.length ≤ 400 → BoxAt H1 p N1 → N1 ≤ N + 158 → Ext1 p H H1 →
      spTake [V.ref p, V.int 3] H1 (fun x7 H1 => scal x7 (V.int 0) = true ∧ if x7 = V.int 0 then u.length ≤ sizeLine ∧ spTake [V.ref p, V.int ((u.length : Int) + 1)] H1 (fun x8 H1 => ∃ i1, x8 = V.int i1 ∧ u.length ≤ sizeLine ∧ Q (V.str (cutS u none (some i1))) H1) (fun _ _ _ => False) else Q (V.str u) H1) (fun _ _ _ => False) := by
    intro u H1 N1 pu fu lu hp1 hN1 e1
    refine ⟨p, 3, N1, rfl, hp1, by omega, by decide, by decide, fun d H2 d0 d1 hp2 e2 => ⟨rfl, ?_⟩⟩
    split
    · refine ⟨by omega, p, _, _, rfl, hp2, by omega, by omega, by omega, fun d3 H3 d30 d31 hp3 e3 => ⟨d3, rfl, by omega, ?_⟩⟩
      obtain ⟨j, rfl⟩ : ∃ j : Nat, d3 = (j : Int) := ⟨d3.toNat, by omega⟩
      refine k _ _ (pu.cut _ _) ?_ ?_ (hp3.le (by omega)) ((e1.trans e2).trans e3)
      · rw [cut_to]
        exact fu.sub (List.take_prefix _ _).isInfix
      · have := cutS_le u none (some (j : Int))
        omega
    · exact k _ _ pu fu lu (hp2.le (by omega)) (e1.trans e2)
  refine ⟨_, rfl, p, 3, N, rfl, hp, by omega, by decide, by decide, fun m H1 m0 m1 hp1 e1 => ?_⟩
  obtain ⟨mn, rfl⟩ : ∃ j : Nat, m = (j : Int) := ⟨m.toNat, by omega⟩
  refine ⟨_, rfl, by omega, by omega, fun D hD => ?_⟩
  have nD : D ≠ p := box_ne hp1 hD
  have HD : H D = none := ext_none (box_some hp) e1 hD nD
  refine lc_range (lo := 0) (n := (mn : Int).toNat) (fun i H' => ∃ (us : List V) (ms : List L4), ms.length = i ∧ (∀ x ∈ ms, LDr x ∧ LSm x) ∧ H' D = some (.lst us) ∧ DVs H' us (ms.map dl) ∧ BoxAt H' p (N + 1 + 30 * i) ∧ Ext1 p H H')
    ⟨[], [], rfl, (by simp), upd_same, .nil, box_upd hp1 nD, ext_upd e1 HD⟩ ?_ ?_
  · rintro i H2 hi ⟨us, ms, lm, okm, fD, du, hp2, x2⟩
    refine ⟨rfl, ?_⟩
    walk_at "rd"
    refine ⟨p, 500, _, rfl, hp2, by omega, fun y a H3 oy sy na da hp3 x3 => ?_⟩
    have f3 := x3 _ _ nD fD
    have lu := du.len
    rw [List.length_map] at lu
    have naD : a ≠ D := fun q => by
      rw [q, fD] at na
      cases na
    have d3 : DVs H3 us (ms.map dl) := dls_box hp2 x3 du
    have kp : ∀ b o, b ≠ D → H3 b = some o → upd H3 D (.lst (us ++ [V.ref a])) b = some o := fun b o nb hb => by rw [upd_ne nb]; exact hb
    refine ⟨us, f3, by omega, _, ms ++ [y], by simp [lm], ?_, rfl, ?_, box_upd (hp3.le (by omega)) nD, ext_upd (x2.trans x3) HD⟩
    · intro x hx
      rcases List.mem_append.mp hx with hx | hx
      · exact okm x hx
      · have : x = y := by simpa using hx
        rw [this]
        exact ⟨oy, sy (by decide)⟩
    · rw [List.map_append]
      have z : DVs H3 [V.ref a] ([y].map dl) := .cons da .nil
      exact dvs_app (dls_keep ⟨_, f3⟩ kp d3) (dls_keep ⟨_, f3⟩ kp z)
  · rintro H2 ⟨us, ms, lm, okm, fD, du, hp2, x2⟩
    have mN : ms.length ≤ 2 := by omega
    have okm' : ∀ x ∈ ms, LOk x := fun x hx => (okm x hx).1.ok
    have fs := file_small okm
    have pf : Pl (tx (fileL ms)) := Pl.tx (file_pl okm')
    have lf : (tx (fileL ms)).length ≤ 124 := by rw [tx_len]; omega
    refine ⟨D, us, ms, rfl, fD, du, okm', by omega, fun H3 S3 => ?_⟩
    dsimp only
    refine ⟨p, 3, _, rfl, hp2.mono S3, by omega, by decide, by decide, fun d H4 d0 d1 hp4 e4 => ?_⟩
    have x4 : Ext1 p H H4 := (x2.trans fun b o _ hb => S3 b o hb).trans e4
    walk_at "rd"
    by_cases hd : 0 < d
    · rw [if_pos hd]
      refine ⟨p, 500, _, rfl, hp4, by omega, fun y a H5 oy sy na da hp5 e5 => ?_⟩
      dsimp only
      refine ⟨p, _, y, _, rfl, hp5, by omega, da, oy, sy (by decide), fun u H6 pu lu hp6 e6 => ?_⟩
      dsimp only
      refine ⟨u, rfl, by omega, ?_⟩
      have lfr : (frT u).length = u.length + 5 := by
        unfold frT
        rw [tx_len, Fr.frm_len, sg_len]
      refine ⟨_, rfl, by omega, ?_⟩
      refine ⟨p, 500, _, rfl, hp6, by omega, fun y2 a2 H7 oy2 sy2 na2 da2 hp7 e7 => ?_⟩
      refine ⟨by decide, fun q hq nq => ?_⟩
      have kq : ∀ b o, H7 b = some o → upd H7 q (.lst [.ref a2]) b = some o := Same.new hq
      have okk : ∀ x ∈ [y2], LOk x := fun x hx => by
        have : x = y2 := by simpa using hx
        rw [this]
        exact oy2.ok
      refine ⟨q, _, [y2], rfl, upd_same, .cons (da2.mono kq) .nil, okk, by simp, fun H8 S8 => ?_⟩
      have fs2 := file_small (ls := [y2]) (fun x hx => by
        have : x = y2 := by simpa using hx
        rw [this]
        exact ⟨oy2, sy2 (by decide)⟩)
      have l2 : (tx (fileL [y2])).length ≤ 62 := by rw [tx_len]; simpa using fs2
      refine ⟨_, rfl, by rw [append_len]; omega, ?_⟩
      refine fin _ H8 _ ?_ ?_ ?_ ((hp7.mono kq).mono S8) (by omega) ?_
      · exact (pf.app (frT_pl pu)).app (Pl.tx (file_pl okk))
      · have er : sg (tx (fileL ms) ++ frT u ++ tx (fileL [y2])) = Fr.row (ms.map (fun x => sg (tl x)) ++ [sg u] ++ [sg (tl y2)]) := by
          rw [sg_app, sg_app, sg_tx, sg_tx, row_app, row_app]
          unfold frT
          rw [sg_tx]
          simp [fileL, Fr.row]
        rw [er]
        refine fig_row fun t ht => ?_
        rcases List.mem_append.mp ht with ht | ht
        · rcases List.mem_append.mp ht with ht | ht
          · obtain ⟨x, hx, rfl⟩ := List.mem_map.mp ht
            exact (okm x hx).1.lf.fr
          · have : t = sg u := by simpa using ht
            rw [this]
            exact fig_own (by rw [sg_len]; omega)
        · have : t = sg (tl y2) := by simpa using ht
          rw [this]
          exact oy2.lf.fr
      · rw [append_len, append_len]; omega
      · exact (((x4.trans e5).trans e6).trans e7).trans fun b o _ hb => S8 _ _ (kq _ _ hb)
    · rw [if_neg hd]
      refine fin _ H4 _ pf ?_ (by omega) hp4 (by omega) x4
      rw [sg_tx]
      exact fig_file fun x hx => (okm x hx).1.lf.fr
end
end K06


namespace K06
open PySem L2 Nv

/-! what is told, compared and shown -/
structure Gd (D : Nat) (d : PyData) : Prop where
  c : d.canLay0 = true
  s : d.leavesShort 130 = true
  h : d.showable = true
  p : d.depth ≤ D
structure Gds (D : Nat) (ds : List PyData) : Prop where
  c : PyData.canLayAll0 ds = true
  s : PyData.leavesShortAll 130 ds = true
  h : PyData.showableAll ds = true
  p : PyData.depthAll ds ≤ D
theorem Gd.int {D : Nat} {i : Int} (h : -(10 ^ 120) ≤ i ∧ i ≤ 10 ^ 120) : Gd D (.int i) := by
  refine ⟨rfl, ?_, ?_, Nat.zero_le _⟩
  · have h1 := int_len h
    have h2 : (PyData.shown (.int i)).length ≤ 130 := by
      simp only [PyData.shown]
      omega
    simpa only [PyData.leavesShort, decide_eq_true_eq] using h2
  · have := log120 h
    simp only [PyData.showable, decide_eq_true_eq]
    omega
theorem Gd.str {D : Nat} {z : Str} (a : Asc z) : Gd D (.str z) := by
  refine ⟨(Ft.str (D := 0) a).c, ?_, rfl, Nat.zero_le _⟩
  simp only [PyData.leavesShort, List.all_eq_true, decide_eq_true_eq]
  exact fun c hc => Nat.lt_of_lt_of_le (a c hc) (by decide)
theorem Gds.nil {D : Nat} : Gds D [] := ⟨rfl, rfl, rfl, Nat.zero_le _⟩
theorem Gds.cons {D : Nat} {d : PyData} {ds : List PyData} (a : Gd D d) (b : Gds D ds) : Gds D (d :: ds) := by
  refine ⟨?_, ?_, ?_, ?_⟩
  · simp only [PyData.canLayAll0, a.c, b.c, Bool.and_self]
  · simp only [PyData.leavesShortAll, a.s, b.s, Bool.and_self]
  · simp only [PyData.showableAll, a.h, b.h, Bool.and_self]
  · have := a.p
    have := b.p
    simp only [PyData.depthAll]
    omega
theorem Gd.tuple {D : Nat} {ds : List PyData} (a : Gds D ds) : Gd (D + 1) (.tuple ds) := by
  refine ⟨?_, ?_, ?_, ?_⟩
  · simpa only [PyData.canLay0] using a.c
  · simpa only [PyData.leavesShort] using a.s
  · simpa only [PyData.showable] using a.h
  · have := a.p
    simp only [PyData.depth]
    omega
theorem Gd.list {D : Nat} {ds : List PyData} (a : Gds D ds) : Gd (D + 1) (.list ds) := by
  refine ⟨?_, ?_, ?_, ?_⟩
  · simpa only [PyData.canLay0] using a.c
  · simpa only [PyData.leavesShort] using a.s
  · simpa only [PyData.showable] using a.h
  · have := a.p
    simp only [PyData.depth]
    omega
theorem Gd.fx {D : Nat} {d : PyData} (a : Gd D d) (hD : D ≤ 50) (hw : d.weight ≤ 127000) : Fx d := by
  refine ⟨a.c, Nat.le_trans a.p hD, a.h, ?_⟩
  have h1 := PyData.shown_le 130 (by decide) d a.s
  have e : sizeLine = 16777216 := sizeLine_eq
  omega
theorem LOk.gd {x : L4} (h : LOk x) : Gd 1 (dl x) := by
  obtain ⟨b1, b2⟩ := h.bounds
  obtain ⟨a1, a2⟩ := h.asc
  exact .tuple (.cons (.int b1) (.cons (.int b2) (.cons (.str a1) (.cons (.str a2) .nil))))
theorem gds_lines {ls : List L4} (h : ∀ x ∈ ls, LOk x) : Gds 1 (ls.map dl) := by
  induction ls with
  | nil => exact .nil
  | cons x r ih => exact .cons (h x (by simp)).gd (ih fun y hy => h y (by simp [hy]))
/-- how heavy lines are -/
def lw (ls : List L4) : Nat := PyData.weightAll (ls.map dl)
theorem lw_app : ∀ a b : List L4, lw (a ++ b) = lw a + lw b
  | [], b => by simp [lw, PyData.weightAll]
  | x :: r, b => by
    have := lw_app r b
    simp only [lw, List.cons_append, List.map_cons, PyData.weightAll] at this ⊢
    omega
theorem w_int {i : Int} : (PyData.int i).weight ≤ i.natAbs.log2 + 1 := by
  simp only [PyData.weight]
  split <;> omega
theorem lw_cons (x : L4) (r : List L4) : lw (x :: r) ≤ x.1.natAbs.log2 + x.2.1.natAbs.log2 + x.2.2.1.length + x.2.2.2.length + 20 + lw r := by
  have h1 := w_int (i := x.1)
  have h2 := w_int (i := x.2.1)
  simp only [lw, List.map_cons, PyData.weightAll, dl, lineD, PyData.weight] at h1 h2 ⊢
  have e1 : x.2.2.1.length = x.2.2.1.cps.size := rfl
  have e2 : x.2.2.2.length = x.2.2.2.cps.size := rfl
  omega
theorem log2_num (n : Nat) : n.log2 ≤ 4 * (TL.numL n).length := by
  induction n using Nat.strongRecOn with
  | _ n ih =>
    by_cases h : n < 10
    · have l := List.length_pos_iff.mpr (TL.numL_ne n)
      have : n.log2 < 4 := by
        by_cases h0 : n = 0
        · rw [h0]; decide
        · rw [Nat.log2_lt h0]; omega
      omega
    · have ih1 := ih (n / 10) (by omega)
      have e : (TL.numL n).length = (TL.numL (n / 10)).length + 1 := by
        rw [TL.numL_step (by omega), List.length_append]
        rfl
      have l10 : n / 10 < 2 ^ ((n / 10).log2 + 1) := (Nat.log2_lt (by omega)).mp (by omega)
      have : n.log2 < (n / 10).log2 + 5 := by
        rw [Nat.log2_lt (by omega)]
        have : 2 ^ ((n / 10).log2 + 5) = 16 * 2 ^ ((n / 10).log2 + 1) := by
          rw [show (n / 10).log2 + 5 = 4 + ((n / 10).log2 + 1) from by omega, Nat.pow_add]
        omega
      omega
theorem log2_int {i : Int} (h : 0 ≤ i) : i.natAbs.log2 ≤ 4 * (Str.ofString (toString i)).length := by
  obtain ⟨n, rfl⟩ : ∃ n : Nat, i = (n : Int) := ⟨i.toNat, by omega⟩
  have := sg_len (Str.ofString (toString (n : Int)))
  rw [nat_sg] at this
  have l := log2_num n
  rw [Int.natAbs_natCast]
  omega
theorem lw_file : ∀ {ls : List L4}, (∀ x ∈ ls, LOk x) → lw ls ≤ 4 * (fileL ls).length
  | [], _ => by simp [lw, PyData.weightAll]
  | x :: r, h => by
    have ih := lw_file (ls := r) fun y hy => h y (List.mem_cons_of_mem _ hy)
    have e : fileL (x :: r) = Fr.frm (sg (tl x)) ++ fileL r := by simp [fileL, Fr.row]
    obtain ⟨h1, h2, h3, h4, h5⟩ := (h x (by simp)).cases
    have a := log2_int h1
    have b := log2_int h2
    have c := lw_cons x r
    have l1 := sp_len
    have l0 : Str.empty.length = 0 := rfl
    have t : (tl x).length = (Str.ofString (toString x.1)).length + (Str.ofString (toString x.2.1)).length + x.2.2.1.length + x.2.2.2.length + 3 := by
      unfold tl lineT
      rw [append_len, append_len, append_len, append_len, append_len, append_len, append_len]
      omega
    rw [e, List.length_append, Fr.frm_len, sg_len]
    omega
theorem lw_small : ∀ {ls : List L4}, (∀ x ∈ ls, LDr x ∧ LSm x) → lw ls ≤ 90 * ls.length
  | [], _ => by simp [lw, PyData.weightAll]
  | x :: r, h => by
    have ih := lw_small (ls := r) fun y hy => h y (List.mem_cons_of_mem _ hy)
    obtain ⟨h1, h2, h3, h4, h5⟩ := (h x (by simp)).1.ok.cases
    obtain ⟨s1, s2⟩ := (h x (by simp)).2
    have c3 := celS_low h3
    have c := lw_cons x r
    have a : x.1.natAbs.log2 < 9 := by
      by_cases h0 : x.1.natAbs = 0
      · rw [h0]; decide
      · rw [Nat.log2_lt h0]; omega
    have b : x.2.1.natAbs.log2 < 9 := by
      by_cases h0 : x.2.1.natAbs = 0
      · rw [h0]; decide
      · rw [Nat.log2_lt h0]; omega
    rw [List.length_cons]
    omega
end K06


namespace K06
open PySem L2 Nv

/-- the law's state: lines and file -/
structure StAt (H : Hp) (st L : Addr) (ls : List L4) (z : Str) : Prop where
  st : H st = some (.lst [.ref L, .str z])
  it : ∃ ws, H L = some (.lst ws) ∧ DVs H ws (ls.map dl)
theorem StAt.mono {H H' : Hp} {st L : Addr} {ls : List L4} {z : Str} (h : StAt H st L ls z) (e : Same H H') : StAt H' st L ls z := by
  obtain ⟨a, ws, b, c⟩ := h
  exact ⟨e _ _ a, ws, e _ _ b, c.mono e⟩
/-- a house's disk, log and state are as one -/
structure Whole (CL CD : Addr) (H : Hp) (d g l st L : Addr) (ls : List L4) : Prop where
  dk : DiskAt CD H d (tx (fileL ls)) ((tx (fileL ls)).length : Int)
  lg : LogAt CL H g d l ls
  sa : StAt H st L ls (tx (fileL ls))
theorem Whole.mono {CL CD : Addr} {H H' : Hp} {d g l st L : Addr} {ls : List L4} (h : Whole CL CD H d g l st L ls) (e : Same H H') : Whole CL CD H' d g l st L ls :=
  ⟨h.dk.mono e, h.lg.mono e, h.sa.mono e⟩
def spIs (CL CD : Addr) : Sp := fun vs H Q _ => ∃ (d g l st L : Addr) (ls : List L4), vs = [.ref d, .ref g, .ref st] ∧ Whole CL CD H d g l st L ls ∧ (∀ x ∈ ls, LOk x) ∧ lw ls + 2 * (fileL ls).length ≤ 126000 ∧
  ∀ H', Same H H' → Q (.bl true) H'
theorem log_le {i : Int} (h0 : 0 ≤ i) (h : i ≤ 1000000) : i.natAbs.log2 ≤ 30 := by
  by_cases e : i.natAbs = 0
  · rw [e]; decide
  · have : i.natAbs.log2 < 31 := by
      rw [Nat.log2_lt e]
      omega
    omega
theorem r_unl {K : PySem.W.Frag} {n : Nat} {t : TGs} {a : Addr} {xs : List V} {σ : L2.St} {H : Hp} {Q} (h : SqL K H a xs) (e : xs.length = n) (q : t xs σ H Q) : gLst K n t (.ref a) σ H Q := ⟨a, xs, rfl, h, e, q⟩
section
variable {P : Program} {w : World} {K : PySem.W.Frag} {mg : Str → Option Value} {base : Heap}
theorem ok_l_is (T : Tx K mg) : FnG P w K mg base 3 T.d_l_is.f T.d_l_is.fd ["disk", "log", "state"] (spIs T.C_Log T.C_Disk) := by
  refine okG0 T.d_l_is.F sc_l_is (fun vs H Q E h => ?_) (fun cdv A outer s H vs Q E hg hr h => ?_)
  · obtain ⟨d, g, l, st, L, ls, rfl, _⟩ := h
    rfl
  obtain ⟨d, g, l, st, L, ls, rfl, hw, ok, wt, k⟩ := h
  have sz : sizeLine = 16777216 := sizeLine_eq
  have hr1 : Room 2 (A.deeper (PyProof.Rows.envOfC "_law_is" (defScope s_l_is) s.heap.objs.size T.d_l_is.f cdv)) := hr.mono (by decide)
  refine ⟨_, (pss_cons (ps_asg (pv 2) (pg_lst rfl (pgs_cons (pg_name (i := 3) sc_l_is.nd rfl (Or.inl rfl)) (pgs_cons (pg_name (i := 4) sc_l_is.nd rfl (Or.inl rfl)) pgs_nil))))
    (pss_cons (ps_par (i := 5) (j := 6) rfl sc_l_is.nd rfl rfl (by decide) rfl rfl (pa_cons (pe_lst1 (pa_cons (pe_prop (pv 1) T.cl_Log T.p_lines.po (okp_lines T) hr1 T.p_lines.bi .nil pass0 rfl) (pa_cons (pe_callB (call_lenO (ok_Log___len__ T) T.d_Log___len__.b hg (hr.mono (by decide)) T.d_Log___len__.me.at_ (beq_iff_eq.mp T.d_Log___len__.me.fn)) (by rfl) T.n_len (by decide +kernel) (pa_cons (pv 1) pa_nil)) (pa_cons (pe_prop (pv 0) T.cl_Disk T.p_text.po (okp_text T) hr1 T.p_text.bi .nil pass0 rfl) (pa_cons (pe_prop (pv 0) T.cl_Disk T.p_synced.po (okp_synced T) hr1 T.p_synced.bi .nil pass0 rfl) (pa_cons (pe_prop (pe_fld (pv 1) rfl) T.cl_Disk T.p_text.po (okp_text T) hr1 T.p_text.bi .nil pass0 rfl) pa_nil)))))) (pa_cons (pe_lst1 (pa_cons (pe_callTy call_tuple_of (by rfl) T.n_tuple (by decide +kernel) (pa_cons (pv 3) pa_nil)) (pa_cons (pe_callB call_len_seq (by rfl) T.n_len (by decide +kernel) (pa_cons (pv 3) pa_nil)) (pa_cons (pv 4) (pa_cons (pe_callB call_len_str (by rfl) T.n_len (by decide +kernel) (pa_cons (pv 4) pa_nil)) (pa_cons (pv 4) pa_nil)))))) pa_nil)) (by rfl))
    (pss_one (ps_ret (pe_and (pe_cmpR (op_eqD hr.units) (pv 5) (pv 6) (nomark _)) (pe_one (pe_cmpR op_eq (pe_callB (call_reprD hg hr.units) (by rfl) T.n_repr (by decide +kernel) (pa_cons (pv 5) pa_nil)) (pe_callB (call_reprD hg hr.units) (by rfl) T.n_repr (by decide +kernel) (pa_cons (pv 6) pa_nil)) (nomark _)))))))), ?_⟩
  walk_at "rd"
  refine r_unl (.of hw.sa.st) rfl ?_
  walk_at "rd"
  obtain ⟨dxg, hgo⟩ := hw.lg.ob
  obtain ⟨dxd, hdo⟩ := hw.dk
  have l5 := file_len5 ls
  have lz : (tx (fileL ls)).length = (fileL ls).length := tx_len _
  obtain ⟨z, hz⟩ : ∃ z, tx (fileL ls) = z := ⟨_, rfl⟩
  have pz : Pl z := by rw [← hz]; exact Pl.tx (file_pl ok)
  rw [hz] at lz hdo ⊢
  refine r_prp hgo ⟨g, d, l, ls, rfl, hw.lg, by omega, fun t ws H1 ht S1 ft dt => ?_⟩
  have w1 := hw.mono S1
  refine ⟨g, dxg, _, rfl, S1 _ _ hgo, g, d, l, ls, rfl, w1.lg, _, rfl, by omega, by omega, ?_⟩
  have dk1 := w1.dk
  rw [hz] at dk1
  refine r_prp (S1 _ _ hdo) ⟨d, z, _, rfl, dk1, ?_⟩
  refine r_prp (S1 _ _ hdo) ⟨d, z, _, rfl, dk1, ?_⟩
  refine r_disk T w1.lg ?_
  refine r_prp (S1 _ _ hdo) ⟨d, z, _, rfl, dk1, ?_⟩
  refine ⟨by decide, fun p hp np => ?_⟩
  obtain ⟨H2, e2, S2, f2⟩ := gen_new (.lst [V.ref t, V.int (ls.length : Int), V.str z, V.int (z.length : Int), V.str z]) hp
  simp only [e2]
  obtain ⟨xs, hL, dL⟩ := (w1.mono S2).sa.it
  have lx := dL.len
  rw [List.length_map] at lx
  refine ⟨xs, .inl ⟨.of hL, fun u hu => ?_⟩⟩
  obtain ⟨H3, e3, S3, f3⟩ := gen_new (.tup xs) hu
  simp only [e3]
  refine ⟨xs, .inl (.of (S3 _ _ hL)), by omega, by decide, fun q hq nq => ?_⟩
  obtain ⟨H4, e4, S4, f4⟩ := gen_new (.lst [V.ref u, V.int (xs.length : Int), V.str z, V.int (z.length : Int), V.str z]) hq
  simp only [e4]
  have nd : PyData.hasDictAll (ls.map dl) = false := by
    have := PyData.hasDict_of_canLay (.list (ls.map dl)) (by simp only [PyData.canLay0]; exact dls_lay ok)
    simpa only [PyData.hasDict] using this
  have d1 : Dp K H4 (.ref p) (.list [.tuple (ls.map dl), .int (ls.length : Int), .str z, .int (z.length : Int), .str z]) :=
    .lst (.of (S4 _ _ (S3 _ _ f2))) (.cons (.tup (.of (S4 _ _ (S3 _ _ (S2 _ _ ft)))) (((dt.mono S2).mono S3).mono S4 |>.dp nd)) (.cons (.int _) (.cons (.str _) (.cons (.int _) (.cons (.str _) .nil)))))
  have d2 : Dp K H4 (.ref q) (.list [.tuple (ls.map dl), .int (ls.length : Int), .str z, .int (z.length : Int), .str z]) := by
    refine .lst (.of f4) (.cons (.tup (.of (S4 _ _ f3)) ((dL.mono S3).mono S4 |>.dp nd)) (.cons ?_ (.cons (.str _) (.cons (.int _) (.cons (.str _) .nil)))))
    rw [lx]
    exact .int _
  have fx : Fx (.list [.tuple (ls.map dl), .int (ls.length : Int), .str z, .int (z.length : Int), .str z]) := by
    have b1 : -(10 ^ 120) ≤ (ls.length : Int) ∧ (ls.length : Int) ≤ 10 ^ 120 := by
      have : (100000 : Int) ≤ 10 ^ 120 := by decide
      omega
    have b2 : -(10 ^ 120) ≤ (z.length : Int) ∧ (z.length : Int) ≤ 10 ^ 120 := by
      have : (100000 : Int) ≤ 10 ^ 120 := by decide
      omega
    refine Gd.fx (D := 3) (.list (.cons (.tuple (gds_lines ok)) (.cons (.int b1) (.cons (.str pz.asc) (.cons (.int b2) (.cons (.str pz.asc) .nil)))))) (by decide) ?_
    have w1 := w_int (i := (ls.length : Int))
    have w2 := w_int (i := (z.length : Int))
    have g1 := log_le (i := (ls.length : Int)) (by omega) (by omega)
    have g2 := log_le (i := (z.length : Int)) (by omega) (by omega)
    have e1 : z.length = z.cps.size := rfl
    simp only [PyData.weight, PyData.weightAll, lw] at w1 w2 wt ⊢
    omega
  refine r_eqF d1 d2 fx ?_
  refine ⟨_, rfl, ?_⟩
  rw [if_pos rfl]
  refine r_reprF d1 (.inr ⟨_, rfl⟩) fx ?_
  refine r_reprF d2 (.inr ⟨_, rfl⟩) fx ?_
  refine ⟨by simp [scal], ?_⟩
  simp only [decide_true]
  exact k _ (S1.trans (S2.trans (S3.trans S4)))
end
end K06


namespace K06
open PySem L2 Nv

theorem ne_of_none' {H : Hp} {a b : Addr} {o : HO} (h : H a = none) (h2 : H b = some o) : a ≠ b := fun e => by
  rw [e, h2] at h
  cases h
theorem dls_two {C : Addr} {H H' : Hp} {p d : Addr} (hp : ∃ C dx fs, H p = some (.ins C dx fs)) (hd : ∃ z n, DiskAt C H d z n) (e : ∀ a o, a ≠ p → a ≠ d → H a = some o → H' a = some o) : ∀ {vs : List V} {ls : List L4}, DVs H vs (ls.map dl) → DVs H' vs (ls.map dl)
  | _, [], h => by
    cases h
    exact .nil
  | _, x :: ls, h => by
    cases h with
    | cons a r =>
      obtain ⟨b, rfl, hb⟩ := dv_line a
      obtain ⟨C1, dx1, fs1, hx1⟩ := hp
      obtain ⟨z, n, dx2, hx2⟩ := hd
      refine .cons (.tup (e _ _ (fun z => ?_) (fun z => ?_) hb) (.cons (.int _) (.cons (.int _) (.cons (.str _) (.cons (.str _) .nil))))) (dls_two ⟨_, _, _, hx1⟩ ⟨_, _, _, hx2⟩ e r)
      · rw [z, hx1] at hb
        cases hb
      · rw [z, hx2] at hb
        cases hb
def spOpen (CL CD : Addr) : Sp := fun vs H Q _ => ∃ (d st : Addr) (z : Str) (n t : Int) (x y : V), vs = [.ref d, .ref st, .str z, .int t] ∧ DiskAt CD H d z n ∧ 0 ≤ n ∧ n ≤ (z.length : Int) ∧ Pl z ∧ z.length ≤ 100000 ∧ Fig 120 (sg z) ∧ H st = some (.lst [x, y]) ∧
  ∀ g l L H', H g = none → H l = none → H L = none → l ≠ L → Whole CL CD H' d g l st L (lnsF (sg z)) → (∀ a o, a ≠ d → a ≠ st → H a = some o → H' a = some o) → Q (.ref g) H'
section
variable {P : Program} {w : World} {K : PySem.W.Frag} {mg : Str → Option Value} {base : Heap}
theorem ok_l_open (T : Tx K mg) : FnG P w K mg base 8 T.d_l_open.f T.d_l_open.fd ["disk", "state", "signs", "turn"] (spOpen T.C_Log T.C_Disk) := by
  refine okG0 T.d_l_open.F sc_l_open (fun vs H Q E h => ?_) (fun cdv A outer s H vs Q E hg hr h => ?_)
  · obtain ⟨d, st, z, n, t, x, y, rfl, _⟩ := h
    rfl
  obtain ⟨d, st, z, n, t, x, y, rfl, hd, n0, n1, pz, lz, fz, hst, k⟩ := h
  have sz : sizeLine = 16777216 := sizeLine_eq
  refine ⟨_, (pss_cons (ps_asg (pe_cG (ok_l_read T) T.d_l_read.b takes0 hg (hr.mono (by decide)) T.d_l_read.m T.d_l_read.F.kp (pa_cons (pv 2) pa_nil)) (pg_lst rfl (pgs_cons (pg_name (i := 4) sc_l_open.nd rfl (Or.inl rfl)) (pgs_cons (pg_name (i := 5) sc_l_open.nd rfl (Or.inl rfl)) pgs_nil))))
    (pss_cons (ps_asg (pv 4) (pg_sub (pv 1) pe_int set_list))
    (pss_cons (ps_asg (pe_slice sl_str (pv 2) po_none (po_some (pv 5))) (pg_sub (pv 1) pe_int set_list))
    (pss_one (ps_ret (pe_ifExp (pt_cmpR op_eq (pv 3) pe_int (nomark _)) (pe_makeG T.k_Log (ok_Log_init T) T.d_Log_init.bi takes0 hg (hr.mono (by decide)) rfl T.m_Log (pa_cons (pv 0) pa_nil)) (pe_makeGk T.k_Log (ok_Log_init T) T.d_Log_init.kb rfl takes0 hg (hr.mono (by decide)) rfl T.m_Log (pk_cons (pv 0) pk_nil)))))))), ?_⟩
  walk_at "rd"
  refine ⟨z, rfl, pz, lz, fz, fun q L ws H1 hL nL S1 hq1 hL1 dv1 => ?_⟩
  refine r_unl (.of hq1) rfl ?_
  walk_at "rd"
  refine r_setL (S1 _ _ hst) rfl ?_
  walk_at "rd"
  refine ⟨by omega, ?_⟩
  refine r_setL (j := 1) upd_same rfl ?_
  obtain ⟨r, er⟩ := file_prefix (sg z)
  have ec : cutS z none (some ((fileL (lnsF (sg z))).length : Int)) = tx (fileL (lnsF (sg z))) := sg_inj (by
    rw [cut_to, sg_tx]
    obtain ⟨F, hF⟩ : ∃ F, fileL (lnsF (sg z)) = F := ⟨_, rfl⟩
    rw [hF] at er ⊢
    rw [er, List.take_left])
  rw [ec]
  have nsd : st ≠ d := fun e => by
    obtain ⟨dx, hx⟩ := hd
    rw [← e, hst] at hx
    cases hx
  have nLs : L ≠ st := ne_of_none' hL hst
  have nLd : L ≠ d := fun e => by
    obtain ⟨dx, hx⟩ := hd
    rw [← e, hL] at hx
    cases hx
  obtain ⟨H3, e3⟩ : ∃ H3, upd (upd H1 st (.lst ([x, y].set (Int.toNat 0) (V.ref L)))) st (.lst (([x, y].set (Int.toNat 0) (V.ref L)).set 1 (V.str (tx (fileL (lnsF (sg z))))))) = H3 := ⟨_, rfl⟩
  have f3 : H3 st = some (.lst [V.ref L, V.str (tx (fileL (lnsF (sg z))))]) := by
    rw [← e3, upd_same]
    rfl
  have s3 : ∀ a o, a ≠ st → H1 a = some o → H3 a = some o := fun a o na ha => by
    rw [← e3, upd_ne na, upd_ne na]
    exact ha
  rw [e3]
  have dv3 : DVs H3 ws ((lnsF (sg z)).map dl) := dls_off (fun xs q => by rw [S1 _ _ hst] at q; cases q) s3 dv1
  have hd3 : DiskAt T.C_Disk H3 d z n := by
    obtain ⟨dx, hx⟩ := hd
    exact ⟨dx, s3 _ _ (Ne.symm nsd) (S1 _ _ hx)⟩
  have mk : ∀ (g dx : Addr), H3 g = none → H3 dx = none → dx ≠ g →
      spLogI T.C_Log T.C_Disk [.ref g, .ref d] (upd (upd H3 dx (.own g)) g (.ins T.C_Log dx [])) (fun v H2 => v = .non ∧ Q (.ref g) H2) (fun _ _ _ => False) := by
    intro g dx hg3 hdx ngd
    have so : ∀ a o, H3 a = some o → upd (upd H3 dx (.own g)) g (.ins T.C_Log dx []) a = some o := fun a o ha => by
      rw [upd_ne (ne_of_none ha hg3), upd_ne (ne_of_none ha hdx)]
      exact ha
    have hd4 : DiskAt T.C_Disk (upd (upd H3 dx (.own g)) g (.ins T.C_Log dx [])) d z n := hd3.mono so
    refine ⟨g, d, dx, z, n, rfl, upd_same, hd4, n0, n1, pz, lz, fz, fun l H5 hl lg dk so5 => ⟨rfl, ?_⟩⟩
    have gH : H g = none := by
      cases q : H g with
      | none => rfl
      | some o =>
        by_cases e : g = st
        · rw [e, f3] at hg3
          cases hg3
        · rw [s3 _ _ e (S1 _ _ q)] at hg3
          cases hg3
    have lH : H l = none := by
      cases q : H l with
      | none => rfl
      | some o =>
        by_cases e : l = st
        · rw [e, so _ _ f3] at hl
          cases hl
        · rw [so _ _ (s3 _ _ e (S1 _ _ q))] at hl
          cases hl
    have ndg : d ≠ g := fun e => by
      obtain ⟨dy, hx⟩ := hd3
      rw [e, hg3] at hx
      cases hx
    have hL3 : H3 L = some (.lst ws) := s3 _ _ nLs hL1
    have ngL : L ≠ g := ne_of_none hL3 hg3
    have nlL : l ≠ L := fun e => by
      rw [e, so _ _ hL3] at hl
      cases hl
    refine k g l L H5 gH lH hL nlL ⟨by rw [tx_len]; exact dk, lg, ?_⟩ ?_
    · refine ⟨so5 _ _ (ne_of_none f3 hg3) nsd (so _ _ f3), ws, so5 _ _ ngL nLd (so _ _ hL3), ?_⟩
      refine dls_two (p := g) (d := d) ⟨_, _, _, upd_same⟩ ⟨_, _, hd4⟩ so5 (dv3.mono so)
    · intro a o nd ns ha
      have h3 := s3 _ _ ns (S1 _ _ ha)
      exact so5 _ _ (ne_of_none h3 hg3) nd (so _ _ h3)
  refine ⟨by simp [scal], ?_⟩
  split
  · rw [e_makeG]
    walk_at "rd"
    exact mk
  · rw [e_makeG]
    walk_at "rd"
    exact mk
end
end K06


namespace K06
open PySem L2 Nv

/-- lines stand while no tuple changes -/
theorem dls_gen {H H' : Hp} {C : Addr → Prop} (hC : ∀ b, C b → ∀ xs, H b ≠ some (.tup xs)) (e : ∀ a o, ¬ C a → H a = some o → H' a = some o) : ∀ {vs : List V} {ls : List L4}, DVs H vs (ls.map dl) → DVs H' vs (ls.map dl)
  | _, [], h => by
    cases h
    exact .nil
  | _, x :: ls, h => by
    cases h with
    | cons a r =>
      obtain ⟨b, rfl, hb⟩ := dv_line a
      exact .cons (.tup (e _ _ (fun z => hC b z _ hb) hb) (.cons (.int _) (.cons (.int _) (.cons (.str _) (.cons (.str _) .nil))))) (dls_gen hC e r)
theorem not_lines {H : Hp} {L : Addr} {z : Str} {ls : List L4} (h : DVs H [.ref L, .str z] (ls.map dl)) : False := by
  cases ls with
  | nil => cases h
  | cons x r =>
    cases h with
    | cons _ b =>
      cases r with
      | nil => cases b
      | cons y r =>
        cases b with
        | cons c _ =>
          obtain ⟨_, e, _⟩ := dv_line c
          cases e
theorem Whole.sl {CL CD : Addr} {H : Hp} {d g l st L : Addr} {ls : List L4} (h : Whole CL CD H d g l st L ls) : st ≠ l ∧ st ≠ L ∧ st ≠ d ∧ st ≠ g ∧ g ≠ d ∧ l ≠ d ∧ L ≠ d ∧ l ≠ g ∧ L ≠ g := by
  have hs := h.sa.st
  obtain ⟨dx, hd⟩ := h.dk
  obtain ⟨gx, hg⟩ := h.lg.ob
  obtain ⟨ws, hl, dl1⟩ := h.lg.it
  obtain ⟨wl, hL, dl2⟩ := h.sa.it
  obtain ⟨n1, n2⟩ := log_disk h.lg h.dk
  refine ⟨fun e => ?_, fun e => ?_, fun e => ?_, fun e => ?_, n1, n2, fun e => ?_, fun e => ?_, fun e => ?_⟩
  · rw [← e, hs] at hl
    cases hl
    exact not_lines dl1
  · rw [← e, hs] at hL
    cases hL
    exact not_lines dl2
  · rw [e, hd] at hs
    cases hs
  · rw [e, hg] at hs
    cases hs
  · rw [e, hd] at hL
    cases hL
  · rw [e, hg] at hl
    cases hl
  · rw [e, hg] at hL
    cases hL
theorem r_eqS {K : PySem.W.Frag} {H : Hp} {Q : VK} {v u : V} {d : PyData} (a : Dp K H v d) (b : Dp K H u d) (c : d.canLay0 = true) (sh : SeqAt.shaped d = true) (q : Q (.bl true) H) : rEqD K v u H Q := by
  have e := SeqAt.eqv_refl d c
  exact ⟨d, d, a, b, sh, sh, by rw [e]; exact q⟩
theorem dls_nodict {ls : List L4} (ok : ∀ x ∈ ls, LOk x) : PyData.hasDictAll (ls.map dl) = false := by
  have := PyData.hasDict_of_canLay (.list (ls.map dl)) (by simp only [PyData.canLay0]; exact dls_lay ok)
  simpa only [PyData.hasDict] using this
def spPut2 (CL CD : Addr) : Sp := fun vs H Q _ => ∃ (d g l st L a : Addr) (t : Int) (ls ms : List L4) (xs : List V), vs = [.ref g, .ref st, .ref a, .int t] ∧ Whole CL CD H d g l st L ls ∧ d ≠ l ∧ l ≠ L ∧
  (H a = some (.lst xs) ∨ H a = some (.tup xs)) ∧ DVs H xs (ms.map dl) ∧ (∀ x ∈ ms, LOk x) ∧ (∀ x ∈ ls, LOk x) ∧ ms.length ≤ 2000 ∧ (fileL ls).length ≤ 60000 ∧ a ≠ st ∧ a ≠ L ∧ a ≠ l ∧
  ∀ L' H', H L' = none → Whole CL CD H' d g l st L' (ls ++ ms) → (∀ b o, b ≠ d → b ≠ l → b ≠ st → b ≠ a → H b = some o → H' b = some o) → Q (.bl true) H'
section
variable {P : Program} {w : World} {K : PySem.W.Frag} {mg : Str → Option Value} {base : Heap}
theorem ok_l_put (T : Tx K mg) : FnG P w K mg base 7 T.d_l_put.f T.d_l_put.fd ["log", "state", "lines", "turn"] (spPut2 T.C_Log T.C_Disk) := by
  refine okG0 T.d_l_put.F sc_l_put (fun vs H Q E h => ?_) (fun cdv A outer s H vs Q E hg hr h => ?_)
  · obtain ⟨d, g, l, st, L, a, t, ls, ms, xs, rfl, _⟩ := h
    rfl
  obtain ⟨d, g, l, st, L, a, t, ls, ms, xs, rfl, hw, ndl, nlL, ha, hx, okm, okl, nm, nf, nast, naL, nal, k⟩ := h
  have sz : sizeLine = 16777216 := sizeLine_eq
  refine ⟨_, (pss_cons (ps_set (i := 4) sc_l_put.nd rfl (Or.inl rfl) (pe_callTy call_list_new (by rfl) T.n_list (by decide +kernel) (pa_cons (pv 2) pa_nil)))
    (pss_cons (ps_set (i := 5) sc_l_put.nd rfl (Or.inl rfl) (pe_ifExp (pt_cmpR op_eq (pv 3) pe_int (nomark _)) (pe_mG (pv 0) T.cl_Log T.d_Log_put.me (ok_Log_put T) T.d_Log_put.b takes0 hg (hr.mono (by decide)) (pa_cons (pv 2) pa_nil)) (pe_mGk (pv 0) T.cl_Log T.d_Log_put.me (ok_Log_put T) T.d_Log_put.kb rfl takes0 hg (hr.mono (by decide)) (pk_cons (pv 2) pk_nil))))
    (pss_cons (ps_asg (pe_op op_cat (pe_ix ix_list (pv 1) pe_int (fun _ _ => rfl)) (pv 4)) (pg_sub (pv 1) pe_int set_list))
    (pss_cons (ps_asg (pe_op op_add_str (pe_ix ix_list (pv 1) pe_int (fun _ _ => rfl)) (pe_cG (ok_l_file T) T.d_l_file.b takes0 hg (hr.mono (by decide)) T.d_l_file.m T.d_l_file.F.kp (pa_cons (pv 4) pa_nil))) (pg_sub (pv 1) pe_int set_list))
    (pss_cons (ps_set (i := 6) sc_l_put.nd rfl (Or.inl rfl) (pe_cmpR (op_eqD hr.units) (pe_callTy call_list_new (by rfl) T.n_list (by decide +kernel) (pa_cons (pv 2) pa_nil)) (pv 4) (nomark _)))
    (pss_cons (ps_if (pt_val (pe_callB call_isiA (by rfl) T.n_isinstance (by decide +kernel) (pa_cons (pv 2) (pa_cons (pe_bltn (v := .ty "list") (by rfl) T.n_list (by decide +kernel) rfl) pa_nil))))
      (pss_cons (ps_expr (pe_bm PySem.F.plainAttrs_list PySem.F.slot_list_append PySem.F.type_list_append mt_append (pv 2) (pa_cons (pe_tup (pa_cons pe_int (pa_cons pe_int (pa_cons pe_str (pa_cons pe_str pa_nil))))) pa_nil)))
      (pss_one (ps_expr (pe_bm0 PySem.F.plainAttrs_list PySem.F.slot_list_reverse PySem.F.type_list_reverse mt_reverse (pv 2)))))
      pss_nil)
    (pss_one (ps_ret (pe_and (pe_cmpR op_isN (pv 5) pe_non (nomark _)) (pe_one (pv 6))))))))))), ?_⟩
  walk_at "rd"
  obtain ⟨nsl, nsL, nsd, nsg, ngd, nld, nLd, nlg, nLg⟩ := hw.sl
  obtain ⟨dx, hdx⟩ := hw.dk
  obtain ⟨gx, hgx⟩ := hw.lg.ob
  obtain ⟨wl, hLw, dLw⟩ := hw.sa.it
  obtain ⟨z, hz⟩ : ∃ z, tx (fileL ls) = z := ⟨_, rfl⟩
  have lzz : z.length = (fileL ls).length := by rw [← hz]; exact tx_len _
  have nad : a ≠ d := fun e => by
    rw [e, hdx] at ha
    rcases ha with ha | ha <;> cases ha
  have nag : a ≠ g := fun e => by
    rw [e, hgx] at ha
    rcases ha with ha | ha <;> cases ha
  have lx := hx.len
  rw [List.length_map] at lx
  have lwl := dLw.len
  rw [List.length_map] at lwl
  have l5 := file_len5 ls
  have lfm := fileL_len okm
  have hall : (ms.map dl).all lineB = true := by
    rw [List.all_map, List.all_eq_true]
    exact fun x hx => (okm x hx).l
  obtain ⟨dv, dr, hit, hB, hLst⟩ : ∃ dv, DR H (.ref a) dv ∧ itemsD dv = ms.map dl ∧ areB dv = true ∧ (isL dv = true → H a = some (.lst xs)) := by
    rcases ha with ha | ha
    · exact ⟨.list (ms.map dl), .raw ha hx, rfl, hall, fun _ => ha⟩
    · exact ⟨.tuple (ms.map dl), .dv (.tup ha hx), rfl, hall, fun e => (by cases e)⟩
  have its : Its dv := by
    refine ⟨by rw [hit, List.length_map]; omega, fun y hy => ?_⟩
    rw [hit] at hy
    obtain ⟨x, hx, rfl⟩ := List.mem_map.mp hy
    exact (okm x hx).lens
  have hsq : SqL K H a xs ∨ SqT K H a xs := ha.elim (fun h => .inl (.of h)) fun h => .inr (.of h)
  refine ⟨xs, hsq, fun kl hkl nkl => ⟨by simp [scal], ?_⟩⟩
  obtain ⟨H1, e1, S1, f1⟩ := gen_new (.lst xs) hkl
  rw [e1]
  have w1 := hw.mono S1
  have body : ∀ H2, LogAt T.C_Log H2 g d l (ls ++ ms) → DiskAt T.C_Disk H2 d (z ++ tx (fileL ms)) ((z ++ tx (fileL ms)).length : Int) → (∀ b o, b ≠ d → b ≠ l → H1 b = some o → H2 b = some o) →
      rIxL K (V.ref st) (V.int 0) H2 fun x_1 H1 => rCat x_1 (V.ref kl) H1 fun x_2 H1 => rSetL (V.ref st) (V.int 0) x_2 H1 fun H3 => rIxL K (V.ref st) (V.int 1) H3 fun x_3 H1 =>
        spFile [V.ref kl] H1 (fun y H2 => ∃ i, x_3 = V.str i ∧ ∃ x_4, y = V.str x_4 ∧ i.length + x_4.length ≤ sizeLine ∧ rSetL (V.ref st) (V.int 1) (V.str (i ++ x_4)) H2 fun H3 =>
          ∃ x_5, (SqL K H3 a x_5 ∨ SqT K H3 a x_5) ∧ ∀ (l_1 : Addr), H3 l_1 = none → l_1 ≠ sysModules → rEqD K (V.ref l_1) (V.ref kl) (upd H3 l_1 (HO.lst x_5)) fun x_6 H1 =>
            rIsiA K [V.ref a, V.ty "list"] H1 fun x_7 H1 => ∃ c, x_7 = V.bl c ∧ if c = true then
              tyV K "list" (V.ref a) H1 ∧ 0 + 1 + 1 + 1 + 1 ≤ sizeLine ∧ ∀ (p : Addr), H1 p = none → rAppend (V.ref a) [V.ref p] (upd H1 p (HO.tup [V.int 0, V.int 0, V.str (Str.ofString "more"), V.str (Str.ofString "")])) fun x_8 H1 =>
                tyV K "list" (V.ref a) H1 ∧ rReverse (V.ref a) [] H1 fun x_9 H1 => Q x_6 H1
            else Q x_6 H1) (fun _ _ _ => False) := by
    intro H2 lg2 dk2 so2
    have fst2 : H2 st = some (.lst [.ref L, .str z]) := so2 _ _ nsd nsl (S1 _ _ (by rw [← hz]; exact hw.sa.st))
    have fL2 : H2 L = some (.lst wl) := so2 _ _ nLd (Ne.symm nlL) (S1 _ _ hLw)
    have kld : kl ≠ d := ne_of_none' hkl hdx
    have kll : kl ≠ l := by
      obtain ⟨ws, hl, _⟩ := hw.lg.it
      exact ne_of_none' hkl hl
    have klst : kl ≠ st := ne_of_none' hkl hw.sa.st
    have klL : kl ≠ L := ne_of_none' hkl hLw
    have fk2 : H2 kl = some (.lst xs) := so2 _ _ kld kll f1
    have ha2 : H2 a = some (.lst xs) ∨ H2 a = some (.tup xs) := ha.elim (fun h => .inl (so2 _ _ nad nal (S1 _ _ h))) fun h => .inr (so2 _ _ nad nal (S1 _ _ h))
    have hLst2 : isL dv = true → H2 a = some (.lst xs) := fun e => so2 _ _ nad nal (S1 _ _ (hLst e))
    have off2 : ∀ b, (b = d ∨ b = l) → ∀ ys, H1 b ≠ some (.tup ys) := by
      rintro b (rfl | rfl) ys q
      · obtain ⟨dy, hy⟩ := w1.dk
        rw [hy] at q
        cases q
      · obtain ⟨ws, hl, _⟩ := w1.lg.it
        rw [hl] at q
        cases q
    have so2' : ∀ b o, ¬ (b = d ∨ b = l) → H1 b = some o → H2 b = some o := fun b o nb hb => so2 b o (fun e => nb (.inl e)) (fun e => nb (.inr e)) hb
    have dm2 : DVs H2 xs (ms.map dl) := dls_gen off2 so2' (hx.mono S1)
    have dl2 : DVs H2 wl (ls.map dl) := dls_gen off2 so2' (dLw.mono S1)
    refine r_ixL (.of fst2) rfl ?_
    refine ⟨L, kl, wl, xs, rfl, rfl, fL2, fk2, by omega, fun L' hL' => ?_⟩
    obtain ⟨H3, e3, S3, f3⟩ := gen_new (.lst (wl ++ xs)) hL'
    rw [e3]
    refine r_setL (S3 _ _ fst2) rfl ?_
    obtain ⟨H4, e4⟩ : ∃ H4, upd H3 st (.lst ([V.ref L, V.str z].set (Int.toNat 0) (V.ref L'))) = H4 := ⟨_, rfl⟩
    rw [e4]
    have kst : ∀ b o, b ≠ st → H2 b = some o → H4 b = some o := fun b o nb hb => by
      rw [← e4, upd_ne nb]
      exact S3 _ _ hb
    have f4 : H4 st = some (.lst [.ref L', .str z]) := by
      rw [← e4, upd_same]
      rfl
    have offs : ∀ b, b = st → ∀ ys, H2 b ≠ some (.tup ys) := by
      rintro b rfl ys q
      rw [fst2] at q
      cases q
    have dm4 : DVs H4 xs (ms.map dl) := dls_gen offs (fun b o nb hb => kst b o nb hb) dm2
    have fk4 := kst _ _ klst fk2
    refine r_ixL (.of f4) rfl ?_
    refine ⟨kl, xs, ms, rfl, fk4, dm4, okm, by omega, fun H5 S5 => ?_⟩
    have lm : (tx (fileL ms)).length = (fileL ms).length := tx_len _
    refine ⟨_, rfl, _, rfl, by omega, ?_⟩
    refine r_setL (j := 1) (S5 _ _ f4) rfl ?_
    obtain ⟨H6, e6⟩ : ∃ H6, upd H5 st (.lst ([V.ref L', V.str z].set 1 (V.str (z ++ tx (fileL ms))))) = H6 := ⟨_, rfl⟩
    rw [e6]
    have k6 : ∀ b o, b ≠ st → H2 b = some o → H6 b = some o := fun b o nb hb => by
      rw [← e6, upd_ne nb]
      exact S5 _ _ (kst b o nb hb)
    have f6 : H6 st = some (.lst [.ref L', .str (z ++ tx (fileL ms))]) := by
      rw [← e6, upd_same]
      rfl
    have ez : z ++ tx (fileL ms) = tx (fileL (ls ++ ms)) := sg_inj (by rw [sg_app, ← hz, sg_tx, sg_tx, sg_tx, file_app])
    have nL's : L' ≠ st := ne_of_none' hL' fst2
    have fL6 : H6 L' = some (.lst (wl ++ xs)) := by
      rw [← e6, upd_ne nL's]
      refine S5 _ _ ?_
      rw [← e4, upd_ne nL's]
      exact f3
    have dm6 : DVs H6 xs (ms.map dl) := dls_gen offs k6 dm2
    have dl6 : DVs H6 wl (ls.map dl) := dls_gen offs k6 dl2
    have dA6 : DVs H6 (wl ++ xs) ((ls ++ ms).map dl) := by
      rw [List.map_append]
      exact dvs_app dl6 dm6
    have ha6 : H6 a = some (.lst xs) ∨ H6 a = some (.tup xs) := ha2.elim (fun h => .inl (k6 _ _ nast h)) fun h => .inr (k6 _ _ nast h)
    have fk6 := k6 _ _ klst fk2
    have naL' : a ≠ L' := fun e => by
      rw [e, hL'] at ha2
      rcases ha2 with q | q <;> cases q
    have L'H : H L' = none := by
      cases q : H L' with
      | none => rfl
      | some o =>
        by_cases e1 : L' = d
        · obtain ⟨dy, hy⟩ := dk2
          rw [e1, hy] at hL'
          cases hL'
        · by_cases e2 : L' = l
          · obtain ⟨ws, hl, _⟩ := lg2.it
            rw [e2, hl] at hL'
            cases hL'
          · rw [so2 _ _ e1 e2 (S1 _ _ q)] at hL'
            cases hL'
    have fin : ∀ He, (∀ b o, (isL dv = true → b ≠ a) → H6 b = some o → He b = some o) → Q (.bl true) He := by
      intro He ke
      have offa : ∀ b, (isL dv = true ∧ b = a) → ∀ ys, H6 b ≠ some (.tup ys) := by
        rintro b ⟨e, rfl⟩ ys q
        rw [k6 _ _ nast (hLst2 e)] at q
        cases q
      have ke' : ∀ b o, ¬ (isL dv = true ∧ b = a) → H6 b = some o → He b = some o := fun b o nb hb => ke b o (fun e q => nb ⟨e, q⟩) hb
      have offb : ∀ b, (b = st ∨ (isL dv = true ∧ b = a)) → ∀ ys, H2 b ≠ some (.tup ys) := by
        rintro b (rfl | ⟨e, rfl⟩) ys q
        · rw [fst2] at q
          cases q
        · rw [hLst2 e] at q
          cases q
      have kb : ∀ b o, ¬ (b = st ∨ (isL dv = true ∧ b = a)) → H2 b = some o → He b = some o := fun b o nb hb => ke' b o (fun q => nb (.inr q)) (k6 b o (fun q => nb (.inl q)) hb)
      refine k L' He L'H ⟨?_, ?_, ?_⟩ ?_
      · obtain ⟨dy, hy⟩ := dk2
        refine ⟨dy, ?_⟩
        rw [← ez]
        exact kb _ _ (fun q => q.elim (fun q => nsd q.symm) fun q => nad q.2.symm) hy
      · obtain ⟨⟨gy, hy⟩, ⟨ws, h1, h2⟩, nm'⟩ := lg2
        refine ⟨⟨gy, kb _ _ (fun q => q.elim (fun q => nsg q.symm) fun q => nag q.2.symm) hy⟩, ⟨ws, kb _ _ (fun q => q.elim (fun q => nsl q.symm) fun q => nal q.2.symm) h1, dls_gen offb kb h2⟩, nm'⟩
      · refine ⟨?_, wl ++ xs, ke _ _ (fun _ q => naL' q.symm) fL6, dls_gen offa ke' dA6⟩
        rw [← ez]
        exact ke _ _ (fun _ q => nast q.symm) f6
      · intro b o nd nl ns na hb
        exact ke _ _ (fun _ => na) (k6 _ _ ns (so2 _ _ nd nl (S1 _ _ hb)))
    refine ⟨xs, ha6.elim (fun h => .inl (.of h)) fun h => .inr (.of h), fun k2 hk2 nk2 => ?_⟩
    obtain ⟨H7, e7, S7, f7⟩ := gen_new (.lst xs) hk2
    rw [e7]
    have nd := dls_nodict okm
    have dq : DpAll K H7 xs (ms.map dl) := (dm6.mono S7).dp nd
    refine r_eqS (d := .list (ms.map dl)) (.lst (.of f7) dq) (.lst (.of (S7 _ _ fk6)) dq) (by simp only [PyData.canLay0]; exact dls_lay okm) (dls_shaped okm) ?_
    have dr7 : TyX K H7 (.ref a) (.type (tyName dv)) := by
      rcases ha with h | h
      · have : isL dv = true := by
          cases dr with
          | raw _ _ => rfl
          | dv q =>
            cases q with
            | lst _ _ _ => rfl
            | tup q _ => rw [h] at q; cases q
            | dct q _ => rw [h] at q; cases q
        have h7 := S7 _ _ (k6 _ _ nast (hLst2 this))
        cases dv with
        | list ds => exact .base (.lst h7)
        | _ => cases this
      · have h7 : H7 a = some (.tup xs) := by
          rcases ha6 with q | q
          · have := so2 _ _ nad nal (S1 _ _ h)
            rw [k6 _ _ nast this] at q
            cases q
          · exact S7 _ _ q
        cases dr with
        | raw q _ => rw [h] at q; cases q
        | dv q =>
          cases q with
          | lst q _ _ => rw [h] at q; cases q
          | tup _ _ => exact .base (.tup h7)
          | dct q _ => rw [h] at q; cases q
    refine .inl ⟨_, .ty _, _, _, _, rfl, .ty _, dr7, kit_ty (kit_list dv), ?_⟩
    refine ⟨_, rfl, ?_⟩
    cases eL : isL dv with
    | false =>
      rw [if_neg (by decide)]
      exact fin H7 fun b o _ hb => S7 _ _ hb
    | true =>
      rw [if_pos rfl]
      have h7 := S7 _ _ (k6 _ _ nast (hLst2 eL))
      refine ⟨.inl ⟨rfl, _, .of h7⟩, by decide, fun p hp => ?_⟩
      obtain ⟨H8, e8, S8, f8⟩ := gen_new (.tup [V.int 0, V.int 0, V.str (Str.ofString "more"), V.str (Str.ofString "")]) hp
      rw [e8]
      refine ⟨a, xs, _, rfl, rfl, S8 _ _ h7, by omega, ?_⟩
      refine ⟨.inl ⟨rfl, _, .of upd_same⟩, a, _, rfl, rfl, upd_same, ?_⟩
      refine fin _ fun b o nb hb => ?_
      have na := nb eL
      rw [upd_ne na, upd_ne na]
      exact S8 _ _ (S7 _ _ hb)
  split
  all_goals
    refine m_log w1.lg (by decide +kernel) (by decide +kernel) ?_
    refine ⟨g, d, l, ls, tx (fileL ls), .ref a, dv, rfl, w1.lg, w1.dk, ndl, (fun e => nal (by cases e; rfl)), dr.mono S1, its, by rw [hz]; omega, by omega, fun _ => ⟨ms, hit, okm, fun H2 lg2 dk2 so2 => ?_⟩, fun e => (by rw [hB] at e; cases e)⟩
    rw [hz] at dk2
    exact body H2 lg2 dk2 so2
end
end K06


namespace K06
open PySem L2 Nv

/-- data that are shown: how heavy, how deep -/
structure Gi (W D : Nat) (d : PyData) : Prop where
  s : d.leavesShort 130 = true
  w : d.weight ≤ W
  p : d.depth ≤ D
  h : d.showable = true
structure Gis (W D : Nat) (ds : List PyData) : Prop where
  s : PyData.leavesShortAll 130 ds = true
  w : PyData.weightAll ds ≤ W
  p : PyData.depthAll ds ≤ D
  h : PyData.showableAll ds = true
theorem Gi.le {W D W' D' : Nat} {d : PyData} (h : Gi W D d) (a : W ≤ W') (b : D ≤ D') : Gi W' D' d := ⟨h.s, Nat.le_trans h.w a, Nat.le_trans h.p b, h.h⟩
theorem Gis.le {W D W' D' : Nat} {d : List PyData} (h : Gis W D d) (a : W ≤ W') (b : D ≤ D') : Gis W' D' d := ⟨h.s, Nat.le_trans h.w a, Nat.le_trans h.p b, h.h⟩
theorem Gi.non {W D : Nat} : Gi W D .none := ⟨rfl, Nat.zero_le _, Nat.zero_le _, rfl⟩
theorem Gi.bl {W D : Nat} (b : Bool) : Gi W D (.bool b) := ⟨rfl, Nat.zero_le _, Nat.zero_le _, rfl⟩
theorem Gi.int {D : Nat} {i : Int} (h : -(10 ^ 120) ≤ i ∧ i ≤ 10 ^ 120) : Gi 405 D (.int i) := by
  have a := Gd.int (D := D) h
  refine ⟨a.s, ?_, a.p, a.h⟩
  have := w_int (i := i)
  have := log120 h
  omega
theorem Gi.str {D : Nat} {z : Str} (a : Asc z) : Gi z.length D (.str z) := by
  have g := Gd.str (D := D) a
  exact ⟨g.s, Nat.le_refl _, g.p, g.h⟩
theorem Gis.nil {W D : Nat} : Gis W D [] := ⟨rfl, Nat.zero_le _, Nat.zero_le _, rfl⟩
theorem Gis.cons {W1 W2 D : Nat} {d : PyData} {ds : List PyData} (a : Gi W1 D d) (b : Gis W2 D ds) : Gis (W1 + 1 + W2) D (d :: ds) := by
  refine ⟨?_, ?_, ?_, ?_⟩
  · simp only [PyData.leavesShortAll, a.s, b.s, Bool.and_self]
  · have := a.w
    have := b.w
    simp only [PyData.weightAll]
    omega
  · have := a.p
    have := b.p
    simp only [PyData.depthAll]
    omega
  · simp only [PyData.showableAll, a.h, b.h, Bool.and_self]
theorem Gi.tuple {W D : Nat} {ds : List PyData} (a : Gis W D ds) : Gi W (D + 1) (.tuple ds) := by
  refine ⟨?_, ?_, ?_, ?_⟩
  · simpa only [PyData.leavesShort] using a.s
  · simpa only [PyData.weight] using a.w
  · have := a.p
    simp only [PyData.depth]
    omega
  · simpa only [PyData.showable] using a.h
theorem Gi.list {W D : Nat} {ds : List PyData} (a : Gis W D ds) : Gi W (D + 1) (.list ds) := by
  refine ⟨?_, ?_, ?_, ?_⟩
  · simpa only [PyData.leavesShort] using a.s
  · simpa only [PyData.weight] using a.w
  · have := a.p
    simp only [PyData.depth]
    omega
  · simpa only [PyData.showable] using a.h
theorem Gi.dict1 {W1 W2 D : Nat} {k v : PyData} (a : Gi W1 D k) (b : Gi W2 D v) : Gi (W1 + W2 + 2) (D + 1) (.dict [(k, v)]) := by
  refine ⟨?_, ?_, ?_, ?_⟩
  · simp only [PyData.leavesShort, PyData.leavesShortKv, a.s, b.s, Bool.and_self]
  · have := a.w
    have := b.w
    simp only [PyData.weight, PyData.weightKv]
    omega
  · have := a.p
    have := b.p
    simp only [PyData.depth, PyData.depthKv]
    omega
  · simp only [PyData.showable, PyData.showableKv, a.h, b.h, Bool.and_self]
theorem Gi.len {W D : Nat} {d : PyData} (h : Gi W D d) : d.shown.length ≤ 132 * W + 130 := by
  have h1 := PyData.shown_le 130 (by decide) d h.s
  have h2 := h.w
  have := Nat.mul_le_mul_left 132 h2
  omega
theorem Gi.strlen {W D : Nat} {z : Str} (h : Gi W D (.str z)) : z.length ≤ W := by
  have := h.w
  simp only [PyData.weight] at this
  exact this
theorem Gis.mem {W D : Nat} {d : PyData} : ∀ {ds : List PyData}, Gis W D ds → d ∈ ds → Gi W D d
  | [], _, h => by simp at h
  | e :: r, g, h => by
    have a := g.s
    have b := g.w
    have c := g.p
    have e1 := g.h
    simp only [PyData.leavesShortAll, Bool.and_eq_true] at a
    simp only [PyData.weightAll] at b
    simp only [PyData.depthAll] at c
    simp only [PyData.showableAll, Bool.and_eq_true] at e1
    rcases List.mem_cons.mp h with rfl | h
    · exact ⟨a.1, by omega, by omega, e1.1⟩
    · exact Gis.mem (ds := r) ⟨a.2, by omega, by omega, e1.2⟩ h
theorem Gi.lens {W D : Nat} {d : PyData} (g : Gi W D d) (h : W ≤ 100000) : Lens d := by
  refine ⟨fun z e => ?_, fun ds e z m => ?_⟩
  · rw [e] at g
    have := g.strlen
    omega
  · rw [e] at g
    have g2 : Gis W D ds := by
      refine ⟨?_, ?_, ?_, ?_⟩
      · simpa only [PyData.leavesShort] using g.s
      · simpa only [PyData.weight] using g.w
      · have := g.p
        simp only [PyData.depth] at this
        omega
      · simpa only [PyData.showable] using g.h
    have := (g2.mem m).strlen
    omega
/-- what is new from H to H' stands in G -/
def Nw (H H' G : Hp) : Prop := ∀ b o, H b = none → H' b = some o → G b = some o
theorem dvs_pickG {C : Hp → Prop} {xs : List V} {ds : List PyData} {i : Int} (h : ∀ G, C G → DVs G xs ds) (hl : xs.length = ds.length) (h0 : 0 ≤ i) (h1 : i < (ds.length : Int)) : ∃ v d, atI xs i = some v ∧ d ∈ ds ∧ ∀ G, C G → DV G v d := by
  obtain ⟨j, rfl⟩ : ∃ j : Nat, i = (j : Int) := ⟨i.toNat, by omega⟩
  have hj : j < xs.length := by omega
  have hd : j < ds.length := by omega
  refine ⟨xs[j], ds[j], atI_nat (by simp [hj]), List.getElem_mem hd, fun G c => ?_⟩
  obtain ⟨d, e, hv⟩ := dvs_at (h G c) (List.getElem?_eq_getElem hj)
  rw [List.getElem?_eq_getElem hd] at e
  cases e
  exact hv
theorem dvs_pick {H : Hp} {xs : List V} {ds : List PyData} {i : Int} (h : DVs H xs ds) (h0 : 0 ≤ i) (h1 : i < (ds.length : Int)) : ∃ v d, atI xs i = some v ∧ d ∈ ds ∧ DV H v d := by
  obtain ⟨j, rfl⟩ : ∃ j : Nat, i = (j : Int) := ⟨i.toNat, by omega⟩
  have hl := h.len
  have hj : j < xs.length := by omega
  obtain ⟨d, e, hd⟩ := dvs_at h (List.getElem?_eq_getElem hj)
  exact ⟨xs[j], d, atI_nat (by simp [hj]), List.mem_of_getElem? e, hd⟩
/-- a spoilt line -/
def spSpoilt : Sp := fun vs H Q _ => ∃ (p : Addr) (N : Nat) (v : V) (x : L4), vs = [.ref p, v] ∧ BoxAt H p N ∧ N ≤ 700000 ∧ DV H v (dl x) ∧ LOk x ∧
  ∀ u d H', (∀ G, Nw H H' G → DV G u d) → lineB d = false → Gi 2000 2 d → BoxAt H' p (N + 2) → Ext1 p H H' → Q u H'
section
variable {P : Program} {w : World} {K : PySem.W.Frag} {mg : Str → Option Value} {base : Heap}
theorem ok_l_spoilt (T : Tx K mg) : FnG P w K mg base 2 T.d_l_spoilt.f T.d_l_spoilt.fd ["box", "line"] spSpoilt := by
  refine okG0 T.d_l_spoilt.F sc_l_spoilt (fun vs H Q E h => ?_) (fun cdv A outer s H vs Q E hg hr h => ?_)
  · obtain ⟨p, N, v, x, rfl, _⟩ := h
    rfl
  obtain ⟨p, N, v, x, rfl, hp, hN, hv, ok, k⟩ := h
  have sz : sizeLine = 16777216 := sizeLine_eq
  obtain ⟨h, n, c, t⟩ := x
  obtain ⟨a, rfl, ha⟩ := dv_line (h := h) (n := n) (c := c) (t := t) hv
  refine ⟨_, (pss_cons (ps_par (i := 2) (j := 3) rfl sc_l_spoilt.nd rfl rfl (by decide) rfl rfl (pa_cons (pe_cG (ok_l_take T) T.d_l_take.b takes0 hg (hr.mono (by decide)) T.d_l_take.m T.d_l_take.F.kp (pa_cons (pv 0) (pa_cons pe_int pa_nil))) (pa_cons (pe_cG (ok_l_take T) T.d_l_take.b takes0 hg (hr.mono (by decide)) T.d_l_take.m T.d_l_take.F.kp (pa_cons (pv 0) (pa_cons pe_int pa_nil))) pa_nil)) (by rfl))
    (pss_cons (ps_asg (pv 1) (pg_tup rfl (pgs_cons (pg_name (i := 4) sc_l_spoilt.nd rfl (Or.inl rfl)) (pgs_cons (pg_name (i := 5) sc_l_spoilt.nd rfl (Or.inl rfl)) (pgs_cons (pg_name (i := 6) sc_l_spoilt.nd rfl (Or.inl rfl)) (pgs_cons (pg_name (i := 7) sc_l_spoilt.nd rfl (Or.inl rfl)) pgs_nil))))))
    (pss_cons (ps_set (i := 8) sc_l_spoilt.nd rfl (Or.inl rfl) (pe_lst1 (pa_cons (pe_un un_neg pe_int) (pa_cons pe_bl (pa_cons pe_non (pa_cons pe_str (pa_cons pe_bl (pa_cons (pe_tup (pa_cons pe_int pa_nil)) (pa_cons (pe_lst1 (pa_cons pe_int pa_nil)) (pa_cons (pe_un un_neg (pe_op op_pow pe_int pe_int)) pa_nil))))))))))
    (pss_cons (ps_if (pt_cmpR op_eq (pv 2) pe_int (nomark _))
      (pss_one (ps_ret (pe_tup (pa_cons (pe_ix ix_list (pv 8) (pv 3) (fun _ _ => rfl)) (pa_cons (pv 5) (pa_cons (pv 6) (pa_cons (pv 7) pa_nil)))))))
      pss_nil)
    (pss_cons (ps_if (pt_cmpR op_eq (pv 2) pe_int (nomark _))
      (pss_one (ps_ret (pe_tup (pa_cons (pv 4) (pa_cons (pe_ix ix_list (pv 8) (pv 3) (fun _ _ => rfl)) (pa_cons (pv 6) (pa_cons (pv 7) pa_nil)))))))
      pss_nil)
    (pss_cons (ps_if (pt_cmpR op_eq (pv 2) pe_int (nomark _))
      (pss_one (ps_ret (pe_tup (pa_cons (pv 4) (pa_cons (pv 5) (pa_cons (pe_ix ix_list (pe_lst1 (pa_cons pe_str (pa_cons pe_str (pa_cons pe_str (pa_cons pe_str (pa_cons pe_str (pa_cons pe_non (pa_cons pe_int (pa_cons pe_str pa_nil))))))))) (pv 3) (fun _ _ => rfl)) (pa_cons (pv 7) pa_nil)))))))
      pss_nil)
    (pss_cons (ps_if (pt_cmpR op_eq (pv 2) pe_int (nomark _))
      (pss_one (ps_ret (pe_tup (pa_cons (pv 4) (pa_cons (pv 5) (pa_cons (pv 6) (pa_cons (pe_ix ix_list (pe_lst1 (pa_cons (pe_op op_mul_str pe_str pe_int) (pa_cons pe_str (pa_cons pe_non (pa_cons pe_int (pa_cons pe_bl (pa_cons (pe_lst1 (pa_cons pe_str pa_nil)) (pa_cons (pe_tup (pa_cons pe_str pa_nil)) (pa_cons pe_str pa_nil))))))))) (pv 3) (fun _ _ => rfl)) pa_nil)))))))
      pss_nil)
    (pss_cons (ps_set (i := 9) sc_l_spoilt.nd rfl (Or.inl rfl) (pe_lst1 (pa_cons (pv 4) (pa_cons (pv 5) (pa_cons (pv 6) (pa_cons (pv 7) pa_nil))))))
    (pss_one (ps_ret (pe_ix ix_list (pe_lst1 (pa_cons (pv 9) (pa_cons (pe_tup (pa_cons (pv 4) (pa_cons (pv 5) (pa_cons (pv 6) pa_nil)))) (pa_cons (pe_tup (pa_cons (pv 4) (pa_cons (pv 5) (pa_cons (pv 6) (pa_cons (pv 7) (pa_cons pe_str pa_nil)))))) (pa_cons pe_non (pa_cons pe_str (pa_cons pe_int (pa_cons (pe_tup pa_nil) (pa_cons (pe_disp (pps_cons pe_str pe_int pps_nil) (by rfl) (by rfl) (fun z => by cases z) (by decide)) pa_nil))))))))) (pv 3) (fun _ _ => rfl)))))))))))), ?_⟩
  walk_at "rd"
  refine ⟨p, 5, N, rfl, hp, by omega, by decide, by decide, fun way H1 w0 w1 hp1 e1 => ?_⟩
  try dsimp only
  refine ⟨p, 8, _, rfl, hp1, by omega, by decide, by decide, fun kd H2 k0 k1 hp2 e2 => ?_⟩
  have nap : a ≠ p := fun e => by
    obtain ⟨o, ho⟩ := box_some hp
    obtain ⟨_, _, _, _, hb, _⟩ := hp
    rw [e, hb] at ha
    cases ha
  have e12 : Ext1 p H H2 := e1.trans e2
  have ha2 := e12 _ _ nap ha
  refine r_unp (SqT.of ha2) rfl ?_
  walk_at "rd"
  obtain ⟨h1, h2, h3, h4, h5⟩ := ok.cases
  obtain ⟨bh, bn⟩ := ok.bounds
  obtain ⟨ac, at_⟩ := ok.asc
  have c3 := celS_low h3
  have gh : Gi 405 1 (.int h) := .int bh
  have gn : Gi 405 1 (.int n) := .int bn
  have gc : Gi 405 1 (.str c) := (Gi.str ac).le (by dsimp only at c3 ⊢; omega) (Nat.le_refl _)
  have gt : Gi 405 1 (.str t) := (Gi.str at_).le (by dsimp only at h5 ⊢; omega) (Nat.le_refl _)
  have fr : ∀ (H3 : Hp) q, Same H2 H3 → H3 q = none → H q = none := fun H3 q S3 hq => ext_none (box_some hp) e12 (S3.free hq) (box_ne hp2 (S3.free hq))
  have fin4 : ∀ (H3 : Hp) (v0 v1 v2 v3 : V) (d0 d1 d2 d3 : PyData), Same H2 H3 → (∀ G, Nw H H3 G → DV G v0 d0) → (∀ G, Nw H H3 G → DV G v1 d1) → (∀ G, Nw H H3 G → DV G v2 d2) → (∀ G, Nw H H3 G → DV G v3 d3) → Gi 405 1 d0 → Gi 405 1 d1 → Gi 405 1 d2 → Gi 405 1 d3 → lineB (.tuple [d0, d1, d2, d3]) = false →
      (0 + 1 + 1 + 1 + 1 ≤ sizeLine ∧ ∀ q, H3 q = none → Q (.ref q) (upd H3 q (.tup [v0, v1, v2, v3]))) := by
    intro H3 v0 v1 v2 v3 d0 d1 d2 d3 S3 x0 x1 x2 x3 g0 g1 g2 g3 hB
    refine ⟨by decide, fun q hq => ?_⟩
    have S4 : Same H3 (upd H3 q (.tup [v0, v1, v2, v3])) := Same.new hq
    have up : ∀ G, Nw H (upd H3 q (.tup [v0, v1, v2, v3])) G → Nw H H3 G := fun G kG b o hb h3 => kG b o hb (S4 _ _ h3)
    exact k _ _ _ (fun G kG => .tup (kG _ _ (fr H3 q S3 hq) upd_same) (.cons (x0 G (up G kG)) (.cons (x1 G (up G kG)) (.cons (x2 G (up G kG)) (.cons (x3 G (up G kG)) .nil))))) hB ((Gi.tuple (.cons g0 (.cons g1 (.cons g2 (.cons g3 (Gis.nil (W := 0))))))).le (by decide) (by decide)) ((hp2.mono S3).mono S4) (e12.trans fun b o _ hb => S4 _ _ (S3 _ _ hb))
  refine ⟨by decide, fun q1 hq1 => ⟨by decide, fun q2 hq2 nq2 => ⟨by unfold CPow; decide, by decide, fun q3 hq3 nq3 => ?_⟩⟩⟩
  obtain ⟨A1, eA1, SA1, fA1⟩ := gen_new (.tup [V.int 0]) hq1
  rw [eA1] at hq2 hq3
  simp only [eA1]
  obtain ⟨A2, eA2, SA2, fA2⟩ := gen_new (.lst [V.int 0]) hq2
  rw [eA2] at hq3
  simp only [eA2]
  obtain ⟨A3, eA3, SA3, fA3⟩ := gen_new (.lst [V.int (-1), V.bl true, V.non, V.str (Str.ofString "0"), V.bl false, V.ref q1, V.ref q2, V.int (-10 ^ Int.toNat 19)]) hq3
  simp only [eA3]
  have S3 : Same H2 A3 := SA1.trans (SA2.trans SA3)
  obtain ⟨cs, hcs⟩ : ∃ cs : List PyData, cs = [.int (-1), .bool true, .none, .str (Str.ofString "0"), .bool false, .tuple [.int 0], .list [.int 0], .int (-10 ^ Int.toNat 19)] := ⟨_, rfl⟩
  have n1 := fr H2 q1 (Same.refl H2) hq1
  have n2 := fr A1 q2 SA1 hq2
  have dvc : ∀ G, Nw H A3 G → DVs G [V.int (-1), V.bl true, V.non, V.str (Str.ofString "0"), V.bl false, V.ref q1, V.ref q2, V.int (-10 ^ Int.toNat 19)] cs := fun G kG => by
    rw [hcs]
    exact .cons (.int _) (.cons (.bl _) (.cons .non (.cons (.str _) (.cons (.bl _) (.cons (.tup (kG _ _ n1 (SA3 _ _ (SA2 _ _ fA1))) (.cons (.int _) .nil)) (.cons (.lst (kG _ _ n2 (SA3 _ _ fA2)) nq2 (.cons (.int _) .nil)) (.cons (.int _) .nil)))))))
  have cB : ∀ d ∈ cs, cntB d = false ∧ Gi 405 1 d := by
    intro d hd
    rw [hcs] at hd
    simp only [List.mem_cons, List.not_mem_nil, or_false] at hd
    rcases hd with rfl | rfl | rfl | rfl | rfl | rfl | rfl | rfl
    · exact ⟨by decide, .int ⟨by decide, by decide⟩⟩
    · exact ⟨rfl, .bl _⟩
    · exact ⟨rfl, .non⟩
    · exact ⟨rfl, (Gi.str (pl_of (by decide +kernel)).asc).le (by decide +kernel) (Nat.le_refl _)⟩
    · exact ⟨rfl, .bl _⟩
    · exact ⟨rfl, ⟨by decide, by decide, by decide, by decide⟩⟩
    · exact ⟨rfl, ⟨by decide, by decide, by decide, by decide⟩⟩
    · exact ⟨by decide, .int ⟨by decide, by decide⟩⟩
  have lcs : cs.length = 8 := by rw [hcs]; rfl
  obtain ⟨v0, d0, e0, m0, hv0⟩ := dvs_pickG dvc (by rw [hcs]; rfl) k0 (by omega)
  obtain ⟨b0, g0⟩ := cB d0 m0
  refine ⟨by simp [scal], ?_⟩
  split
  · refine r_ixL (.of fA3) e0 ?_
    exact fin4 A3 _ _ _ _ _ _ _ _ S3 hv0 (fun _ _ => .int n) (fun _ _ => .str c) (fun _ _ => .str t) g0 gn gc gt (by
      show (cntB d0 && _) = false
      rw [b0]
      rfl)
  refine ⟨by simp [scal], ?_⟩
  split
  · refine r_ixL (.of fA3) e0 ?_
    exact fin4 A3 _ _ _ _ _ _ _ _ S3 (fun _ _ => .int h) hv0 (fun _ _ => .str c) (fun _ _ => .str t) gh g0 gc gt (by
      show (cntB (.int h) && (cntB d0 && _)) = false
      rw [b0]
      simp)
  refine ⟨by simp [scal], ?_⟩
  split
  · refine ⟨by decide, fun q4 hq4 nq4 => ?_⟩
    obtain ⟨A4, eA4, SA4, fA4⟩ := gen_new (.lst [V.str (Str.ofString ""), V.str (Str.ofString "abcdefghi"), V.str (Str.ofString "A"), V.str (Str.ofString "a1"), V.str (Str.ofString "a b"), V.non, V.int 5, V.str (Str.ofString "a\n")]) hq4
    rw [eA4]
    obtain ⟨ss, hss⟩ : ∃ ss : List PyData, ss = [.str (Str.ofString ""), .str (Str.ofString "abcdefghi"), .str (Str.ofString "A"), .str (Str.ofString "a1"), .str (Str.ofString "a b"), .none, .int 5, .str (Str.ofString "a\n")] := ⟨_, rfl⟩
    have dvs : ∀ G, Nw H A4 G → DVs G [V.str (Str.ofString ""), V.str (Str.ofString "abcdefghi"), V.str (Str.ofString "A"), V.str (Str.ofString "a1"), V.str (Str.ofString "a b"), V.non, V.int 5, V.str (Str.ofString "a\n")] ss := fun G kG => by
      rw [hss]
      exact .cons (.str _) (.cons (.str _) (.cons (.str _) (.cons (.str _) (.cons (.str _) (.cons .non (.cons (.int _) (.cons (.str _) .nil)))))))
    have sB : ∀ d ∈ ss, cellB d = false ∧ Gi 405 1 d := by
      intro d hd
      rw [hss] at hd
      simp only [List.mem_cons, List.not_mem_nil, or_false] at hd
      rcases hd with rfl | rfl | rfl | rfl | rfl | rfl | rfl | rfl
      · exact ⟨by decide +kernel, by decide +kernel, by decide +kernel, by decide +kernel, by decide +kernel⟩
      · exact ⟨by decide +kernel, by decide +kernel, by decide +kernel, by decide +kernel, by decide +kernel⟩
      · exact ⟨by decide +kernel, by decide +kernel, by decide +kernel, by decide +kernel, by decide +kernel⟩
      · exact ⟨by decide +kernel, by decide +kernel, by decide +kernel, by decide +kernel, by decide +kernel⟩
      · exact ⟨by decide +kernel, by decide +kernel, by decide +kernel, by decide +kernel, by decide +kernel⟩
      · exact ⟨rfl, .non⟩
      · exact ⟨rfl, .int ⟨by decide, by decide⟩⟩
      · exact ⟨by decide +kernel, by decide +kernel, by decide +kernel, by decide +kernel, by decide +kernel⟩
    have lss : ss.length = 8 := by rw [hss]; rfl
    obtain ⟨v1, d1, e1', m1, hv1⟩ := dvs_pickG dvs (by rw [hss]; rfl) k0 (by omega)
    obtain ⟨b1, g1⟩ := sB d1 m1
    refine r_ixL (.of fA4) e1' ?_
    exact fin4 A4 _ _ _ _ _ _ _ _ (S3.trans SA4) (fun _ _ => .int h) (fun _ _ => .int n) hv1 (fun _ _ => .str t) gh gn g1 gt (by
      show (cntB (.int h) && (cntB (.int n) && (cellB d1 && _))) = false
      rw [b1]
      simp)
  refine ⟨by simp [scal], ?_⟩
  split
  · refine ⟨mulOk_of (by decide) (by decide) (by decide +kernel), by decide, fun q4 hq4 nq4 => ?_⟩
    obtain ⟨A4, eA4, SA4, fA4⟩ := gen_new (.lst [V.str (Str.ofString "a")]) hq4
    simp only [eA4]
    refine ⟨by decide, fun q5 hq5 => ?_⟩
    obtain ⟨A5, eA5, SA5, fA5⟩ := gen_new (.tup [V.str (Str.ofString "a")]) hq5
    simp only [eA5]
    refine ⟨by decide, fun q6 hq6 nq6 => ?_⟩
    obtain ⟨A6, eA6, SA6, fA6⟩ := gen_new (.lst [V.str (Txt.mul (Str.ofString "a") 41), V.str (Str.ofString "a\n"), V.non, V.int 5, V.bl true, V.ref q4, V.ref q5, V.str (Str.ofString "\t")]) hq6
    simp only [eA6]
    obtain ⟨ss, hss⟩ : ∃ ss : List PyData, ss = [.str (Txt.mul (Str.ofString "a") 41), .str (Str.ofString "a\n"), .none, .int 5, .bool true, .list [.str (Str.ofString "a")], .tuple [.str (Str.ofString "a")], .str (Str.ofString "\t")] := ⟨_, rfl⟩
    have n4 := fr A3 q4 S3 hq4
    have n5 := fr A4 q5 (S3.trans SA4) hq5
    have dvs : ∀ G, Nw H A6 G → DVs G [V.str (Txt.mul (Str.ofString "a") 41), V.str (Str.ofString "a\n"), V.non, V.int 5, V.bl true, V.ref q4, V.ref q5, V.str (Str.ofString "\t")] ss := fun G kG => by
      rw [hss]
      exact .cons (.str _) (.cons (.str _) (.cons .non (.cons (.int _) (.cons (.bl _) (.cons (.lst (kG _ _ n4 (SA6 _ _ (SA5 _ _ fA4))) nq4 (.cons (.str _) .nil)) (.cons (.tup (kG _ _ n5 (SA6 _ _ fA5)) (.cons (.str _) .nil)) (.cons (.str _) .nil)))))))
    have sB : ∀ d ∈ ss, textB d = false ∧ Gi 405 1 d := by
      intro d hd
      rw [hss] at hd
      simp only [List.mem_cons, List.not_mem_nil, or_false] at hd
      rcases hd with rfl | rfl | rfl | rfl | rfl | rfl | rfl | rfl
      · exact ⟨by decide +kernel, by decide +kernel, by decide +kernel, by decide +kernel, by decide +kernel⟩
      · exact ⟨by decide +kernel, by decide +kernel, by decide +kernel, by decide +kernel, by decide +kernel⟩
      · exact ⟨rfl, .non⟩
      · exact ⟨rfl, .int ⟨by decide, by decide⟩⟩
      · exact ⟨rfl, .bl _⟩
      · exact ⟨rfl, by decide +kernel, by decide +kernel, by decide +kernel, by decide +kernel⟩
      · exact ⟨rfl, by decide +kernel, by decide +kernel, by decide +kernel, by decide +kernel⟩
      · exact ⟨by decide +kernel, by decide +kernel, by decide +kernel, by decide +kernel, by decide +kernel⟩
    have lss : ss.length = 8 := by rw [hss]; rfl
    obtain ⟨v1, d1, e1', m1, hv1⟩ := dvs_pickG dvs (by rw [hss]; rfl) k0 (by omega)
    obtain ⟨b1, g1⟩ := sB d1 m1
    refine r_ixL (.of fA6) e1' ?_
    exact fin4 A6 _ _ _ _ _ _ _ _ (S3.trans (SA4.trans (SA5.trans SA6))) (fun _ _ => .int h) (fun _ _ => .int n) (fun _ _ => .str c) hv1 gh gn gc g1 (by
      show (cntB (.int h) && (cntB (.int n) && (cellB (.str c) && textB d1))) = false
      rw [b1]
      simp)
  refine ⟨by decide, fun q4 hq4 nq4 => ?_⟩
  obtain ⟨A4, eA4, SA4, fA4⟩ := gen_new (.lst [V.int h, V.int n, V.str c, V.str t]) hq4
  simp only [eA4]
  refine ⟨by decide, fun q5 hq5 => ?_⟩
  obtain ⟨A5, eA5, SA5, fA5⟩ := gen_new (.tup [V.int h, V.int n, V.str c]) hq5
  simp only [eA5]
  refine ⟨by decide, fun q6 hq6 => ?_⟩
  obtain ⟨A6, eA6, SA6, fA6⟩ := gen_new (.tup [V.int h, V.int n, V.str c, V.str t, V.str (Str.ofString "")]) hq6
  simp only [eA6]
  refine ⟨by decide, fun q7 hq7 => ?_⟩
  obtain ⟨A7, eA7, SA7, fA7⟩ := gen_new (.tup []) hq7
  simp only [eA7]
  intro q8 hq8
  refine ⟨[(Sum.inr (Str.ofString "a"), V.int 1)], rfl, by decide, by decide, fun q9 hq9 nq9 => ?_⟩
  obtain ⟨A8, eA8, SA8, fA8⟩ := gen_new (.dK (mergeK [] [((Sum.inr (Str.ofString "a") : Key), V.int 1)])) hq8
  have mk : mergeK [] [((.inr (Str.ofString "a") : Key), V.int 1)] = [(.inr (Str.ofString "a"), V.int 1)] := by
    simp [mergeK, putK]
  rw [mk] at fA8
  rw [eA8] at hq9
  simp only [eA8]
  obtain ⟨A9, eA9, SA9, fA9⟩ := gen_new (.lst [V.ref q4, V.ref q5, V.ref q6, V.non, V.str (Str.ofString ""), V.int 5, V.ref q7, V.ref q8]) hq9
  simp only [eA9]
  obtain ⟨ss, hss⟩ : ∃ ss : List PyData, ss = [.list [.int h, .int n, .str c, .str t], .tuple [.int h, .int n, .str c], .tuple [.int h, .int n, .str c, .str t, .str (Str.ofString "")], .none, .str (Str.ofString ""), .int 5, .tuple [], .dict [(.str (Str.ofString "a"), .int 1)]] := ⟨_, rfl⟩
  have T8 := SA9
  have T7 := SA8.trans T8
  have T6 := SA7.trans T7
  have T5 := SA6.trans T6
  have T4 := SA5.trans T5
  have n4 := fr A3 q4 S3 hq4
  have S34 := S3.trans SA4
  have S35 := S34.trans SA5
  have S36 := S35.trans SA6
  have S37 := S36.trans SA7
  have n5 := fr A4 q5 S34 hq5
  have n6 := fr A5 q6 S35 hq6
  have n7 := fr A6 q7 S36 hq7
  have n8 := fr A7 q8 S37 hq8
  have dvs : ∀ G, Nw H A9 G → DVs G [V.ref q4, V.ref q5, V.ref q6, V.non, V.str (Str.ofString ""), V.int 5, V.ref q7, V.ref q8] ss := fun G kG => by
    rw [hss]
    refine .cons (.lst (kG _ _ n4 (T4 _ _ fA4)) nq4 (.cons (.int _) (.cons (.int _) (.cons (.str _) (.cons (.str _) .nil))))) (.cons (.tup (kG _ _ n5 (T5 _ _ fA5)) (.cons (.int _) (.cons (.int _) (.cons (.str _) .nil)))) (.cons (.tup (kG _ _ n6 (T6 _ _ fA6)) (.cons (.int _) (.cons (.int _) (.cons (.str _) (.cons (.str _) (.cons (.str _) .nil)))))) (.cons .non (.cons (.str _) (.cons (.int _) (.cons (.tup (kG _ _ n7 (T7 _ _ fA7)) .nil) (.cons (.dct (kG _ _ n8 (T8 _ _ fA8)) ?_) .nil)))))))
    exact .cons (k := .inr (Str.ofString "a")) (.int _) .nil
  have sB : ∀ d ∈ ss, lineB d = false ∧ Gi 2000 2 d := by
    intro d hd
    rw [hss] at hd
    simp only [List.mem_cons, List.not_mem_nil, or_false] at hd
    have ge : Gi 10 1 (.str (Str.ofString "")) := (Gi.str (pl_of (by decide +kernel)).asc).le (by decide +kernel) (Nat.le_refl _)
    rcases hd with rfl | rfl | rfl | rfl | rfl | rfl | rfl | rfl
    · exact ⟨rfl, (Gi.list (.cons gh (.cons gn (.cons gc (.cons gt (Gis.nil (W := 0))))))).le (by decide) (Nat.le_refl _)⟩
    · exact ⟨rfl, (Gi.tuple (.cons gh (.cons gn (.cons gc (Gis.nil (W := 0)))))).le (by decide) (Nat.le_refl _)⟩
    · exact ⟨rfl, (Gi.tuple (.cons gh (.cons gn (.cons gc (.cons gt (.cons ge (Gis.nil (W := 0)))))))).le (by decide) (Nat.le_refl _)⟩
    · exact ⟨rfl, .non⟩
    · exact ⟨rfl, by decide +kernel, by decide +kernel, by decide +kernel, by decide +kernel⟩
    · exact ⟨rfl, (Gi.int ⟨by decide, by decide⟩).le (by decide) (Nat.le_refl _)⟩
    · exact ⟨rfl, by decide, by decide, by decide, by decide⟩
    · exact ⟨rfl, by decide +kernel, by decide +kernel, by decide +kernel, by decide +kernel⟩
  have lss : ss.length = 8 := by rw [hss]; rfl
  obtain ⟨v1, d1, e1', m1, hv1⟩ := dvs_pickG dvs (by rw [hss]; rfl) k0 (by omega)
  obtain ⟨b1, g1⟩ := sB d1 m1
  refine r_ixL (.of fA9) e1' ?_
  have S9 : Same H2 A9 := S3.trans (SA4.trans T4)
  exact k _ _ _ hv1 b1 g1 (hp2.mono S9) (e12.trans fun b o _ hb => S9 _ _ hb)
end
end K06


namespace K06
open PySem L2 Nv

theorem dvs_take {H : Hp} : ∀ (n : Nat) {xs : List V} {ds : List PyData}, DVs H xs ds → DVs H (xs.take n) (ds.take n)
  | 0, _, _, _ => by simpa using (.nil : DVs H [] [])
  | n + 1, _, _, .nil => by simpa using (.nil : DVs H [] [])
  | n + 1, _, _, .cons a r => .cons a (dvs_take n r)
theorem dvs_drop {H : Hp} : ∀ (n : Nat) {xs : List V} {ds : List PyData}, DVs H xs ds → DVs H (xs.drop n) (ds.drop n)
  | 0, _, _, h => h
  | n + 1, _, _, .nil => by simpa using (.nil : DVs H [] [])
  | n + 1, _, _, .cons a r => dvs_drop n r
theorem gis_all {W D : Nat} : ∀ {ds : List PyData}, (∀ d ∈ ds, Gi W D d) → Gis ((W + 1) * ds.length) D ds
  | [], _ => Gis.nil
  | d :: r, h => by
    have := Gis.cons (h d (by simp)) (gis_all (ds := r) fun e he => h e (by simp [he]))
    refine this.le ?_ (Nat.le_refl _)
    rw [List.length_cons, Nat.mul_add, Nat.mul_one]
    omega
theorem LOk.gi {x : L4} (h : LOk x) : Gi 2000 2 (dl x) := by
  obtain ⟨_, _, h3, _, h5⟩ := h.cases
  have c := celS_low h3
  obtain ⟨b1, b2⟩ := h.bounds
  obtain ⟨a1, a2⟩ := h.asc
  refine (Gi.tuple (W := 2000) (D := 1) ?_)
  exact (Gis.cons (.int b1) (.cons (.int b2) (.cons (.str a1) (.cons (.str a2) (Gis.nil (W := 0)))))).le (by omega) (Nat.le_refl _)
/-- what is no list of lines -/
inductive OdV (H H' : Hp) : V → PyData → Prop
  | dat {v : V} {d : PyData} : isL d = false → DV H' v d → OdV H H' v d
  | lst {a : Addr} {xs : List V} {ds : List PyData} : H a = none → H' a = some (.lst xs) → (∀ G, (∀ b o, b ≠ a → H' b = some o → G b = some o) → DVs G xs ds) → OdV H H' (.ref a) (.list ds)
theorem OdV.dr {H H' : Hp} {v : V} {d : PyData} : OdV H H' v d → DR H' v d
  | .dat _ h => .dv h
  | .lst _ h k => .raw h (k H' fun _ _ _ q => q)
def spOdd : Sp := fun vs H Q _ => ∃ (p e : Addr) (N : Nat) (es : List L4) (ws : List V), vs = [.ref p, .ref e] ∧ BoxAt H p N ∧ N ≤ 500000 ∧ e ≠ p ∧ H e = some (.lst ws) ∧ DVs H ws (es.map dl) ∧ (∀ x ∈ es, LF x) ∧ es.length ≤ 100000 ∧
  ∀ v d H', OdV H H' v d → areB d = false → Its d → Gi 15000 4 d → BoxAt H' p (N + 260) → Ext1 p H H' → Q v H'
section
variable {P : Program} {w : World} {K : PySem.W.Frag} {mg : Str → Option Value} {base : Heap}
theorem ok_l_odd (T : Tx K mg) : FnG P w K mg base 5 T.d_l_odd.f T.d_l_odd.fd ["box", "elder"] spOdd := by
  refine okG0 T.d_l_odd.F sc_l_odd (fun vs H Q E h => ?_) (fun cdv A outer s H vs Q E hg hr h => ?_)
  · obtain ⟨p, e, N, es, ws, rfl, _⟩ := h
    rfl
  obtain ⟨p, e, N, es, ws, rfl, hp, hN, nep, he, hes, oks, nes, k⟩ := h
  have sz : sizeLine = 16777216 := sizeLine_eq
  refine ⟨_, (pss_cons (ps_par (i := 2) (j := 3) rfl sc_l_odd.nd rfl rfl (by decide) rfl rfl (pa_cons (pe_cG (ok_l_take T) T.d_l_take.b takes0 hg (hr.mono (by decide)) T.d_l_take.m T.d_l_take.F.kp (pa_cons (pv 0) (pa_cons pe_int pa_nil))) (pa_cons (pe_cG (ok_l_lines T) T.d_l_lines.b takes0 hg (hr.mono (by decide)) T.d_l_lines.m T.d_l_lines.F.kp (pa_cons (pv 0) (pa_cons (pv 1) pa_nil))) pa_nil)) (by rfl))
    (pss_cons (ps_expr (pe_bm PySem.F.plainAttrs_list PySem.F.slot_list_insert PySem.F.type_list_insert mt_insert (pv 3) (pa_cons (pe_cG (ok_l_take T) T.d_l_take.b takes0 hg (hr.mono (by decide)) T.d_l_take.m T.d_l_take.F.kp (pa_cons (pv 0) (pa_cons (pe_op op_add (pe_callB call_len_seq (by rfl) T.n_len (by decide +kernel) (pa_cons (pv 3) pa_nil)) pe_int) pa_nil))) (pa_cons (pe_cG (ok_l_spoilt T) T.d_l_spoilt.b takes0 hg (hr.mono (by decide)) T.d_l_spoilt.m T.d_l_spoilt.F.kp (pa_cons (pv 0) (pa_cons (pe_cG (ok_l_line T) T.d_l_line.b takes0 hg (hr.mono (by decide)) T.d_l_line.m T.d_l_line.F.kp (pa_cons (pv 0) (pa_cons pe_int pa_nil))) pa_nil))) pa_nil))))
    (pss_cons (ps_if (pt_cmpR op_lt (pv 2) pe_int (nomark _))
      (pss_one (ps_ret (pv 3)))
      pss_nil)
    (pss_cons (ps_if (pt_cmpR op_lt (pv 2) pe_int (nomark _))
      (pss_one (ps_ret (pe_callTy call_tuple_of (by rfl) T.n_tuple (by decide +kernel) (pa_cons (pv 3) pa_nil))))
      pss_nil)
    (pss_one (ps_ret (pe_ix ix_list (pe_lst1 (pa_cons pe_non (pa_cons pe_int (pa_cons pe_str (pa_cons pe_dnewK (pa_cons (pe_disp (pps_cons pe_str pe_int pps_nil) (by rfl) (by rfl) (fun z => by cases z) (by decide)) (pa_cons (pe_cG (ok_l_line T) T.d_l_line.b takes0 hg (hr.mono (by decide)) T.d_l_line.m T.d_l_line.F.kp (pa_cons (pv 0) (pa_cons pe_int pa_nil))) (pa_cons pe_str pa_nil)))))))) (pe_op op_sub (pv 2) pe_int) (fun _ _ => rfl)))))))), ?_⟩
  walk_at "rd"
  refine ⟨p, 16, N, rfl, hp, by omega, by decide, by decide, fun kd H1 k0 k1 hp1 e1 => ?_⟩
  try dsimp only
  have he1 := e1 _ _ nep he
  have hes1 : DVs H1 ws (es.map dl) := dls_box hp e1 hes
  refine ⟨p, e, _, es, ws, rfl, hp1, by omega, nep, he1, hes1, oks, nes, fun ms D us H2 hD fD du okm lm hp2 e2 => ?_⟩
  walk_at "rd"
  refine ⟨.inl ⟨rfl, _, .of fD⟩, us, .inl (.of fD), p, _, _, rfl, hp2, by omega, by omega, ?_, fun j H3 j0 j1 hp3 e3 => ?_⟩
  · have := du.len
    rw [List.length_map] at this
    omega
  try dsimp only
  refine ⟨p, 1000, _, rfl, hp3, by omega, fun y a H4 oy _ na da hp4 e4 => ?_⟩
  try dsimp only
  refine ⟨p, _, .ref a, y, rfl, hp4, by omega, da, oy.ok, fun u d H5 hu hB5 g5 hp5 e5 => ?_⟩
  try dsimp only
  have nD : D ≠ p := box_ne hp1 hD
  have fD3 := e3 _ _ nD fD
  have fD4 := e4 _ _ nD fD3
  have fD5 := e5 _ _ nD fD4
  have du5 : DVs H5 us (ms.map dl) := dls_box hp4 e5 (dls_box hp3 e4 (dls_box hp2 e3 du))
  obtain ⟨jn, rfl⟩ : ∃ jn : Nat, j = (jn : Int) := ⟨j.toNat, by omega⟩
  have lu := du5.len
  rw [List.length_map] at lu
  have e15 : Ext1 p H H5 := (((e1.trans e2).trans e3).trans e4).trans e5
  have HD : H D = none := ext_none (box_some hp) e1 hD nD
  refine ⟨us, _, _, ⟨rfl, rfl⟩, fD5, by omega, by omega, by omega, ?_⟩
  obtain ⟨xs, hxs⟩ : ∃ xs, us.take (Int.toNat (jn : Int)) ++ [u] ++ us.drop (Int.toNat (jn : Int)) = xs := ⟨_, rfl⟩
  obtain ⟨ds, hds⟩ : ∃ ds, (ms.map dl).take (Int.toNat (jn : Int)) ++ [d] ++ (ms.map dl).drop (Int.toNat (jn : Int)) = ds := ⟨_, rfl⟩
  rw [hxs]
  obtain ⟨H6, e6⟩ : ∃ H6, upd H5 D (.lst xs) = H6 := ⟨_, rfl⟩
  have f6 : H6 D = some (.lst xs) := by rw [← e6]; exact upd_same
  have k6 : ∀ b o, b ≠ D → H5 b = some o → H6 b = some o := fun b o nb hb => by rw [← e6, upd_ne nb]; exact hb
  have x6 : Ext1 p H H6 := by rw [← e6]; exact ext_upd e15 HD
  have hp6 : BoxAt H6 p (N + 1 + 160 + 1 + 30 + 2) := by rw [← e6]; exact box_upd hp5 nD
  rw [e6]
  have dsG : ∀ G, (∀ b o, b ≠ D → H5 b = some o → G b = some o) → DVs G xs ds := by
    intro G kG
    have d1 : DVs G us (ms.map dl) := dls_keep ⟨_, fD5⟩ kG du5
    have d2 : DV G u d := hu G fun b o hb h5 => kG b o (fun q => by rw [q, fD4] at hb; cases hb) h5
    rw [← hxs, ← hds]
    exact dvs_app (dvs_app (dvs_take _ d1) (.cons d2 .nil)) (dvs_drop _ d1)
  have mem : ∀ q, q ∈ ds → q = d ∨ q ∈ ms.map dl := fun q hq => by
    rw [← hds] at hq
    rcases List.mem_append.mp hq with hq | hq
    · rcases List.mem_append.mp hq with hq | hq
      · exact .inr (List.mem_of_mem_take hq)
      · exact .inl (by simpa using hq)
    · exact .inr (List.mem_of_mem_drop hq)
  have ld : ds.length ≤ 7 := by
    rw [← hds, List.length_append, List.length_append, List.length_take, List.length_drop, List.length_map, List.length_singleton]
    omega
  have gAll : ∀ q ∈ ds, Gi 2000 2 q := fun q hq => by
    rcases mem q hq with rfl | hq
    · exact g5
    · obtain ⟨x, hx, rfl⟩ := List.mem_map.mp hq
      exact (okm x hx).ok.gi
  have gs : Gis 14007 2 ds := (gis_all gAll).le (by omega) (Nat.le_refl _)
  have dm : d ∈ ds := by rw [← hds]; simp
  have hall : ds.all lineB = false := by
    rw [List.all_eq_false]
    exact ⟨d, dm, by rw [hB5]; decide⟩
  have lens : ∀ q ∈ ds, Lens q := fun q hq => (gAll q hq).lens (by decide)
  split
  · exact k _ (.list ds) H6 (.lst HD f6 fun G kG => dsG G fun b o nb hb => kG b o nb (k6 b o nb hb)) hall ⟨by show ds.length ≤ 20000; omega, lens⟩ ((Gi.list gs).le (by decide) (by decide)) (hp6.le (by omega)) x6
  split
  · refine ⟨xs, .inl ⟨.of f6, fun l hl => ?_⟩⟩
    have S7 : Same H6 (upd H6 l (.tup xs)) := Same.new hl
    refine k _ (.tuple ds) _ (.dat rfl (.tup upd_same (dsG _ fun b o nb hb => S7 _ _ (k6 b o nb hb)))) hall ⟨by show ds.length ≤ 20000; omega, lens⟩ ((Gi.tuple gs).le (by decide) (by decide)) ((hp6.mono S7).le (by omega)) (x6.trans fun b o _ hb => S7 _ _ hb)
  · intro q1 hq1
    obtain ⟨A1, eA1, SA1, fA1⟩ := gen_new (.dK []) hq1
    rw [eA1]
    intro q2 hq2
    refine ⟨[(Sum.inr (Str.ofString "a"), V.int 1)], rfl, by decide, ?_⟩
    obtain ⟨A2, eA2, SA2, fA2⟩ := gen_new (.dK (mergeK [] [((Sum.inr (Str.ofString "a") : Key), V.int 1)])) hq2
    have mk : mergeK [] [((.inr (Str.ofString "a") : Key), V.int 1)] = [(.inr (Str.ofString "a"), V.int 1)] := by
      simp [mergeK, putK]
    rw [mk] at fA2
    rw [eA2]
    have S62 := SA1.trans SA2
    refine ⟨p, 1000, _, rfl, hp6.mono S62, by omega, fun y2 a2 H7 oy2 _ na2 da2 hp7 e7 => ?_⟩
    try dsimp only
    refine ⟨by decide, fun q3 hq3 nq3 => ?_⟩
    have n1 : q1 ≠ p := box_ne hp6 hq1
    have n2 : q2 ≠ p := box_ne (hp6.mono SA1) hq2
    have f1 := e7 _ _ n1 (SA2 _ _ fA1)
    have f2 := e7 _ _ n2 fA2
    obtain ⟨A3, eA3, SA3, fA3⟩ := gen_new (.lst [V.non, V.int 5, V.str (Str.ofString ""), V.ref q1, V.ref q2, V.ref a2, V.str (Str.ofString "ab")]) hq3
    rw [eA3]
    obtain ⟨ss, hss⟩ : ∃ ss : List PyData, ss = [.none, .int 5, .str (Str.ofString ""), .dict [], .dict [(.str (Str.ofString "a"), .int 1)], dl y2, .str (Str.ofString "ab")] := ⟨_, rfl⟩
    have dvs : DVs A3 [V.non, V.int 5, V.str (Str.ofString ""), V.ref q1, V.ref q2, V.ref a2, V.str (Str.ofString "ab")] ss := by
      rw [hss]
      exact .cons .non (.cons (.int _) (.cons (.str _) (.cons (.dct (SA3 _ _ f1) .nil) (.cons (.dct (SA3 _ _ f2) (.cons (k := .inr (Str.ofString "a")) (.int _) .nil)) (.cons (da2.mono SA3) (.cons (.str _) .nil))))))
    have no : ∀ q : PyData, q ∈ ([] : List PyData) → Lens q := fun q hq => by simp at hq
    have sB : ∀ d ∈ ss, isL d = false ∧ areB d = false ∧ Its d ∧ Gi 15000 4 d := by
      intro d hd
      rw [hss] at hd
      simp only [List.mem_cons, List.not_mem_nil, or_false] at hd
      rcases hd with rfl | rfl | rfl | rfl | rfl | rfl | rfl
      · exact ⟨rfl, rfl, ⟨by decide, no⟩, .non⟩
      · exact ⟨rfl, rfl, ⟨by decide, no⟩, (Gi.int ⟨by decide, by decide⟩).le (by decide) (Nat.le_refl _)⟩
      · exact ⟨rfl, rfl, ⟨by decide, no⟩, by decide +kernel, by decide +kernel, by decide +kernel, by decide +kernel⟩
      · exact ⟨rfl, rfl, ⟨by decide, no⟩, by decide +kernel, by decide +kernel, by decide +kernel, by decide +kernel⟩
      · exact ⟨rfl, rfl, ⟨by decide, no⟩, by decide +kernel, by decide +kernel, by decide +kernel, by decide +kernel⟩
      · refine ⟨rfl, rfl, ⟨by show 4 ≤ 20000; decide, fun q hq => ?_⟩, oy2.ok.gi.le (by decide) (by decide)⟩
        have L := oy2.ok.lens
        refine L.item hq fun es e => ?_
        rw [e] at hq
        simp [dl, lineD, itemsD] at hq
      · exact ⟨rfl, rfl, ⟨by decide, no⟩, by decide +kernel, by decide +kernel, by decide +kernel, by decide +kernel⟩
    have lss : ss.length = 7 := by rw [hss]; rfl
    obtain ⟨v1, d1, e1', m1, hv1⟩ := dvs_pick (i := kd - 9) dvs (by omega) (by omega)
    obtain ⟨b1, b2, b3, g1⟩ := sB d1 m1
    refine r_ixL (.of fA3) e1' ?_
    exact k _ _ _ (.dat b1 hv1) b2 b3 g1 ((hp7.mono SA3).le (by omega)) (((x6.trans fun b o _ hb => S62 _ _ hb).trans e7).trans fun b o _ hb => SA3 _ _ hb)
end
end K06


namespace K06
open PySem L2 Nv

theorem drs_of {H : Hp} : ∀ {vs : List V} {ds : List PyData}, DVs H vs ds → DRs H vs ds
  | _, _, .nil => .nil
  | _, _, .cons a r => .cons (.dv a) (drs_of r)
theorem r_repDR {H : Hp} {Q : VK} {v : V} {d : PyData} {W D : Nat} (h : DR H v d) (g : Gi W D d) (hW : W ≤ 100000) (hD : D ≤ 60) (q : Q (.str d.shown) H) : rReprAR [v] H Q := by
  have sz : sizeLine = 16777216 := sizeLine_eq
  have l : d.shown.length ≤ sizeLine := by
    have := g.len
    omega
  cases h with
  | raw ha r => exact .inl ⟨_, _, _, rfl, ha, drs_of r, g.h, Nat.le_trans g.p hD, l, q⟩
  | dv h =>
    refine .inr ⟨v, d, rfl, h, g.h, Nat.le_trans g.p hD, l, fun i e => ?_, q⟩
    have := g.h
    rw [e] at this
    simpa only [PyData.showable, decide_eq_true_eq] using this
/-- repr of a list of a word and such a value -/
theorem r_rep2 {H : Hp} {Q : VK} {v : V} {p : Addr} {z : Str} {d : PyData} {W D : Nat} (hp : H p = some (.lst [.str z, v])) (az : Asc z) (lz : z.length ≤ 100) (h : DR H v d) (g : Gi W D d) (hW : W ≤ 100000) (hD : D ≤ 50) (q : Q (.str (PyData.list [.str z, d]).shown) H) : rReprAR [.ref p] H Q := by
  have sz : sizeLine = 16777216 := sizeLine_eq
  have g2 : Gi (z.length + 1 + (W + 1 + 0)) (D + 1) (.list [.str z, d]) := Gi.list (.cons (.str az) (.cons g (Gis.nil (W := 0))))
  have l := g2.len
  exact .inl ⟨_, _, _, rfl, hp, .cons (.dv (.str _)) (.cons h .nil), g2.h, by have := g2.p; omega, by omega, q⟩
theorem Gi.unlist {W D : Nat} {ds : List PyData} (g : Gi W (D + 1) (.list ds)) : Gis W D ds := by
  refine ⟨?_, ?_, ?_, ?_⟩
  · simpa only [PyData.leavesShort] using g.s
  · simpa only [PyData.weight] using g.w
  · have := g.p
    simp only [PyData.depth] at this
    omega
  · simpa only [PyData.showable] using g.h
theorem Gis.snoc {W2 D : Nat} {d : PyData} (h : Gi W2 D d) : ∀ {ds : List PyData} {W : Nat}, Gis W D ds → Gis (W + (W2 + 1)) D (ds ++ [d])
  | [], W, g => (Gis.cons h (Gis.nil (W := 0))).le (by omega) (Nat.le_refl _)
  | e :: r, W, g => by
    have a := g.s
    have b := g.w
    have c := g.p
    have e1 := g.h
    simp only [PyData.leavesShortAll, Bool.and_eq_true] at a
    simp only [PyData.weightAll] at b
    simp only [PyData.depthAll] at c
    simp only [PyData.showableAll, Bool.and_eq_true] at e1
    have g1 : Gi e.weight D e := ⟨a.1, Nat.le_refl _, by omega, e1.1⟩
    have g2 : Gis (PyData.weightAll r) D r := ⟨a.2, Nat.le_refl _, by omega, e1.2⟩
    exact (Gis.cons g1 (Gis.snoc h g2)).le (by omega) (Nat.le_refl _)
def spRefused (CL CD : Addr) : Sp := fun vs H Q _ => ∃ (H0 : Hp) (d g l st L : Addr) (ls : List L4) (v : V) (dv : PyData) (t : Int), vs = [.ref g, v, .int t] ∧ Whole CL CD H d g l st L ls ∧ d ≠ l ∧ v ≠ .ref l ∧ (fileL ls).length ≤ 60000 ∧
  OdV H0 H v dv ∧ areB dv = false ∧ Its dv ∧ Gi 15000 4 dv ∧
  ∀ H', (∀ b o, (isL dv = true → V.ref b ≠ v) → H b = some o → H' b = some o) → Q (.bl true) H'
section
variable {P : Program} {w : World} {K : PySem.W.Frag} {mg : Str → Option Value} {base : Heap}
theorem ok_l_refused (T : Tx K mg) : FnG P w K mg base 7 T.d_l_refused.f T.d_l_refused.fd ["log", "value", "turn"] (spRefused T.C_Log T.C_Disk) := by
  refine okG0 T.d_l_refused.F sc_l_refused (fun vs H Q E h => ?_) (fun cdv A outer s H vs Q E hg hr h => ?_)
  · obtain ⟨H0, d, g, l, st, L, ls, v, dv, t, rfl, _⟩ := h
    rfl
  obtain ⟨H0, d, g, l, st, L, ls, v, dv, t, rfl, hw, ndl, nvl, nf, hv, hB, its, gi, k⟩ := h
  have sz : sizeLine = 16777216 := sizeLine_eq
  refine ⟨_, (pss_cons (ps_set (i := 3) sc_l_refused.nd rfl (Or.inl rfl) (pe_callB (call_reprAR hg hr.units) (by rfl) T.n_repr (by decide +kernel) (pa_cons (pv 1) pa_nil)))
    (pss_cons (ps_try_asN rfl rfl sc_l_refused.nd takes0
      (fun W pn xe tk _ => (pss_one (ps_set (i := 4) sc_l_refused.nd rfl (Or.inl rfl) (pe_lst1 (pa_cons pe_str (pa_cons (pe_ifExp (pt_cmpR op_eq (pv 2) pe_int (nomark _)) (pe_mG (pv 0) T.cl_Log T.d_Log_put.me (ok_Log_put T) T.d_Log_put.b tk hg (hr.mono (by decide)) (pa_cons (pv 1) pa_nil)) (pe_mGk (pv 0) T.cl_Log T.d_Log_put.me (ok_Log_put T) T.d_Log_put.kb rfl tk hg (hr.mono (by decide)) (pk_cons (pv 1) pk_nil))) pa_nil))))))
      (HdsAs.cons (i := 5) rfl rfl ⟨rfl, by decide, .inl T.m_InvalidLines⟩ (fun a oe cls d pn hz hf => (pss_one (ps_set (i := 4) sc_l_refused.nd rfl (Or.inl rfl) (pe_ifExp (pt_val (pe_callB (call_isX hz hf) (by rfl) T.n_isinstance (by decide +kernel) (pa_cons (pv 5) (pa_cons (pe_glob (v := .ref T.C_UnsaidError) rfl T.m_UnsaidError rfl) pa_nil)))) (pe_lst1 (pa_cons pe_str (pa_cons (pe_xf T.e_InvalidLines.xf T.e_InvalidLines.noF hz hf (pv 5)) pa_nil))) (pe_lst1 (pa_cons pe_str (pa_cons pe_non pa_nil)))))))
      HdsAs.nil))
    (pss_cons (ps_if (pt_cmpR op_ne (pe_callB (call_reprAR hg hr.units) (by rfl) T.n_repr (by decide +kernel) (pa_cons (pv 1) pa_nil)) (pv 3) (nomark _))
      (pss_one (ps_ret pe_bl))
      pss_nil)
    (pss_cons (ps_if (pt_val (pe_callB call_isiA (by rfl) T.n_isinstance (by decide +kernel) (pa_cons (pv 1) (pa_cons (pe_bltn (v := .ty "list") (by rfl) T.n_list (by decide +kernel) rfl) pa_nil))))
      (pss_one (ps_expr (pe_bm PySem.F.plainAttrs_list PySem.F.slot_list_append PySem.F.type_list_append mt_append (pv 1) (pa_cons pe_str pa_nil))))
      pss_nil)
    (pss_one (ps_ret (pe_cmpR op_eq (pe_callB (call_reprAR hg hr.units) (by rfl) T.n_repr (by decide +kernel) (pa_cons (pv 4) pa_nil)) (pe_callB (call_reprAR hg hr.units) (by rfl) T.n_repr (by decide +kernel) (pa_cons (pe_lst1 (pa_cons pe_str (pa_cons (pv 1) pa_nil))) pa_nil)) (nomark _)))))))), ?_⟩
  walk_at "rd"
  have az : Asc (Str.ofString "lines") := (pl_of (by decide +kernel)).asc
  have lz : (Str.ofString "lines").length ≤ 100 := by decide +kernel
  have al : Asc (Str.ofString "more") := (pl_of (by decide +kernel)).asc
  have l5 := file_len5 ls
  have lzz : (tx (fileL ls)).length = (fileL ls).length := tx_len _
  refine r_repDR hv.dr gi (by decide) (by decide) ?_
  refine ⟨by simp [scal], ?_⟩
  split
  all_goals
    refine m_log hw.lg (by decide +kernel) (by decide +kernel) ?_
    refine ⟨g, d, l, ls, tx (fileL ls), v, dv, rfl, hw.lg, hw.dk, ndl, nvl, hv.dr, its, by omega, by omega, fun e => (by rw [hB] at e; cases e), fun _ dd H1 hdd S1 hx => ?_⟩
    refine ⟨true, T.x_InvalidLines_InvalidLines, fun _ a ha => ?_, fun h => (by cases h)⟩
    walk_at "rd"
    refine r_isX T.e_InvalidLines.nv T.i_InvalidLines_UnsaidError hx ?_
    walk_at "rd"
    refine r_xf hx ?_
    refine ⟨by decide, fun p hp np => ?_⟩
    obtain ⟨H2, e2, S2, f2⟩ := gen_new (.lst [V.str (Str.ofString "lines"), v]) hp
    rw [e2]
    have S12 := S1.trans S2
    unfold gone
    walk_at "rd"
    refine r_repDR (hv.dr.mono S12) gi (by decide) (by decide) ?_
    refine ⟨by simp [scal], ?_⟩
    rw [if_neg (by simp)]
    refine .inl ⟨_, .ty _, _, _, _, rfl, .ty _, (hv.dr.mono S12).ty, kit_ty (kit_list dv), ?_⟩
    refine ⟨_, rfl, ?_⟩
    cases hv with
    | dat eL h =>
      rw [eL, if_neg (by decide)]
      refine r_rep2 f2 az lz (.dv (h.mono S12)) gi (by decide) (by decide) ?_
      refine ⟨by decide, fun q hq nq => ?_⟩
      obtain ⟨H3, e3, S3, f3⟩ := gen_new (.lst [V.str (Str.ofString "lines"), v]) hq
      rw [e3]
      refine r_rep2 f3 az lz (.dv ((h.mono S12).mono S3)) gi (by decide) (by decide) ?_
      refine ⟨by simp [scal], ?_⟩
      simp only [decide_true]
      exact k _ fun b o _ hb => S3 _ _ (S12 _ _ hb)
    | @lst c xs ds h0 hc hG =>
      rw [if_pos (show isL (.list ds) = true from rfl)]
      have hc2 := S12 _ _ hc
      have lx := (hG H fun _ _ _ q => q).len
      have nx := its.n
      have nx' : ds.length ≤ 20000 := nx
      refine ⟨.inl ⟨rfl, _, .of hc2⟩, c, xs, _, rfl, rfl, hc2, by omega, ?_⟩
      obtain ⟨H3, e3⟩ : ∃ H3, upd H2 c (.lst (xs ++ [V.str (Str.ofString "more")])) = H3 := ⟨_, rfl⟩
      rw [e3]
      have k3 : ∀ b o, b ≠ c → H2 b = some o → H3 b = some o := fun b o nb hb => by rw [← e3, upd_ne nb]; exact hb
      have f3c : H3 c = some (.lst (xs ++ [V.str (Str.ofString "more")])) := by rw [← e3]; exact upd_same
      have npc : p ≠ c := ne_of_none' hp (S1 _ _ hc)
      have f3p := k3 _ _ npc f2
      have d3 : DVs H3 (xs ++ [V.str (Str.ofString "more")]) (ds ++ [.str (Str.ofString "more")]) :=
        dvs_app (hG H3 fun b o nb hb => k3 _ _ nb (S12 _ _ hb)) (.cons (.str _) .nil)
      have gl : Gi 15010 4 (.list (ds ++ [.str (Str.ofString "more")])) := by
        have gm : Gi 5 3 (.str (Str.ofString "more")) := (Gi.str al).le (by decide +kernel) (Nat.le_refl _)
        exact (Gi.list (Gis.snoc gm gi.unlist)).le (by decide) (Nat.le_refl _)
      refine r_rep2 f3p az lz (.raw f3c d3) gl (by decide) (by decide) ?_
      refine ⟨by decide, fun q hq nq => ?_⟩
      obtain ⟨H4, e4, S4, f4⟩ := gen_new (.lst [V.str (Str.ofString "lines"), V.ref c]) hq
      rw [e4]
      refine r_rep2 f4 az lz (.raw (S4 _ _ f3c) (d3.mono S4)) gl (by decide) (by decide) ?_
      refine ⟨by simp [scal], ?_⟩
      simp only [decide_true]
      exact k _ fun b o nb hb => S4 _ _ (k3 _ _ (fun e => nb rfl (by rw [e])) (S12 _ _ hb))
end
end K06


namespace K06
open PySem L2 Nv

/-- the longest row of figures, and that at the end -/
structure Run (l : List Nat) (m n : Nat) : Prop where
  fig : Fig m l
  tr : ∀ a b, l = a ++ b → b.all Fr.dig = true → b.length ≤ n
theorem last_split {l a b : List Nat} {c d : Nat} (h : l ++ [c] = a ++ (b ++ [d])) : l = a ++ b ∧ c = d := by
  rw [← List.append_assoc] at h
  exact ⟨(List.append_inj' h rfl).1, by simpa using (List.append_inj' h rfl).2⟩
theorem Run.zero : Run [] 0 0 := ⟨Fig.nil 0, fun a b e _ => by
  have : b = [] := (List.append_eq_nil_iff.mp e.symm).2
  rw [this]
  exact Nat.le_refl _⟩
theorem Run.dig {l : List Nat} {m n c : Nat} (h : Run l m n) : Run (l ++ [c]) (max m (n + 1)) (n + 1) := by
  have tr : ∀ a b, l ++ [c] = a ++ b → b.all Fr.dig = true → b.length ≤ n + 1 := by
    intro a b e hb
    rcases List.eq_nil_or_concat b with rfl | ⟨b', d, rfl⟩
    · exact Nat.zero_le _
    · rw [List.concat_eq_append] at e hb ⊢
      obtain ⟨e1, _⟩ := last_split e
      rw [List.all_append, Bool.and_eq_true] at hb
      have := h.tr a b' e1 hb.1
      rw [List.length_append]
      simpa using this
  refine ⟨fun a b e q hb => ?_, tr⟩
  rcases List.eq_nil_or_concat e with rfl | ⟨e', d, rfl⟩
  · rw [List.append_nil] at q
    have := tr a b q hb
    omega
  · rw [List.concat_eq_append, ← List.append_assoc b] at q
    have := h.fig a b e' (last_split q).1 hb
    omega
theorem Run.non {l : List Nat} {m n c : Nat} (h : Run l m n) (hc : Fr.dig c = false) : Run (l ++ [c]) m 0 := by
  have tr : ∀ a b, l ++ [c] = a ++ b → b.all Fr.dig = true → b.length ≤ 0 := by
    intro a b e hb
    rcases List.eq_nil_or_concat b with rfl | ⟨b', d, rfl⟩
    · exact Nat.zero_le _
    · rw [List.concat_eq_append] at e hb
      obtain ⟨_, e2⟩ := last_split e
      rw [List.all_append, Bool.and_eq_true] at hb
      have := hb.2
      rw [← e2] at this
      simp [hc] at this
  refine ⟨fun a b e q hb => ?_, tr⟩
  rcases List.eq_nil_or_concat e with rfl | ⟨e', d, rfl⟩
  · rw [List.append_nil] at q
    have := tr a b q hb
    omega
  · rw [List.concat_eq_append, ← List.append_assoc b] at q
    exact h.fig a b e' (last_split q).1 hb
theorem cutV_to (xs : List V) (b : Nat) : cutV xs none (some (b : Int)) = xs.take b := by
  unfold cutV
  rw [HT.sIx_nat, HT.sIx_none]
  by_cases h2 : b ≤ xs.length
  · rw [Nat.min_eq_left h2]
    simp
  · rw [Nat.min_eq_right (by omega), List.drop_zero, List.take_of_length_le (by omega), List.take_of_length_le (by omega)]
def spPl : Sp := fun vs H Q _ => ∃ (p st L : Addr) (N : Nat) (ls : List L4) (z : Str), vs = [.ref p, .ref st] ∧ BoxAt H p N ∧ N ≤ 500000 ∧ StAt H st L ls z ∧ st ≠ p ∧ L ≠ p ∧ (∀ x ∈ ls, LOk x) ∧ (fileL ls).length ≤ 60000 ∧ z.length ≤ 60000 ∧
  ∀ (m : Int) H', 0 ≤ m → m ≤ 100000 → BoxAt H' p (N + 3) → Ext1 p H H' → Q (.int m) H'
def spFigs : Sp := fun vs H Q _ => ∃ z, vs = [.str z] ∧ Asc z ∧ z.length ≤ 200000 ∧ ∀ (i : Int) H', Same H H' → (i < 21 → Fig 20 (sg z)) → Q (.int i) H'
section
variable {P : Program} {w : World} {K : PySem.W.Frag} {mg : Str → Option Value} {base : Heap}
theorem ok_l_places (T : Tx K mg) : FnG P w K mg base 3 T.d_l_places.f T.d_l_places.fd ["box", "state"] spPl := by
  refine okG0 T.d_l_places.F sc_l_places (fun vs H Q E h => ?_) (fun cdv A outer s H vs Q E hg hr h => ?_)
  · obtain ⟨p, st, L, N, ls, z, rfl, _⟩ := h
    rfl
  obtain ⟨p, st, L, N, ls, z, rfl, hp, hN, hs, nsp, nLp, ok, nf, lz, k⟩ := h
  have sz : sizeLine = 16777216 := sizeLine_eq
  refine ⟨_, (pss_cons (ps_par (i := 2) (j := 3) rfl sc_l_places.nd rfl rfl (by decide) rfl rfl (pa_cons (pe_cG (ok_l_take T) T.d_l_take.b takes0 hg (hr.mono (by decide)) T.d_l_take.m T.d_l_take.F.kp (pa_cons (pv 0) (pa_cons pe_int pa_nil))) (pa_cons (pe_cG (ok_l_take T) T.d_l_take.b takes0 hg (hr.mono (by decide)) T.d_l_take.m T.d_l_take.F.kp (pa_cons (pv 0) (pa_cons (pe_op op_add (pe_callB call_len_seq (by rfl) T.n_len (by decide +kernel) (pa_cons (pe_ix ix_list (pv 1) pe_int (fun _ _ => rfl)) pa_nil)) pe_int) pa_nil))) pa_nil)) (by rfl))
    (pss_cons (ps_set (i := 4) sc_l_places.nd rfl (Or.inl rfl) (pe_callB call_len_str (by rfl) T.n_len (by decide +kernel) (pa_cons (pe_cG (ok_l_file T) T.d_l_file.b takes0 hg (hr.mono (by decide)) T.d_l_file.m T.d_l_file.F.kp (pa_cons (pe_slice sl_list (pe_ix ix_list (pv 1) pe_int (fun _ _ => rfl)) po_none (po_some (pv 3))) pa_nil)) pa_nil)))
    (pss_one (ps_ret (pe_ix ix_list (pe_lst1 (pa_cons (pv 4) (pa_cons (pe_callB (call_max2 rfl) (by rfl) T.n_max (by decide +kernel) (pa_cons pe_int (pa_cons (pe_op op_sub (pv 4) pe_int) pa_nil))) (pa_cons (pe_op op_add (pv 4) pe_int) (pa_cons (pe_op op_add (pv 4) pe_int) (pa_cons pe_int (pa_cons (pe_callB call_len_str (by rfl) T.n_len (by decide +kernel) (pa_cons (pe_ix ix_list (pv 1) pe_int (fun _ _ => rfl)) pa_nil)) (pa_cons (pe_op op_add (pe_callB call_len_str (by rfl) T.n_len (by decide +kernel) (pa_cons (pe_ix ix_list (pv 1) pe_int (fun _ _ => rfl)) pa_nil)) pe_int) (pa_cons (pe_cG (ok_l_take T) T.d_l_take.b takes0 hg (hr.mono (by decide)) T.d_l_take.m T.d_l_take.F.kp (pa_cons (pv 0) (pa_cons (pe_op op_add (pe_callB call_len_str (by rfl) T.n_len (by decide +kernel) (pa_cons (pe_ix ix_list (pv 1) pe_int (fun _ _ => rfl)) pa_nil)) pe_int) pa_nil))) pa_nil))))))))) (pv 2) (fun _ _ => rfl)))))), ?_⟩
  walk_at "rd"
  refine ⟨p, 8, N, rfl, hp, by omega, by decide, by decide, fun kd H1 k0 k1 hp1 e1 => ?_⟩
  try dsimp only
  have hs1 : StAt H1 st L ls z := by
    obtain ⟨a, ws, b, c⟩ := hs
    exact ⟨e1 _ _ nsp a, ws, e1 _ _ nLp b, dls_box hp e1 c⟩
  obtain ⟨ws, hL1, dL1⟩ := hs1.it
  have lw1 := dL1.len
  rw [List.length_map] at lw1
  have l5 := file_len5 ls
  refine r_ixL (.of hs1.st) rfl ?_
  refine ⟨L, rfl, ws, .inl (.of hL1), p, _, _, rfl, hp1, by omega, by omega, by omega, fun at_ H2 a0 a1 hp2 e2 => ?_⟩
  try dsimp only
  have hs2 : StAt H2 st L ls z := by
    obtain ⟨a, ws, b, c⟩ := hs1
    exact ⟨e2 _ _ nsp a, ws, e2 _ _ nLp b, dls_box hp1 e2 c⟩
  have hL2 := e2 _ _ nLp hL1
  have dL2 : DVs H2 ws (ls.map dl) := dls_box hp1 e2 dL1
  obtain ⟨j, rfl⟩ : ∃ j : Nat, at_ = (j : Int) := ⟨at_.toNat, by omega⟩
  refine r_ixL (.of hs2.st) rfl ?_
  refine ⟨_, rfl, L, ws, rfl, .of hL2, fun q hq => ?_⟩
  have ec : cutV ws none (some (j : Int)) = ws.take j := cutV_to ws j
  rw [ec]
  obtain ⟨H3, e3, S3, f3⟩ := gen_new (.lst (ws.take j)) hq
  rw [e3]
  have dT : DVs H3 (ws.take j) ((ls.take j).map dl) := by
    rw [List.map_take]
    exact (dvs_take j dL2).mono S3
  have okT : ∀ x ∈ ls.take j, LOk x := fun x hx => ok x (List.mem_of_mem_take hx)
  have lT : (fileL (ls.take j)).length ≤ (fileL ls).length := by
    have : ls = ls.take j ++ ls.drop j := (List.take_append_drop j ls).symm
    have e : fileL ls = fileL (ls.take j) ++ fileL (ls.drop j) := by
      conv => lhs; rw [this, file_app]
    rw [e, List.length_append]
    omega
  refine ⟨q, _, _, rfl, f3, dT, okT, by rw [List.length_take]; omega, fun H4 S4 => ?_⟩
  try dsimp only
  have lt4 : (tx (fileL (ls.take j))).length ≤ 60000 := by rw [tx_len]; omega
  have hs4 := (hs2.mono S3).mono S4
  have hp4 := (hp2.mono S3).mono S4
  have x4 : Ext1 p H H4 := (e1.trans e2).trans fun b o _ hb => S4 _ _ (S3 _ _ hb)
  refine ⟨_, rfl, by omega, _, _, ⟨rfl, rfl⟩, ?_⟩
  refine r_ixL (.of hs4.st) rfl ?_
  refine ⟨z, rfl, by omega, ?_⟩
  refine r_ixL (.of hs4.st) rfl ?_
  refine ⟨z, rfl, by omega, ?_⟩
  refine r_ixL (.of hs4.st) rfl ?_
  refine ⟨z, rfl, by omega, ?_⟩
  refine ⟨p, _, _, rfl, hp4, by omega, by omega, by omega, fun m H5 m0 m1 hp5 e5 => ?_⟩
  try dsimp only
  refine ⟨by decide, fun q5 hq5 nq5 => ?_⟩
  obtain ⟨y, hy, my⟩ := atI_mem (xs := [V.int ((tx (fileL (ls.take j))).length : Int), V.int (if ((tx (fileL (ls.take j))).length : Int) - 1 > 0 then ((tx (fileL (ls.take j))).length : Int) - 1 else 0), V.int (((tx (fileL (ls.take j))).length : Int) + 1), V.int (((tx (fileL (ls.take j))).length : Int) + 4), V.int 0, V.int (z.length : Int), V.int ((z.length : Int) + 7), V.int m]) k0 (by show kd < 8; omega)
  refine r_ixL (.of upd_same) hy ?_
  have ky : ∀ i : Int, 0 ≤ i → i ≤ 100000 → Q (.int i) (upd H5 q5 (.lst [V.int ((tx (fileL (ls.take j))).length : Int), V.int (if ((tx (fileL (ls.take j))).length : Int) - 1 > 0 then ((tx (fileL (ls.take j))).length : Int) - 1 else 0), V.int (((tx (fileL (ls.take j))).length : Int) + 1), V.int (((tx (fileL (ls.take j))).length : Int) + 4), V.int 0, V.int (z.length : Int), V.int ((z.length : Int) + 7), V.int m])) := fun i i0 i1 =>
    k i _ i0 i1 ((hp5.mono (Same.new hq5)).le (by omega)) ((x4.trans e5).trans fun b o _ hb => Same.new hq5 b o hb)
  simp only [List.mem_cons, List.not_mem_nil, or_false] at my
  rcases my with rfl | rfl | rfl | rfl | rfl | rfl | rfl | rfl
  · exact ky _ (by omega) (by omega)
  · exact ky _ (by split <;> omega) (by split <;> omega)
  · exact ky _ (by omega) (by omega)
  · exact ky _ (by omega) (by omega)
  · exact ky _ (by omega) (by omega)
  · exact ky _ (by omega) (by omega)
  · exact ky _ (by omega) (by omega)
  · exact ky _ (by omega) (by omega)
theorem ok_l_figures (T : Tx K mg) : FnG P w K mg base 1 T.d_l_figures.f T.d_l_figures.fd ["signs"] spFigs := by
  refine okG0 T.d_l_figures.F sc_l_figures (fun vs H Q E h => ?_) (fun cdv A outer s H vs Q E hg hr h => ?_)
  · obtain ⟨z, rfl, _⟩ := h
    rfl
  obtain ⟨z, rfl, az, lz, k⟩ := h
  have sz : sizeLine = 16777216 := sizeLine_eq
  refine ⟨_, (pss_cons (ps_asg (pe_tup (pa_cons pe_int (pa_cons pe_int pa_nil))) (pg_tup rfl (pgs_cons (pg_name (i := 1) sc_l_figures.nd rfl (Or.inl rfl)) (pgs_cons (pg_name (i := 2) sc_l_figures.nd rfl (Or.inl rfl)) pgs_nil))))
    (pss_cons (ps_for PassesOwn.never rfl (pi_str (pv 0)) (pg_name (i := 3) sc_l_figures.nd rfl (Or.inl rfl))
      (pss_cons (ps_set (i := 2) sc_l_figures.nd rfl (Or.inl rfl) (pe_ifExp (pt_cmpR op_in_sign (pv 3) pe_str (by rfl)) (pe_op op_add (pv 2) pe_int) pe_int))
      (pss_one (ps_set (i := 1) sc_l_figures.nd rfl (Or.inl rfl) (pe_callB (call_max2 rfl) (by rfl) T.n_max (by decide +kernel) (pa_cons (pv 1) (pa_cons (pv 2) pa_nil)))))))
    (pss_one (ps_ret (pv 1))))), ?_⟩
  walk_at "rd"
  refine ⟨by decide, fun q hq => ?_⟩
  obtain ⟨H1, e1, S1, f1⟩ := gen_new (.tup [V.int 0, V.int 0]) hq
  rw [e1]
  refine r_unp (SqT.of f1) rfl ?_
  walk_at "rd"
  refine ⟨V.str z, rfl, z, rfl, ?_⟩
  refine for_it walk_str (fun i σ H' => ∃ (m n : Nat) (y : Option V), σ = [some (.str z), some (.int (m : Int)), some (.int (n : Int)), y] ∧ Run ((sg z).take i) m n ∧ n ≤ i ∧ m ≤ i ∧ H' = H1) ⟨0, 0, _, rfl, Run.zero, Nat.le_refl _, Nat.le_refl _, rfl⟩ (fun _ _ _ _ _ => trivial) ?_ ?_
  · rintro j x σ H2 H3 hj ⟨m, n, y, rfl, hr, hn, hm, rfl⟩ ⟨rfl, c, hc, rfl⟩
    have hc' : (sg z)[j]? = some c := by
      show z.cps.toList[j]? = _
      rw [Array.getElem?_toList]
      exact hc
    have hlt : j < z.length := hj
    walk_at "rd"
    refine ⟨c, rfl, ?_⟩
    have fi := figs_in c
    have et : (sg z).take (j + 1) = (sg z).take j ++ [c] := by
      rw [List.take_add_one, hc']
      rfl
    rw [et]
    cases hd : Fr.dig c with
    | true =>
      rw [if_pos (of_decide_eq_true (fi.trans hd))]
      refine ⟨_, _, ⟨rfl, rfl⟩, max m (n + 1), n + 1, ⟨?_, by omega, _, rfl⟩, hr.dig, by omega, by omega⟩
      split <;> omega
    | false =>
      rw [if_neg (of_decide_eq_false (fi.trans hd))]
      refine ⟨_, _, ⟨rfl, rfl⟩, m, 0, ⟨?_, rfl, _, rfl⟩, hr.non hd, by omega, by omega⟩
      split <;> omega
  · rintro σ H2 ⟨m, n, y, rfl, hr, hn, hm, rfl⟩
    walk_at "rd"
    refine k _ _ S1 fun hi => ?_
    have : (sg z).take z.cps.size = sg z := by
      apply List.take_of_length_le
      rw [sg_len]
      exact Nat.le_refl _
    rw [this] at hr
    exact hr.fig.le (by omega)
end
end K06


namespace K06
open PySem L2 Nv

def spFallen (CL CD : Addr) : Sp := fun vs H Q _ => ∃ (p d g l st L : Addr) (N : Nat) (ls : List L4) (t : Int), vs = [.ref p, .ref d, .ref st, .int t] ∧ BoxAt H p N ∧ N ≤ 400000 ∧ Whole CL CD H d g l st L ls ∧ st ≠ p ∧ L ≠ p ∧ (∀ x ∈ ls, LF x) ∧ (fileL ls).length ≤ 30000 ∧
  ∀ g' l' L' ls' H', H g' = none → H l' = none → H L' = none → l' ≠ L' → Whole CL CD H' d g' l' st L' ls' → (∀ x ∈ ls', LF x) → (fileL ls').length ≤ (fileL ls).length + 400 → BoxAt H' p (N + 200) → (∀ b o, b ≠ p → b ≠ d → b ≠ st → H b = some o → H' b = some o) → Q (.ref g') H'
section
variable {P : Program} {w : World} {K : PySem.W.Frag} {mg : Str → Option Value} {base : Heap}
theorem ok_l_fallen (T : Tx K mg) : FnG P w K mg base 9 T.d_l_fallen.f T.d_l_fallen.fd ["box", "disk", "state", "turn"] (spFallen T.C_Log T.C_Disk) := by
  refine okG0 T.d_l_fallen.F sc_l_fallen (fun vs H Q E h => ?_) (fun cdv A outer s H vs Q E hg hr h => ?_)
  · obtain ⟨p, d, g, l, st, L, N, ls, t, rfl, _⟩ := h
    rfl
  obtain ⟨p, d, g, l, st, L, N, ls, t, rfl, hp, hN, hw, nsp, nLp, ok, nf, k⟩ := h
  have sz : sizeLine = 16777216 := sizeLine_eq
  refine ⟨_, (pss_cons (ps_par3 (i := 4) (j := 5) (l := 6) rfl sc_l_fallen.nd rfl rfl rfl (by decide) (by decide) (by decide) rfl rfl rfl (pa_cons (pe_cG (ok_l_take T) T.d_l_take.b takes0 hg (hr.mono (by decide)) T.d_l_take.m T.d_l_take.F.kp (pa_cons (pv 0) (pa_cons pe_int pa_nil))) (pa_cons (pe_cG (ok_l_places T) T.d_l_places.b takes0 hg (hr.mono (by decide)) T.d_l_places.m T.d_l_places.F.kp (pa_cons (pv 0) (pa_cons (pv 2) pa_nil))) (pa_cons (pe_cG (ok_l_by_hand T) T.d_l_by_hand.b takes0 hg (hr.mono (by decide)) T.d_l_by_hand.m T.d_l_by_hand.F.kp (pa_cons (pv 0) pa_nil)) pa_nil))) (by rfl))
    (pss_cons (ps_set (i := 7) sc_l_fallen.nd rfl (Or.inl rfl) (pe_ix ix_list (pv 2) pe_int (fun _ _ => rfl)))
    (C8.pss_cut (ps_if (pt_cmpR op_lt (pv 4) pe_int (nomark _))
      (pss_one (ps_expr (pe_mG (pv 1) T.cl_Disk T.d_Disk_fall.me (ok_Disk_fall T) T.d_Disk_fall.b takes0 hg (hr.mono (by decide)) (pa_cons (pv 5) pa_nil))))
      (pss_cons (ps_expr (pe_mG (pv 1) T.cl_Disk T.d_Disk_lose.me (ok_Disk_lose T) T.d_Disk_lose.b takes0 hg (hr.mono (by decide)) (pa_cons (pv 5) pa_nil)))
      (pss_one (ps_set (i := 7) sc_l_fallen.nd rfl (Or.inl rfl) (pe_slice sl_str (pv 7) po_none (po_some (pv 5)))))))
    (C8.pss_cut (ps_if (pt_cmpR op_eq (pe_op op_modN (pv 4) pe_int) pe_int (nomark _))
      (pss_cons (ps_set (i := 6) sc_l_fallen.nd rfl (Or.inl rfl) (pe_ifExp (pt_cmpR op_lt (pe_cG (ok_l_figures T) T.d_l_figures.b takes0 hg (hr.mono (by decide)) T.d_l_figures.m T.d_l_figures.F.kp (pa_cons (pe_op op_add_str (pv 7) (pv 6)) pa_nil)) pe_int (nomark _)) (pv 6) pe_str))
      (pss_cons (ps_expr (pe_mG (pv 1) T.cl_Disk T.d_Disk_put.me (ok_Disk_put T) T.d_Disk_put.b takes0 hg (hr.mono (by decide)) (pa_cons (pv 6) pa_nil)))
      (pss_cons (ps_set (i := 8) sc_l_fallen.nd rfl (Or.inl rfl) (pe_cG (ok_l_take T) T.d_l_take.b takes0 hg (hr.mono (by decide)) T.d_l_take.m T.d_l_take.F.kp (pa_cons (pv 0) (pa_cons pe_int pa_nil))))
      (pss_cons (ps_if (pt_cmpR op_eq (pv 8) pe_int (nomark _))
        (pss_one (ps_expr (pe_mG0 (pv 1) T.cl_Disk T.d_Disk_sync.me (ok_Disk_sync T) T.d_Disk_sync.b takes0 hg (hr.mono (by decide)))))
        (pss_one (ps_if (pt_cmpR op_eq (pv 8) pe_int (nomark _))
          (pss_cons (ps_set (i := 9) sc_l_fallen.nd rfl (Or.inl rfl) (pe_cG (ok_l_take T) T.d_l_take.b takes0 hg (hr.mono (by decide)) T.d_l_take.m T.d_l_take.F.kp (pa_cons (pv 0) (pa_cons (pe_op op_add (pe_op op_mul pe_int (pe_callB call_len_str (by rfl) T.n_len (by decide +kernel) (pa_cons (pv 6) pa_nil))) pe_int) pa_nil))))
          (pss_cons (ps_expr (pe_mG (pv 1) T.cl_Disk T.d_Disk_fall.me (ok_Disk_fall T) T.d_Disk_fall.b takes0 hg (hr.mono (by decide)) (pa_cons (pv 9) pa_nil)))
          (pss_one (ps_set (i := 6) sc_l_fallen.nd rfl (Or.inl rfl) (pe_slice sl_str (pv 6) po_none (po_some (pe_op op_modN (pe_callTy call_intI (by rfl) T.n_int (by decide +kernel) (pa_cons (pv 9) pa_nil)) (pe_op op_add (pe_callB call_len_str (by rfl) T.n_len (by decide +kernel) (pa_cons (pv 6) pa_nil)) pe_int))))))))
          pss_nil)))
      (pss_one (ps_set (i := 7) sc_l_fallen.nd rfl (Or.inl rfl) (pe_op op_add_str (pv 7) (pv 6))))))))
      pss_nil)
    (pss_one (ps_ret (pe_cG (ok_l_open T) T.d_l_open.b takes0 hg (hr.mono (by decide)) T.d_l_open.m T.d_l_open.F.kp (pa_cons (pv 1) (pa_cons (pv 2) (pa_cons (pv 7) (pa_cons (pv 3) pa_nil))))))))))), ?_⟩
  walk_at "rd"
  obtain ⟨nsl, nsL, nsd, nsg, ngd, nld, nLd, nlg, nLg⟩ := hw.sl
  have okl : ∀ x ∈ ls, LOk x := fun x hx => (ok x hx).ok
  obtain ⟨dx, hdx⟩ := hw.dk
  have ndp : d ≠ p := fun e => by
    obtain ⟨_, _, _, _, hb, _⟩ := hp
    rw [← e, hdx] at hb
    cases hb
  obtain ⟨z, hz⟩ : ∃ z, tx (fileL ls) = z := ⟨_, rfl⟩
  have lz : z.length = (fileL ls).length := by rw [← hz]; exact tx_len _
  have pz : Pl z := by rw [← hz]; exact Pl.tx (file_pl okl)
  have fz : Fig 120 (sg z) := by rw [← hz, sg_tx]; exact fig_file fun x hx => (ok x hx).fr
  refine ⟨p, 6, N, rfl, hp, by omega, by decide, by decide, fun kd H1 k0 k1 hp1 e1 => ?_⟩
  try dsimp only
  have sa : ∀ {G G' : Hp} {M : Nat}, BoxAt G p M → Ext1 p G G' → StAt G st L ls z → StAt G' st L ls z := fun hb e ⟨a, ws, b, c⟩ => ⟨e _ _ nsp a, ws, e _ _ nLp b, dls_box hb e c⟩
  have hs0 : StAt H st L ls z := by rw [← hz]; exact hw.sa
  have hs1 := sa hp e1 hs0
  refine ⟨p, st, L, _, ls, z, rfl, hp1, by omega, hs1, nsp, nLp, okl, by omega, by omega, fun m H2 m0 m1 hp2 e2 => ?_⟩
  try dsimp only
  have hs2 := sa hp1 e2 hs1
  refine ⟨p, _, rfl, hp2, by omega, fun u H3 pu fu lu hp3 e3 => ?_⟩
  try dsimp only
  have hs3 := sa hp2 e3 hs2
  have x3 : Ext1 p H H3 := (e1.trans e2).trans e3
  have hd3 : DiskAt T.C_Disk H3 d z (z.length : Int) := ⟨dx, by rw [← hz]; exact x3 _ _ ndp hdx⟩
  refine r_ixL (.of hs3.st) rfl ?_
  let Mid1 : L2.St → Hp → Prop := fun σ' H' => ∃ (z1 : Str) (y8 y9 : Option V), σ' = [some (.ref p), some (.ref d), some (.ref st), some (.int t), some (.int kd), some (.int m), some (.str u), some (.str z1), y8, y9] ∧
    DiskAt T.C_Disk H' d z1 (z1.length : Int) ∧ sg z1 <+: sg z ∧ Ext1 d H3 H'
  refine ⟨Mid1, ?_, ?_⟩
  · walk_at "rd"
    have whole : cutS z none (some (z.length : Int)) = z := sg_inj (by
      rw [cut_to]
      exact List.take_of_length_le (by rw [sg_len]; exact Nat.le_refl _))
    split
    · refine m_disk hd3 (by decide +kernel) (by decide +kernel) ?_
      refine ⟨d, .int m, z, _, .int m, rfl, hd3, .int _, by omega, by omega, Int.le_refl _, fun i e h0 _ H4 h4 e4 => ?_, fun h => (by have := h m rfl m0; cases this)⟩
      have ef : (z.length : Int) + i.fmod ((z.length : Int) - (z.length : Int) + 1) = (z.length : Int) := by
        have : (z.length : Int) - (z.length : Int) + 1 = 1 := by omega
        rw [this, Int.fmod_one]
        omega
      dsimp only at h4
      rw [ef] at h4
      unfold firsts at h4
      rw [whole] at h4
      exact ⟨z, _, _, rfl, h4, List.prefix_refl _, e4⟩
    · refine m_disk hd3 (by decide +kernel) (by decide +kernel) ?_
      refine ⟨d, .int m, z, _, .int m, rfl, hd3, .int _, by omega, by omega, Int.le_refl _, fun i e h0 _ H4 h4 e4 => ?_, fun h => (by have := h m rfl m0; cases this)⟩
      cases e
      obtain ⟨j, rfl⟩ : ∃ j : Nat, m = (j : Int) := ⟨m.toNat, by omega⟩
      exact ⟨by omega, _, _, _, rfl, h4, by rw [cut_to]; exact List.take_prefix _ _, e4⟩
  · rintro σ H4 ⟨z1, y8, y9, rfl, hd4, pre, e4⟩
    have inf : sg z1 <:+: sg z := pre.isInfix
    have pz1 : Pl z1 := fun c hc => pz c (inf.subset hc)
    have lz1 : z1.length ≤ z.length := by
      have := inf.length_le
      rw [sg_len, sg_len] at this
      exact this
    have fz1 : Fig 120 (sg z1) := fz.sub inf
    have hp4 : BoxAt H4 p (N + 1 + 3 + 160) := by
      obtain ⟨a, b, c, dd, hb, r⟩ := hp3
      exact ⟨a, b, c, dd, e4 _ _ (Ne.symm ndp) hb, r⟩
    let Mid2 : L2.St → Hp → Prop := fun σ' H' => ∃ (z2 u2 : Str) (n : Int) (y8 y9 : Option V), σ' = [some (.ref p), some (.ref d), some (.ref st), some (.int t), some (.int kd), some (.int m), some (.str u2), some (.str z2), y8, y9] ∧
      DiskAt T.C_Disk H' d z2 n ∧ 0 ≤ n ∧ n ≤ (z2.length : Int) ∧ Pl z2 ∧ Fig 120 (sg z2) ∧ z2.length ≤ z.length + 400 ∧ BoxAt H' p (N + 200) ∧ ∀ b o, b ≠ d → b ≠ p → H4 b = some o → H' b = some o
    refine ⟨Mid2, ?_, ?_⟩
    · walk_at "rd"
      refine ⟨by decide, by simp [scal], ?_⟩
      split
      · refine ⟨by omega, z1 ++ u, rfl, (pz1.app pu).asc, by rw [append_len]; omega, fun i H5 S5 hfig => ?_⟩
        walk_at "rd"
        have fin : ∀ (u2 : Str), Pl u2 → u2.length ≤ 400 → Fig 120 (sg (z1 ++ u2)) →
            (∀ H6, DiskAt T.C_Disk H6 d (z1 ++ u2) (z1.length : Int) → Ext1 d H5 H6 → BoxAt H6 p (N + 164)) := fun u2 p2 l2 f2 H6 h6 e6 => by
          obtain ⟨a, b, c, dd, hb, r⟩ := hp4.mono S5
          exact ⟨a, b, c, dd, e6 _ _ (Ne.symm ndp) hb, r⟩
        split
        · rename_i hi
          obtain ⟨u2, hu2⟩ : ∃ u2, u = u2 := ⟨_, rfl⟩
          have p2 : Pl u2 := hu2 ▸ pu
          have l2 : u2.length ≤ 400 := hu2 ▸ lu
          have f2 : Fig 120 (sg (z1 ++ u2)) := hu2 ▸ (hfig hi).le (by decide)
          rw [hu2]
          have hd5 : DiskAt T.C_Disk H5 d z1 (z1.length : Int) := hd4.mono S5
          refine m_disk hd5 (by decide +kernel) (by decide +kernel) ?_
          refine ⟨d, .str u2, z1, _, .str u2, rfl, hd5, .str _, fun y ey _ => ?_, fun e => (by
            have q : sigOk (.str u2) = okS u2 := rfl
            rw [q, p2.ok] at e
            cases e)⟩
          cases ey
          refine ⟨by omega, fun H6 h6 e6 => ?_⟩
          try dsimp only
          have hp6 := fin u2 p2 l2 f2 H6 h6 e6
          have l3 : (z1 ++ u2).length = z1.length + u2.length := append_len _ _
          have p3 := pz1.app p2
          refine ⟨p, 3, _, rfl, hp6, by omega, by decide, by decide, fun way H7 w0 w1 hp7 e7 => ⟨by simp [scal], ?_⟩⟩
          have hd7 : DiskAt T.C_Disk H7 d (z1 ++ u2) (z1.length : Int) := by
            obtain ⟨dy, hy⟩ := h6
            exact ⟨dy, e7 _ _ ndp hy⟩
          have e47 : ∀ b o, b ≠ d → b ≠ p → H4 b = some o → H7 b = some o := fun b o nd np hb => e7 _ _ np (e6 _ _ nd (S5 _ _ hb))
          split
          · refine m_disk hd7 (by decide +kernel) (by decide +kernel) ?_
            refine ⟨d, _, _, rfl, hd7, by omega, fun H8 h8 e8 => ⟨by omega, z1 ++ u2, u2, _, _, _, rfl, h8, by omega, Int.le_refl _, p3, f2, by omega, ?_, fun b o nd np hb => e8 _ _ nd (e47 b o nd np hb)⟩⟩
            obtain ⟨a, b, c, dd, hb, r⟩ := hp7.le (M := N + 200) (by omega)
            exact ⟨a, b, c, dd, e8 _ _ (Ne.symm ndp) hb, r⟩
          · refine ⟨by simp [scal], ?_⟩
            split
            · refine ⟨by omega, by unfold CMul; omega, p, _, _, rfl, hp7, by omega, by omega, by omega, fun keep H8 q0 q1 hp8 e8 => ?_⟩
              try dsimp only
              have hd8 : DiskAt T.C_Disk H8 d (z1 ++ u2) (z1.length : Int) := by
                obtain ⟨dy, hy⟩ := hd7
                exact ⟨dy, e8 _ _ ndp hy⟩
              refine m_disk hd8 (by decide +kernel) (by decide +kernel) ?_
              refine ⟨d, .int keep, _, _, .int keep, rfl, hd8, .int _, by omega, by omega, by omega, fun i e h0 _ H9 h9 e9 => ?_, fun h => (by have := h keep rfl q0; cases this)⟩
              cases e
              try dsimp only at h9
              obtain ⟨j, hj, hj2⟩ : ∃ j : Nat, keep.fmod ((u2.length : Int) + 1) = (j : Int) ∧ j ≤ u2.length := by
                have := fmod_in keep (m := (u2.length : Int) + 1) (by omega)
                exact ⟨(keep.fmod ((u2.length : Int) + 1)).toNat, by omega, by omega⟩
              have ef : (z1.length : Int) + keep.fmod (((z1 ++ u2).length : Int) - (z1.length : Int) + 1) = ((z1.length + j : Nat) : Int) := by
                have : ((z1 ++ u2).length : Int) - (z1.length : Int) + 1 = (u2.length : Int) + 1 := by omega
                rw [this, hj]
                omega
              rw [ef] at h9
              have ec : firsts (z1 ++ u2) ((z1.length + j : Nat) : Int) = z1 ++ cutS u2 none (some (j : Int)) := sg_inj (by
                unfold firsts
                rw [cut_to, sg_app, sg_app, cut_to]
                have : z1.length = (sg z1).length := (sg_len z1).symm
                rw [this, List.take_length_add_append])
              rw [ec] at h9
              have lc := cutS_le u2 none (some (j : Int))
              have l4 : (z1 ++ cutS u2 none (some (j : Int))).length = z1.length + (cutS u2 none (some (j : Int))).length := append_len _ _
              have f4 : Fig 120 (sg (z1 ++ cutS u2 none (some (j : Int)))) := by
                refine f2.sub ?_
                rw [sg_app, sg_app, cut_to]
                exact ((List.prefix_append_right_inj _).mpr (List.take_prefix _ _)).isInfix
              refine ⟨_, rfl, by omega, by omega, by omega, ?_⟩
              rw [hj]
              refine ⟨by omega, _, _, _, _, _, rfl, h9, by omega, Int.le_refl _, pz1.app (p2.cut _ _), f4, by omega, ?_, fun b o nd np hb => e9 _ _ nd (e8 _ _ np (e47 b o nd np hb))⟩
              obtain ⟨a, b, c, dd, hb, r⟩ := hp8.le (M := N + 200) (by omega)
              exact ⟨a, b, c, dd, e9 _ _ (Ne.symm ndp) hb, r⟩
            · exact ⟨by omega, z1 ++ u2, u2, _, _, _, rfl, hd7, by omega, by omega, p3, f2, by omega, hp7.le (by omega), e47⟩
        · obtain ⟨u2, hu2⟩ : ∃ u2, Str.ofString "" = u2 := ⟨_, rfl⟩
          have p2 : Pl u2 := hu2 ▸ Pl.empty
          have l2 : u2.length ≤ 400 := hu2 ▸ (by decide +kernel)
          have f2 : Fig 120 (sg (z1 ++ u2)) := by
            rw [sg_app, ← hu2]
            have : sg (Str.ofString "") = [] := by decide +kernel
            rw [this, List.append_nil]
            exact fz1
          rw [hu2]
          have hd5 : DiskAt T.C_Disk H5 d z1 (z1.length : Int) := hd4.mono S5
          refine m_disk hd5 (by decide +kernel) (by decide +kernel) ?_
          refine ⟨d, .str u2, z1, _, .str u2, rfl, hd5, .str _, fun y ey _ => ?_, fun e => (by
            have q : sigOk (.str u2) = okS u2 := rfl
            rw [q, p2.ok] at e
            cases e)⟩
          cases ey
          refine ⟨by omega, fun H6 h6 e6 => ?_⟩
          try dsimp only
          have hp6 := fin u2 p2 l2 f2 H6 h6 e6
          have l3 : (z1 ++ u2).length = z1.length + u2.length := append_len _ _
          have p3 := pz1.app p2
          refine ⟨p, 3, _, rfl, hp6, by omega, by decide, by decide, fun way H7 w0 w1 hp7 e7 => ⟨by simp [scal], ?_⟩⟩
          have hd7 : DiskAt T.C_Disk H7 d (z1 ++ u2) (z1.length : Int) := by
            obtain ⟨dy, hy⟩ := h6
            exact ⟨dy, e7 _ _ ndp hy⟩
          have e47 : ∀ b o, b ≠ d → b ≠ p → H4 b = some o → H7 b = some o := fun b o nd np hb => e7 _ _ np (e6 _ _ nd (S5 _ _ hb))
          split
          · refine m_disk hd7 (by decide +kernel) (by decide +kernel) ?_
            refine ⟨d, _, _, rfl, hd7, by omega, fun H8 h8 e8 => ⟨by omega, z1 ++ u2, u2, _, _, _, rfl, h8, by omega, Int.le_refl _, p3, f2, by omega, ?_, fun b o nd np hb => e8 _ _ nd (e47 b o nd np hb)⟩⟩
            obtain ⟨a, b, c, dd, hb, r⟩ := hp7.le (M := N + 200) (by omega)
            exact ⟨a, b, c, dd, e8 _ _ (Ne.symm ndp) hb, r⟩
          · refine ⟨by simp [scal], ?_⟩
            split
            · refine ⟨by omega, by unfold CMul; omega, p, _, _, rfl, hp7, by omega, by omega, by omega, fun keep H8 q0 q1 hp8 e8 => ?_⟩
              try dsimp only
              have hd8 : DiskAt T.C_Disk H8 d (z1 ++ u2) (z1.length : Int) := by
                obtain ⟨dy, hy⟩ := hd7
                exact ⟨dy, e8 _ _ ndp hy⟩
              refine m_disk hd8 (by decide +kernel) (by decide +kernel) ?_
              refine ⟨d, .int keep, _, _, .int keep, rfl, hd8, .int _, by omega, by omega, by omega, fun i e h0 _ H9 h9 e9 => ?_, fun h => (by have := h keep rfl q0; cases this)⟩
              cases e
              try dsimp only at h9
              obtain ⟨j, hj, hj2⟩ : ∃ j : Nat, keep.fmod ((u2.length : Int) + 1) = (j : Int) ∧ j ≤ u2.length := by
                have := fmod_in keep (m := (u2.length : Int) + 1) (by omega)
                exact ⟨(keep.fmod ((u2.length : Int) + 1)).toNat, by omega, by omega⟩
              have ef : (z1.length : Int) + keep.fmod (((z1 ++ u2).length : Int) - (z1.length : Int) + 1) = ((z1.length + j : Nat) : Int) := by
                have : ((z1 ++ u2).length : Int) - (z1.length : Int) + 1 = (u2.length : Int) + 1 := by omega
                rw [this, hj]
                omega
              rw [ef] at h9
              have ec : firsts (z1 ++ u2) ((z1.length + j : Nat) : Int) = z1 ++ cutS u2 none (some (j : Int)) := sg_inj (by
                unfold firsts
                rw [cut_to, sg_app, sg_app, cut_to]
                have : z1.length = (sg z1).length := (sg_len z1).symm
                rw [this, List.take_length_add_append])
              rw [ec] at h9
              have lc := cutS_le u2 none (some (j : Int))
              have l4 : (z1 ++ cutS u2 none (some (j : Int))).length = z1.length + (cutS u2 none (some (j : Int))).length := append_len _ _
              have f4 : Fig 120 (sg (z1 ++ cutS u2 none (some (j : Int)))) := by
                refine f2.sub ?_
                rw [sg_app, sg_app, cut_to]
                exact ((List.prefix_append_right_inj _).mpr (List.take_prefix _ _)).isInfix
              refine ⟨_, rfl, by omega, by omega, by omega, ?_⟩
              rw [hj]
              refine ⟨by omega, _, _, _, _, _, rfl, h9, by omega, Int.le_refl _, pz1.app (p2.cut _ _), f4, by omega, ?_, fun b o nd np hb => e9 _ _ nd (e8 _ _ np (e47 b o nd np hb))⟩
              obtain ⟨a, b, c, dd, hb, r⟩ := hp8.le (M := N + 200) (by omega)
              exact ⟨a, b, c, dd, e9 _ _ (Ne.symm ndp) hb, r⟩
            · exact ⟨by omega, z1 ++ u2, u2, _, _, _, rfl, hd7, by omega, by omega, p3, f2, by omega, hp7.le (by omega), e47⟩
      · exact ⟨z1, u, _, _, _, rfl, hd4, by omega, Int.le_refl _, pz1, fz1, by omega, hp4.le (by omega), fun b o _ _ hb => hb⟩
    · rintro σ H5 ⟨z2, u2, n, y8, y9, rfl, hd5, n0, n1, p2, f2, l2, hp5, e5⟩
      walk_at "rd"
      have fs5 : H5 st = some (.lst [.ref L, .str z]) := e5 _ _ nsd nsp (e4 _ _ nsd hs3.st)
      refine ⟨d, st, z2, n, t, _, _, rfl, hd5, n0, n1, p2, by omega, f2, fs5, fun g' l' L' H6 hg hl hL nlL w6 e6 => ?_⟩
      have all : ∀ b o, b ≠ p → b ≠ d → b ≠ st → H b = some o → H6 b = some o := fun b o np nd ns hb => e6 _ _ nd ns (e5 _ _ nd np (e4 _ _ nd (x3 _ _ np hb)))
      have free : ∀ q, H5 q = none → H q = none := by
        intro q hq
        cases e : H q with
        | none => rfl
        | some o =>
          by_cases qp : q = p
          · obtain ⟨_, _, _, _, hb, _⟩ := hp5
            rw [qp, hb] at hq
            cases hq
          · by_cases qd : q = d
            · obtain ⟨dy, hy⟩ := hd5
              rw [qd, hy] at hq
              cases hq
            · rw [e5 _ _ qd qp (e4 _ _ qd (x3 _ _ qp e))] at hq
              cases hq
      have hp6 : BoxAt H6 p (N + 200) := by
        obtain ⟨a, b, c, dd, hb, r⟩ := hp5
        exact ⟨a, b, c, dd, e6 _ _ (Ne.symm ndp) (Ne.symm nsp) hb, r⟩
      refine k g' l' L' _ H6 (free _ hg) (free _ hl) (free _ hL) (Ne.symm (Ne.symm nlL)) w6 (lnsF_lf f2) ?_ hp6 all
      obtain ⟨r, er⟩ := file_prefix (sg z2)
      have := congrArg List.length er
      rw [List.length_append, sg_len] at this
      omega
end
end K06


namespace K06
open PySem L2 Nv

theorem lnsF_cut {ls : List L4} (h : ∀ x ∈ ls, LOk x) (c : Nat) : ∃ j, lnsF ((fileL ls).take c) = ls.take j := by
  have hb : ∀ t ∈ ls.map (fun x => sg (tl x)), t.length < 10000 := by
    intro t ht
    obtain ⟨x, hx, rfl⟩ := List.mem_map.mp ht
    have := (h x hx).text.2
    rw [sg_len]
    omega
  refine ⟨Fr.cnt (ls.map fun x => sg (tl x)) c, ?_⟩
  unfold lnsF fileL
  rw [Fr.parse_row hb]
  show lnsP ((ls.map fun x => sg (tl x)).take _) = _
  rw [← List.map_take]
  exact lnsP_all fun x hx => h x (List.mem_of_mem_take hx)
theorem file_take (ls : List L4) (j : Nat) : (fileL (ls.take j)).length ≤ (fileL ls).length := by
  have : ls = ls.take j ++ ls.drop j := (List.take_append_drop j ls).symm
  have e : fileL ls = fileL (ls.take j) ++ fileL (ls.drop j) := by
    conv => lhs; rw [this, file_app]
  rw [e, List.length_append]
  omega
theorem box_not {H : Hp} {p : Addr} {N : Nat} {ws : List V} {ls : List L4} (hb : BoxAt H p N) (h : H p = some (.lst ws)) (d : DVs H ws (ls.map dl)) : False := by
  obtain ⟨a, b, m, c, hx, _⟩ := hb
  rw [hx] at h
  cases h
  cases ls with
  | nil => cases d
  | cons x r =>
    cases d with
    | cons q _ =>
      obtain ⟨_, e, _⟩ := dv_line q
      cases e
theorem Whole.np {CL CD : Addr} {H : Hp} {d g l st L p : Addr} {ls : List L4} {N : Nat} (h : Whole CL CD H d g l st L ls) (hb : BoxAt H p N) : st ≠ p ∧ L ≠ p ∧ l ≠ p ∧ d ≠ p ∧ g ≠ p := by
  obtain ⟨dx, hd⟩ := h.dk
  obtain ⟨gx, hg⟩ := h.lg.ob
  obtain ⟨ws, hl, dl1⟩ := h.lg.it
  obtain ⟨wl, hL, dl2⟩ := h.sa.it
  have hs := h.sa.st
  obtain ⟨a, b, m, c, hx, hr⟩ := hb
  refine ⟨fun e => ?_, fun e => ?_, fun e => ?_, fun e => ?_, fun e => ?_⟩
  · rw [e, hx] at hs
    cases hs
  · subst e
    exact box_not ⟨a, b, m, c, hx, hr⟩ hL dl2
  · subst e
    exact box_not ⟨a, b, m, c, hx, hr⟩ hl dl1
  · rw [e, hx] at hd
    cases hd
  · rw [e, hx] at hg
    cases hg
theorem Whole.box {CL CD : Addr} {H H' : Hp} {d g l st L p : Addr} {ls : List L4} {N : Nat} (h : Whole CL CD H d g l st L ls) (hb : BoxAt H p N) (e : Ext1 p H H') : Whole CL CD H' d g l st L ls := by
  obtain ⟨n1, n2, n3, n4, n5⟩ := h.np hb
  obtain ⟨dx, hd⟩ := h.dk
  obtain ⟨⟨gx, hg⟩, ⟨ws, hl, dl1⟩, nm⟩ := h.lg
  obtain ⟨hs, wl, hL, dl2⟩ := h.sa
  exact ⟨⟨dx, e _ _ n4 hd⟩, ⟨⟨gx, e _ _ n5 hg⟩, ⟨ws, e _ _ n3 hl, dls_box hb e dl1⟩, nm⟩, ⟨e _ _ n1 hs, wl, e _ _ n2 hL, dls_box hb e dl2⟩⟩
theorem r_neS {K : PySem.W.Frag} {H : Hp} {Q : VK} {v u : V} {d : PyData} (a : Dp K H v d) (b : Dp K H u d) (c : d.canLay0 = true) (sh : SeqAt.shaped d = true) (q : Q (.bl false) H) : rNeD K v u H Q := by
  have e := SeqAt.eqv_refl d c
  exact ⟨d, d, a, b, sh, sh, by rw [e]; exact q⟩
def spPieces (CL CD : Addr) : Sp := fun vs H Q _ => ∃ (p d g l st L : Addr) (N : Nat) (ls : List L4) (t : Int), vs = [.ref p, .ref d, .ref g, .ref st, .int t] ∧ BoxAt H p N ∧ N ≤ 300000 ∧ Whole CL CD H d g l st L ls ∧ st ≠ p ∧ L ≠ p ∧ (∀ x ∈ ls, LF x) ∧ (fileL ls).length ≤ 18990 ∧ d ≠ l ∧ l ≠ L ∧
  ∀ H', (∀ b o, b ≠ p → b ≠ d → b ≠ st → b ≠ l → H b = some o → H' b = some o) → BoxAt H' p (N + 300) → Q (.bl true) H'
section
variable {P : Program} {w : World} {K : PySem.W.Frag} {mg : Str → Option Value} {base : Heap}
theorem ok_l_pieces (T : Tx K mg) : FnG P w K mg base 9 T.d_l_pieces.f T.d_l_pieces.fd ["box", "disk", "log", "state", "turn"] (spPieces T.C_Log T.C_Disk) := by
  refine okG0 T.d_l_pieces.F sc_l_pieces (fun vs H Q E h => ?_) (fun cdv A outer s H vs Q E hg hr h => ?_)
  · obtain ⟨p, d, g, l, st, L, N, ls, t, rfl, _⟩ := h
    rfl
  obtain ⟨p, d, g, l, st, L, N, ls, t, rfl, hp, hN, hw, nsp, nLp, ok, nf, ndl, nlL, k⟩ := h
  have sz : sizeLine = 16777216 := sizeLine_eq
  refine ⟨_, (pss_cons (ps_set (i := 5) sc_l_pieces.nd rfl (Or.inl rfl) (pe_callTy call_list_new (by rfl) T.n_list (by decide +kernel) (pa_cons (pe_ix ix_list (pv 3) pe_int (fun _ _ => rfl)) pa_nil)))
    (pss_cons (ps_for PassesOwn.never rfl (pi_range1 (by rfl) T.n_range (pa_cons pe_int pa_nil)) (pg_name (i := 6) sc_l_pieces.nd rfl (Or.inl rfl))
      (pss_cons (ps_set (i := 7) sc_l_pieces.nd rfl (Or.inl rfl) (pe_callB (call_max2 rfl) (by rfl) T.n_max (by decide +kernel) (pa_cons pe_int (pa_cons (pe_op op_sub (pe_callB call_len_str (by rfl) T.n_len (by decide +kernel) (pa_cons (pe_ix ix_list (pv 3) pe_int (fun _ _ => rfl)) pa_nil)) (pe_cG (ok_l_take T) T.d_l_take.b takes0 hg (hr.mono (by decide)) T.d_l_take.m T.d_l_take.F.kp (pa_cons (pv 0) (pa_cons pe_int pa_nil)))) pa_nil))))
      (pss_cons (ps_expr (pe_mG (pv 1) T.cl_Disk T.d_Disk_lose.me (ok_Disk_lose T) T.d_Disk_lose.b takes0 hg (hr.mono (by decide)) (pa_cons (pv 7) pa_nil)))
      (pss_cons (ps_set (i := 2) sc_l_pieces.nd rfl (Or.inl rfl) (pe_cG (ok_l_open T) T.d_l_open.b takes0 hg (hr.mono (by decide)) T.d_l_open.m T.d_l_open.F.kp (pa_cons (pv 1) (pa_cons (pv 3) (pa_cons (pe_slice sl_str (pe_ix ix_list (pv 3) pe_int (fun _ _ => rfl)) po_none (po_some (pv 7))) (pa_cons (pv 4) pa_nil))))))
      (pss_one (ps_if (PW.pt (pw_or (pt_cmpR (op_neD hr.units) (pe_ix ix_list (pv 3) pe_int (fun _ _ => rfl)) (pe_slice sl_list (pv 5) po_none (po_some (pe_callB call_len_seq (by rfl) T.n_len (by decide +kernel) (pa_cons (pe_ix ix_list (pv 3) pe_int (fun _ _ => rfl)) pa_nil)))) (nomark _)) (pw_or1 (pt_not (pt_val (pe_cG (ok_l_is T) T.d_l_is.b takes0 hg (hr.mono (by decide)) T.d_l_is.m T.d_l_is.F.kp (pa_cons (pv 1) (pa_cons (pv 2) (pa_cons (pv 3) pa_nil)))))))))
        (pss_one (ps_ret pe_bl))
        pss_nil))))))
    (pss_cons (ps_if (PW.pt (pw_or (pt_not (pt_val (pe_cG (ok_l_put T) T.d_l_put.b takes0 hg (hr.mono (by decide)) T.d_l_put.m T.d_l_put.F.kp (pa_cons (pv 2) (pa_cons (pv 3) (pa_cons (pe_cG (ok_l_lines T) T.d_l_lines.b takes0 hg (hr.mono (by decide)) T.d_l_lines.m T.d_l_lines.F.kp (pa_cons (pv 0) (pa_cons (pv 5) pa_nil))) (pa_cons (pv 4) pa_nil))))))) (pw_or1 (pt_not (pt_val (pe_cG (ok_l_is T) T.d_l_is.b takes0 hg (hr.mono (by decide)) T.d_l_is.m T.d_l_is.F.kp (pa_cons (pv 1) (pa_cons (pv 2) (pa_cons (pv 3) pa_nil)))))))))
      (pss_one (ps_ret pe_bl))
      pss_nil)
    (pss_cons (ps_expr (pe_mG (pv 1) T.cl_Disk T.d_Disk_fall.me (ok_Disk_fall T) T.d_Disk_fall.b takes0 hg (hr.mono (by decide)) (pa_cons (pe_cG (ok_l_take T) T.d_l_take.b takes0 hg (hr.mono (by decide)) T.d_l_take.m T.d_l_take.F.kp (pa_cons (pv 0) (pa_cons pe_int pa_nil))) pa_nil)))
    (pss_one (ps_ret (pe_cG (ok_l_is T) T.d_l_is.b takes0 hg (hr.mono (by decide)) T.d_l_is.m T.d_l_is.F.kp (pa_cons (pv 1) (pa_cons (pe_cG (ok_l_open T) T.d_l_open.b takes0 hg (hr.mono (by decide)) T.d_l_open.m T.d_l_open.F.kp (pa_cons (pv 1) (pa_cons (pv 3) (pa_cons (pe_ix ix_list (pv 3) pe_int (fun _ _ => rfl)) (pa_cons (pe_op op_sub pe_int (pv 4)) pa_nil))))) (pa_cons (pv 3) pa_nil)))))))))), ?_⟩
  obtain ⟨nsl, nsL, nsd, nsg, ngd, nld, nLd, nlg, nLg⟩ := hw.sl
  obtain ⟨dx, hdx⟩ := hw.dk
  have ndp : d ≠ p := fun e => by
    obtain ⟨_, _, _, _, hb, _⟩ := hp
    rw [← e, hdx] at hb
    cases hb
  have okl : ∀ x ∈ ls, LOk x := fun x hx => (ok x hx).ok
  walk_at "rd"
  obtain ⟨ws, hLw, dLw⟩ := hw.sa.it
  refine r_ixL (.of hw.sa.st) rfl ?_
  refine ⟨L, rfl, ws, .inl (.of hLw), fun wh hwh nwh => ?_⟩
  obtain ⟨H1, e1, S1, f1⟩ := gen_new (.lst ws) hwh
  rw [e1]
  refine ⟨_, rfl, by decide, by decide, ?_⟩
  have x01 : ∀ b o, H b = some o → H1 b = some o := S1
  have nwp : wh ≠ p := by
    obtain ⟨_, _, _, _, hb, _⟩ := hp
    exact ne_of_none' hwh hb
  have nwd : wh ≠ d := ne_of_none' hwh hdx
  have nws : wh ≠ st := ne_of_none' hwh hw.sa.st
  have l5 := file_len5 ls
  refine for_range (fun i σ H' => ∃ (g' l' L' : Addr) (j : Nat) (y6 y7 : Option V), σ = [some (.ref p), some (.ref d), some (.ref g'), some (.ref st), some (.int t), some (.ref wh), y6, y7] ∧ Whole T.C_Log T.C_Disk H' d g' l' st L' (ls.take j) ∧ l' ≠ L' ∧ d ≠ l' ∧
    (l' = l ∨ H1 l' = none) ∧ BoxAt H' p (N + i) ∧ (∀ b o, b ≠ p → b ≠ d → b ≠ st → H1 b = some o → H' b = some o)) ?_ ?_ ?_
  · exact ⟨g, l, L, ls.length, _, _, rfl, by rw [List.take_length]; exact hw.mono S1, nlL, ndl, .inl rfl, hp.mono S1, fun b o _ _ _ hb => hb⟩
  · rintro i σ H2 hi ⟨g', l', L', j, y6, y7, rfl, w2, nlL2, ndl2, hl2, hp2, x2⟩
    walk_at "rd"
    have ft := file_take ls j
    have oklj : ∀ x ∈ ls.take j, LOk x := fun x hx => okl x (List.mem_of_mem_take hx)
    have okj : ∀ x ∈ ls.take j, LF x := fun x hx => ok x (List.mem_of_mem_take hx)
    obtain ⟨z, hz⟩ : ∃ z, tx (fileL (ls.take j)) = z := ⟨_, rfl⟩
    have lz : z.length = (fileL (ls.take j)).length := by rw [← hz]; exact tx_len _
    have pz : Pl z := by rw [← hz]; exact Pl.tx (file_pl oklj)
    have fz : Fig 120 (sg z) := by rw [← hz, sg_tx]; exact fig_file fun x hx => (okj x hx).fr
    have hst2 : H2 st = some (.lst [.ref L', .str z]) := by rw [← hz]; exact w2.sa.st
    refine r_ixL (.of hst2) rfl ?_
    refine ⟨z, rfl, by omega, p, 60, _, rfl, hp2, by omega, by decide, by decide, fun tk H3 t0 t1 hp3 e3 => ?_⟩
    have w3 := w2.box hp2 e3
    walk_at "rd"
    refine ⟨_, _, ⟨rfl, rfl⟩, ?_⟩
    obtain ⟨M, hM⟩ : ∃ M : Nat, (if (z.length : Int) - tk > 0 then (z.length : Int) - tk else 0) = (M : Int) := by
      split
      · exact ⟨((z.length : Int) - tk).toNat, by omega⟩
      · exact ⟨0, rfl⟩
    rw [hM]
    have hd3 : DiskAt T.C_Disk H3 d z (z.length : Int) := by rw [← hz]; exact w3.dk
    refine m_disk hd3 (by decide +kernel) (by decide +kernel) ?_
    refine ⟨d, .int M, z, _, .int M, rfl, hd3, .int _, by omega, by omega, Int.le_refl _, fun i' e h0 _ H4 h4 e4 => ?_, fun h => (by have := h M rfl (by omega); cases this)⟩
    cases e
    try dsimp only at h4 ⊢
    unfold firsts at h4
    obtain ⟨zc, hzc⟩ : ∃ zc, cutS z none (some (M : Int)) = zc := ⟨_, rfl⟩
    rw [hzc] at h4
    have szc : sg zc = (fileL (ls.take j)).take M := by rw [← hzc, cut_to, ← hz, sg_tx]
    obtain ⟨j2, hj2⟩ := lnsF_cut oklj M
    have lzc : zc.length ≤ z.length := by
      have := cutS_le z none (some (M : Int))
      rw [hzc] at this
      exact this
    have hst4 : H4 st = some (.lst [.ref L', .str z]) := e4 _ _ nsd (by have := w3.sa.st; rw [hz] at this; exact this)
    refine r_ixL (.of hst4) rfl ?_
    rw [e_slS]
    refine ⟨by omega, ?_⟩
    rw [hzc]
    refine ⟨d, st, zc, _, t, _, _, rfl, h4, by omega, Int.le_refl _, (by rw [← hzc]; exact pz.cut _ _), by omega, (by rw [szc, ← sg_tx (fileL (ls.take j)), hz]; exact fz.sub (List.take_prefix _ _).isInfix), hst4, fun g3 l3 L3 H5 hg3 hl3 hL3 nlL3 w5 e5 => ?_⟩
    have ej : lnsF (sg zc) = ls.take (min j2 j) := by rw [szc, hj2, List.take_take]
    rw [ej] at w5
    have okj' : ∀ x ∈ ls.take (min j2 j), LOk x := fun x hx => okl x (List.mem_of_mem_take hx)
    have x5 : ∀ b o, b ≠ p → b ≠ d → b ≠ st → H1 b = some o → H5 b = some o := fun b o np nd ns hb => e5 _ _ nd ns (e4 _ _ nd (e3 _ _ np (x2 b o np nd ns hb)))
    have fw5 := x5 _ _ nwp nwd nws f1
    have pds : ∀ b, (b = p ∨ b = d ∨ b = st) → ∀ ys, H1 b ≠ some (.tup ys) := by
      rintro b (rfl | rfl | rfl) ys q
      · obtain ⟨_, _, _, _, hb, _⟩ := hp
        rw [x01 _ _ hb] at q
        cases q
      · rw [x01 _ _ hdx] at q
        cases q
      · rw [x01 _ _ hw.sa.st] at q
        cases q
    have dw5 : DVs H5 ws (ls.map dl) := dls_gen pds (fun b o nb hb => x5 b o (fun e => nb (.inl e)) (fun e => nb (.inr (.inl e))) (fun e => nb (.inr (.inr e))) hb) (dLw.mono S1)
    obtain ⟨wL, hL5, dL5⟩ := w5.sa.it
    have lwL := dL5.len
    rw [List.length_map] at lwL
    try dsimp only
    refine r_ixL (.of w5.sa.st) rfl ?_
    refine r_ixL (.of w5.sa.st) rfl ?_
    refine ⟨L3, rfl, wL, .inl (.of hL5), wh, ws, rfl, .of fw5, fun q hq => ?_⟩
    rw [cutV_to ws wL.length]
    obtain ⟨H6, e6, S6, f6⟩ := gen_new (.lst (ws.take wL.length)) hq
    rw [e6]
    have dq : DVs H6 (ws.take wL.length) ((ls.take (min j2 j)).map dl) := by
      have := (dvs_take wL.length dw5).mono S6
      rw [← List.map_take, lwL] at this
      have e : ls.take (ls.take (min j2 j)).length = ls.take (min j2 j) := by
        rw [List.length_take, ← List.take_take, List.take_length]
      rw [e] at this
      rw [lwL]
      exact this
    have nd := dls_nodict okj'
    refine r_neS (d := .list ((ls.take (min j2 j)).map dl)) (.lst (.of (S6 _ _ hL5)) ((dL5.mono S6).dp nd)) (.lst (.of f6) (dq.dp nd)) (by simp only [PyData.canLay0]; exact dls_lay okj') (dls_shaped okj') ?_
    refine ⟨_, rfl, ?_⟩
    rw [if_neg (by decide)]
    have fj := file_take ls (min j2 j)
    have wj := lw_file okj'
    refine ⟨d, g3, l3, st, L3, _, rfl, w5.mono S6, okj', by omega, fun H7 S7 => ?_⟩
    refine ⟨_, rfl, ?_⟩
    rw [if_neg (by decide)]
    have fr4 : ∀ q, H4 q = none → H1 q = none := by
      intro q hq
      cases e : H1 q with
      | none => rfl
      | some o =>
        by_cases qp : q = p
        · obtain ⟨_, _, _, _, hb, _⟩ := hp3
          have := e4 _ _ (Ne.symm ndp) hb
          rw [qp, this] at hq
          cases hq
        · by_cases qd : q = d
          · obtain ⟨dy, hy⟩ := h4
            rw [qd, hy] at hq
            cases hq
          · by_cases qs : q = st
            · rw [qs, hst4] at hq
              cases hq
            · rw [e4 _ _ qd (e3 _ _ qp (x2 _ _ qp qd qs e))] at hq
              cases hq
    have dl3 : d ≠ l3 := fun e => by
      obtain ⟨dy, hy⟩ := h4
      rw [← e, hy] at hl3
      cases hl3
    refine ⟨g3, ⟨rfl, _, rfl⟩, l3, L3, ⟨_, (w5.mono S6).mono S7⟩, nlL3, dl3, .inr (fr4 _ hl3), ?_, fun b o np nd ns hb => S7 _ _ (S6 _ _ (x5 b o np nd ns hb))⟩
    obtain ⟨a, b, c, dd, hb, r⟩ := hp3.le (M := N + (i + 1)) (by omega)
    exact ⟨a, b, c, dd, S7 _ _ (S6 _ _ (e5 _ _ (Ne.symm ndp) (Ne.symm nsp) (e4 _ _ (Ne.symm ndp) hb))), r⟩
  · rintro σ H2 ⟨g', l', L', j, y6, y7, rfl, w2, nlL2, ndl2, hl2, hp2, x2⟩
    walk_at "rd"
    have ft := file_take ls j
    have oklj : ∀ x ∈ ls.take j, LOk x := fun x hx => okl x (List.mem_of_mem_take hx)
    have okj : ∀ x ∈ ls.take j, LF x := fun x hx => ok x (List.mem_of_mem_take hx)
    have fw2 := x2 _ _ nwp nwd nws f1
    have pds : ∀ b, (b = p ∨ b = d ∨ b = st) → ∀ ys, H1 b ≠ some (.tup ys) := by
      rintro b (rfl | rfl | rfl) ys q
      · obtain ⟨_, _, _, _, hb, _⟩ := hp
        rw [x01 _ _ hb] at q
        cases q
      · rw [x01 _ _ hdx] at q
        cases q
      · rw [x01 _ _ hw.sa.st] at q
        cases q
    have dw2 : DVs H2 ws (ls.map dl) := dls_gen pds (fun b o nb hb => x2 b o (fun e => nb (.inl e)) (fun e => nb (.inr (.inl e))) (fun e => nb (.inr (.inr e))) hb) (dLw.mono S1)
    refine ⟨p, wh, _, ls, ws, rfl, hp2, by omega, nwp, fw2, dw2, ok, by omega, fun ms q us H3 hq fq dq okm lm hp3 e3 => ?_⟩
    have w3 := w2.box hp2 e3
    have okmL : ∀ x ∈ ms, LOk x := fun x hx => (okm x hx).ok
    have nqs : q ≠ st := ne_of_none' hq w2.sa.st
    have nqL : q ≠ L' := by
      obtain ⟨wl, hL, _⟩ := w2.sa.it
      exact ne_of_none' hq hL
    have nql : q ≠ l' := by
      obtain ⟨wl, hl, _⟩ := w2.lg.it
      exact ne_of_none' hq hl
    have nqp : q ≠ p := by
      obtain ⟨_, _, _, _, hb, _⟩ := hp2
      exact ne_of_none' hq hb
    have nqd : q ≠ d := by
      obtain ⟨dy, hy⟩ := w2.dk
      exact ne_of_none' hq hy
    try dsimp only
    refine ⟨d, g', l', st, L', q, t, ls.take j, ms, us, rfl, w3, ndl2, nlL2, .inl fq, dq, okmL, oklj, by omega, by omega, nqs, nqL, nql, fun L4 H4 hL4 w4 x4 => ?_⟩
    refine ⟨_, rfl, ?_⟩
    rw [if_neg (by decide)]
    have okA : ∀ x ∈ ls.take j ++ ms, LF x := fun x hx => (List.mem_append.mp hx).elim (okj x) (okm x)
    have okAL : ∀ x ∈ ls.take j ++ ms, LOk x := fun x hx => (okA x hx).ok
    have fA : (fileL (ls.take j ++ ms)).length ≤ 18990 + 1860 := by
      have := fileL_len okmL
      rw [file_app, List.length_append]
      omega
    have wA := lw_file okAL
    obtain ⟨lsA, hA⟩ : ∃ lsA, ls.take j ++ ms = lsA := ⟨_, rfl⟩
    rw [hA] at okA okAL fA wA w4
    refine ⟨d, g', l', st, L4, lsA, rfl, w4, okAL, by omega, fun H5 S5 => ?_⟩
    refine ⟨_, rfl, ?_⟩
    rw [if_neg (by decide)]
    have w5 := w4.mono S5
    have nl'p : l' ≠ p := (w2.np hp2).2.2.1
    have hp4 : BoxAt H4 p (N + 5 + 160) := by
      obtain ⟨a, b, c, dd, hb, r⟩ := hp3
      exact ⟨a, b, c, dd, x4 _ _ (Ne.symm ndp) (Ne.symm nl'p) (Ne.symm nsp) (Ne.symm nqp) hb, r⟩
    have hp5 := hp4.mono S5
    obtain ⟨z, hz⟩ : ∃ z, tx (fileL lsA) = z := ⟨_, rfl⟩
    have lz : z.length = (fileL lsA).length := by rw [← hz]; exact tx_len _
    have pz : Pl z := by rw [← hz]; exact Pl.tx (file_pl okAL)
    have fz : Fig 120 (sg z) := by rw [← hz, sg_tx]; exact fig_file fun x hx => (okA x hx).fr
    refine m_disk w5.dk (by decide +kernel) (by decide +kernel) ?_
    refine ⟨p, 9, _, rfl, hp5, by omega, by decide, by decide, fun kp H6 q0 q1 hp6 e6 => ?_⟩
    have w6 := w5.box hp5 e6
    try dsimp only
    have hd6 : DiskAt T.C_Disk H6 d z (z.length : Int) := by rw [← hz]; exact w6.dk
    refine ⟨d, .int kp, z, _, .int kp, rfl, hd6, .int _, by omega, by omega, Int.le_refl _, fun i e h0 _ H7 h7 e7 => ?_, fun h => (by have := h kp rfl q0; cases this)⟩
    have whole : cutS z none (some (z.length : Int)) = z := sg_inj (by
      rw [cut_to]
      exact List.take_of_length_le (by rw [sg_len]; exact Nat.le_refl _))
    have ef : (z.length : Int) + i.fmod ((z.length : Int) - (z.length : Int) + 1) = (z.length : Int) := by
      have : (z.length : Int) - (z.length : Int) + 1 = 1 := by omega
      rw [this, Int.fmod_one]
      omega
    try dsimp only at h7 ⊢
    rw [ef] at h7
    unfold firsts at h7
    rw [whole] at h7
    have hst7 : H7 st = some (.lst [.ref L4, .str z]) := e7 _ _ nsd (by have := w6.sa.st; rw [hz] at this; exact this)
    refine r_ixL (.of hst7) rfl ?_
    refine ⟨d, st, z, _, _, _, _, rfl, h7, by omega, Int.le_refl _, pz, by omega, fz, hst7, fun g8 l8 L8 H8 hg8 hl8 hL8 nlL8 w8 x8 => ?_⟩
    have eA : lnsF (sg z) = lsA := by rw [← hz, sg_tx]; exact lnsF_file okAL
    rw [eA] at w8
    refine ⟨d, g8, l8, st, L8, lsA, rfl, w8, okAL, by omega, fun H9 S9 => ?_⟩
    refine k H9 (fun b o np nd ns nl hb => ?_) ?_
    · have nq : b ≠ q := fun e => by
        have h1 := x2 b o np nd ns (x01 _ _ hb)
        rw [e, hq] at h1
        cases h1
      have nl' : b ≠ l' := by
        rcases hl2 with e | e
        · rw [e]
          exact nl
        · intro q'
          rw [← q', x01 _ _ hb] at e
          cases e
      exact S9 _ _ (x8 _ _ nd ns (e7 _ _ nd (e6 _ _ np (S5 _ _ (x4 _ _ nd nl' ns nq (e3 _ _ np (x2 b o np nd ns (x01 _ _ hb))))))))
    · obtain ⟨a, b, c, dd, hb, r⟩ := hp6.le (M := N + 300) (by omega)
      exact ⟨a, b, c, dd, S9 _ _ (x8 _ _ (Ne.symm ndp) (Ne.symm nsp) (e7 _ _ (Ne.symm ndp) hb)), r⟩
end
end K06


namespace K06
open PySem L2 Nv

theorem lnsF_nil : lnsF [] = [] := rfl
theorem rep_dvs {H : Hp} {xs : List V} {ds : List PyData} (h : DVs H xs ds) : ∀ n : Nat, DVs H (List.replicate n xs).flatten (List.replicate n ds).flatten
  | 0 => .nil
  | n + 1 => by
    rw [List.replicate_succ, List.flatten_cons, List.replicate_succ, List.flatten_cons]
    exact dvs_app h (rep_dvs h n)
theorem rep_file (ls : List L4) : ∀ n : Nat, (fileL (List.replicate n ls).flatten).length = n * (fileL ls).length
  | 0 => by simp [fileL, Fr.row]
  | n + 1 => by
    rw [List.replicate_succ, List.flatten_cons, file_app, List.length_append, rep_file ls n, Nat.add_mul, Nat.one_mul]
    omega
theorem rep_lw (ls : List L4) : ∀ n : Nat, lw (List.replicate n ls).flatten = n * lw ls
  | 0 => by simp [lw, PyData.weightAll]
  | n + 1 => by
    rw [List.replicate_succ, List.flatten_cons, lw_app, rep_lw ls n, Nat.add_mul, Nat.one_mul]
    omega
theorem rep_len (ls : List L4) : ∀ n : Nat, ((List.replicate n ls).flatten).length = n * ls.length
  | 0 => by simp
  | n + 1 => by
    rw [List.replicate_succ, List.flatten_cons, List.length_append, rep_len ls n, Nat.add_mul, Nat.one_mul]
    omega
theorem rep_map (ls : List L4) (n : Nat) : (List.replicate n (ls.map dl)).flatten = ((List.replicate n ls).flatten).map dl := by
  rw [List.map_flatten, List.map_replicate]
theorem rep_mem {ls : List L4} {n : Nat} {x : L4} (h : x ∈ (List.replicate n ls).flatten) : x ∈ ls := by
  obtain ⟨l, hl, hx⟩ := List.mem_flatten.mp h
  rw [(List.mem_replicate.mp hl).2] at hx
  exact hx
def x0 : L4 := (0, 0, Str.ofString "a", Str.ofString "")
theorem x0_dr : LDr x0 ∧ LSm x0 := by
  refine ⟨⟨⟨by decide +kernel, by decide, by decide⟩, by decide +kernel, ⟨by decide, by decide⟩⟩, by decide, by decide⟩
theorem x0_file : (fileL [x0]).length = 11 := by decide +kernel
theorem x0_lw : lw [x0] ≤ 20 := by decide +kernel
theorem lw_take (ls : List L4) (j : Nat) : lw (ls.take j) ≤ lw ls := by
  have : ls = ls.take j ++ ls.drop j := (List.take_append_drop j ls).symm
  have e : lw ls = lw (ls.take j) + lw (ls.drop j) := by
    conv => lhs; rw [this, lw_app]
  omega
def spMany : Sp := fun vs H Q _ => ∃ (p : Addr) (N : Nat), vs = [.ref p] ∧ BoxAt H p N ∧ N ≤ 300000 ∧ ∀ H', Ext1 p H H' → Q (.bl true) H'
section
variable {P : Program} {w : World} {K : PySem.W.Frag} {mg : Str → Option Value} {base : Heap}
theorem ok_l_many_right (T : Tx K mg) : FnG P w K mg base 9 T.d_l_many_right.f T.d_l_many_right.fd ["box"] spMany := by
  refine okG0 T.d_l_many_right.F sc_l_many_right (fun vs H Q E h => ?_) (fun cdv A outer s H vs Q E hg hr h => ?_)
  · obtain ⟨p, N, rfl, _⟩ := h
    rfl
  obtain ⟨p, N, rfl, hp, hN, k⟩ := h
  have sz : sizeLine = 16777216 := sizeLine_eq
  have hr1 : Room 2 (A.deeper (PyProof.Rows.envOfC "_law_many_right" (defScope s_l_many_right) s.heap.objs.size T.d_l_many_right.f cdv)) := hr.mono (by decide)
  refine ⟨_, (pss_cons (ps_par3 (i := 1) (j := 2) (l := 3) rfl sc_l_many_right.nd rfl rfl rfl (by decide) (by decide) (by decide) rfl rfl rfl (pa_cons (pe_make0 T.k_Disk (ok_Disk_init T) hr1 rfl T.m_Disk T.d_Disk_init.bi .nil pass0) (pa_cons (pe_lst1 (pa_cons (pe_lst1 pa_nil) (pa_cons pe_str pa_nil))) (pa_cons (pe_lc (own := [("turn", 4)]) (g := gName 4) (tt := tYes) rfl sc_l_many_right.nd (pi_range1 (by rfl) T.n_range (pa_cons pe_int pa_nil)) (blkOk_by (N := ["box", "disk", "state", "rows", "turn", "log", "size", "lines", "many"]) (sc := defScope s_l_many_right) (by decide +kernel)) (fun _ _ _ _ _ => pg_name (i := 4) sc_l_many_right.nd rfl (Or.inl rfl)) (fun _ _ _ _ _ => pts_nil) (fun _ _ _ _ _ => (pe_cG (ok_l_line T) T.d_l_line.b takes0 hg (hr.mono (by decide)) T.d_l_line.m T.d_l_line.F.kp (pa_cons (pv 0) (pa_cons pe_int pa_nil))))) pa_nil))) (by rfl))
    (pss_cons (ps_par (i := 5) (j := 6) rfl sc_l_many_right.nd rfl rfl (by decide) rfl rfl (pa_cons (pe_cG (ok_l_open T) T.d_l_open.b takes0 hg (hr.mono (by decide)) T.d_l_open.m T.d_l_open.F.kp (pa_cons (pv 1) (pa_cons (pv 2) (pa_cons pe_str (pa_cons pe_int pa_nil))))) (pa_cons (pe_cG (ok_l_take T) T.d_l_take.b takes0 hg (hr.mono (by decide)) T.d_l_take.m T.d_l_take.F.kp (pa_cons (pv 0) (pa_cons pe_int pa_nil))) pa_nil)) (by rfl))
    (C8.pss_cut (ps_set (i := 7) sc_l_many_right.nd rfl (Or.inl rfl) (pe_ifExp (pt_cmpR op_eq (pv 6) pe_int (nomark _)) (pe_op op_rep (pe_lst1 (pa_cons (pe_tup (pa_cons pe_int (pa_cons pe_int (pa_cons pe_str (pa_cons pe_str pa_nil))))) pa_nil)) pe_int) (pe_op op_rep (pv 3) (pe_ix ix_list (pe_lst1 (pa_cons pe_int (pa_cons pe_int (pa_cons pe_int (pa_cons pe_int pa_nil))))) (pv 6) (fun _ _ => rfl)))))
    (pss_cons (ps_if (PW.pt (pw_or (pt_not (pt_val (pe_cG (ok_l_put T) T.d_l_put.b takes0 hg (hr.mono (by decide)) T.d_l_put.m T.d_l_put.F.kp (pa_cons (pv 5) (pa_cons (pv 2) (pa_cons (pv 7) (pa_cons (pe_cG (ok_l_take T) T.d_l_take.b takes0 hg (hr.mono (by decide)) T.d_l_take.m T.d_l_take.F.kp (pa_cons (pv 0) (pa_cons pe_int pa_nil))) pa_nil))))))) (pw_or1 (pt_not (pt_val (pe_cG (ok_l_is T) T.d_l_is.b takes0 hg (hr.mono (by decide)) T.d_l_is.m T.d_l_is.F.kp (pa_cons (pv 1) (pa_cons (pv 5) (pa_cons (pv 2) pa_nil)))))))))
      (pss_one (ps_ret pe_bl))
      pss_nil)
    (pss_cons (ps_expr (pe_mG (pv 1) T.cl_Disk T.d_Disk_fall.me (ok_Disk_fall T) T.d_Disk_fall.b takes0 hg (hr.mono (by decide)) (pa_cons pe_int pa_nil)))
    (pss_cons (ps_if (pt_not (pt_val (pe_cG (ok_l_is T) T.d_l_is.b takes0 hg (hr.mono (by decide)) T.d_l_is.m T.d_l_is.F.kp (pa_cons (pv 1) (pa_cons (pe_cG (ok_l_open T) T.d_l_open.b takes0 hg (hr.mono (by decide)) T.d_l_open.m T.d_l_open.F.kp (pa_cons (pv 1) (pa_cons (pv 2) (pa_cons (pe_ix ix_list (pv 2) pe_int (fun _ _ => rfl)) (pa_cons pe_int pa_nil))))) (pa_cons (pv 2) pa_nil))))))
      (pss_one (ps_ret pe_bl))
      pss_nil)
    (pss_cons (ps_set (i := 8) sc_l_many_right.nd rfl (Or.inl rfl) (pe_op op_sub (pe_callB call_len_str (by rfl) T.n_len (by decide +kernel) (pa_cons (pe_ix ix_list (pv 2) pe_int (fun _ _ => rfl)) pa_nil)) (pe_cG (ok_l_take T) T.d_l_take.b takes0 hg (hr.mono (by decide)) T.d_l_take.m T.d_l_take.F.kp (pa_cons (pv 0) (pa_cons pe_int pa_nil)))))
    (pss_cons (ps_expr (pe_mG (pv 1) T.cl_Disk T.d_Disk_lose.me (ok_Disk_lose T) T.d_Disk_lose.b takes0 hg (hr.mono (by decide)) (pa_cons (pv 8) pa_nil)))
    (pss_one (ps_ret (pe_cG (ok_l_is T) T.d_l_is.b takes0 hg (hr.mono (by decide)) T.d_l_is.m T.d_l_is.F.kp (pa_cons (pv 1) (pa_cons (pe_cG (ok_l_open T) T.d_l_open.b takes0 hg (hr.mono (by decide)) T.d_l_open.m T.d_l_open.F.kp (pa_cons (pv 1) (pa_cons (pv 2) (pa_cons (pe_slice sl_str (pe_ix ix_list (pv 2) pe_int (fun _ _ => rfl)) po_none (po_some (pv 8))) (pa_cons pe_int pa_nil))))) (pa_cons (pv 2) pa_nil)))))))))))))), ?_⟩
  walk_at "rd"
  intro d dx hd0 hdx0 ndd
  obtain ⟨_, _, _, _, hbx, _⟩ := id hp
  have so : ∀ a o, H a = some o → upd (upd H dx (.own d)) d (.ins T.C_Disk dx []) a = some o := fun a o ha => by
    rw [upd_ne (ne_of_none ha hd0), upd_ne (ne_of_none ha hdx0)]
    exact ha
  refine ⟨d, dx, rfl, upd_same, fun H1 hd1 e1 => ⟨rfl, by decide, fun L hL nL => ?_⟩⟩
  have ndp : d ≠ p := ne_of_none' hd0 hbx
  have x1 : ∀ a o, H a = some o → H1 a = some o := fun a o ha => e1 _ _ (ne_of_none ha hd0) (so _ _ ha)
  obtain ⟨H2, e2, S2, f2⟩ := gen_new (.lst []) hL
  rw [e2]
  refine ⟨by decide, fun st hst nst => ?_⟩
  obtain ⟨H3, e3, S3, f3⟩ := gen_new (.lst [V.ref L, V.str (Str.ofString "")]) hst
  rw [e3]
  have hd3 : DiskAt T.C_Disk H3 d Str.empty 0 := (hd1.mono S2).mono S3
  have hp3 : BoxAt H3 p N := (hp.mono x1).mono S2 |>.mono S3
  refine ⟨_, rfl, by decide, by decide, fun R hR => ?_⟩
  have nRp : R ≠ p := box_ne hp3 hR
  refine lc_range (lo := 0) (n := 3) (fun i H' => ∃ (us : List V) (ms : List L4), ms.length = i ∧ (∀ x ∈ ms, LDr x ∧ LSm x) ∧ H' R = some (.lst us) ∧ DVs H' us (ms.map dl) ∧ BoxAt H' p (N + 30 * i) ∧ Ext1 p H3 H')
    ⟨[], [], rfl, (by simp), upd_same, .nil, box_upd hp3 nRp, fun b o _ hb => Same.new hR b o hb⟩ ?_ ?_
  · rintro i H4 hi ⟨us, ms, lm, okm, fR, du, hp4, x4⟩
    refine ⟨rfl, ?_⟩
    walk_at "rd"
    refine ⟨p, 500, _, rfl, hp4, by omega, fun y a H5 oy sy na da hp5 x5 => ?_⟩
    have f5 := x5 _ _ nRp fR
    have lu := du.len
    rw [List.length_map] at lu
    have naR : a ≠ R := fun q => by
      rw [q, fR] at na
      cases na
    have d5 : DVs H5 us (ms.map dl) := dls_box hp4 x5 du
    have kp : ∀ b o, b ≠ R → H5 b = some o → upd H5 R (.lst (us ++ [V.ref a])) b = some o := fun b o nb hb => by rw [upd_ne nb]; exact hb
    refine ⟨us, f5, by omega, _, ms ++ [y], by simp [lm], ?_, rfl, ?_, box_upd (hp5.le (by omega)) nRp, ext_upd (x4.trans x5) hR⟩
    · intro x hx
      rcases List.mem_append.mp hx with hx | hx
      · exact okm x hx
      · have : x = y := by simpa using hx
        rw [this]
        exact ⟨oy, sy (by decide)⟩
    · rw [List.map_append]
      have z : DVs H5 [V.ref a] ([y].map dl) := .cons da .nil
      exact dvs_app (dls_keep ⟨_, f5⟩ kp d5) (dls_keep ⟨_, f5⟩ kp z)
  · rintro H4 ⟨us, ms, lm, okm, fR, du, hp4, x4⟩
    have nstp : st ≠ p := ne_of_none' hst ((hp.mono x1).mono S2).choose_spec.choose_spec.choose_spec.choose_spec.1
    have hd4 : DiskAt T.C_Disk H4 d Str.empty 0 := by
      obtain ⟨dy, hy⟩ := hd3
      exact ⟨dy, x4 _ _ ndp hy⟩
    have hst4 := x4 _ _ nstp f3
    try dsimp only
    refine ⟨d, st, Str.ofString "", 0, 0, _, _, rfl, hd4, by decide, by decide, Pl.empty, by decide, Fig.nil 120, hst4, fun g l L' H5 hg hl hL' nlL w5 x5 => ?_⟩
    have en : lnsF (sg (Str.ofString "")) = [] := rfl
    rw [en] at w5
    have hp5 : BoxAt H5 p (N + 90) := by
      obtain ⟨a, b, c, dd, hb, r⟩ := hp4.le (M := N + 90) (by omega)
      exact ⟨a, b, c, dd, x5 _ _ (Ne.symm ndp) (Ne.symm nstp) hb, r⟩
    try dsimp only
    refine ⟨p, 5, _, rfl, hp5, by omega, by decide, by decide, fun size H6 s0 s1 hp6 e6 => ?_⟩
    have w6 := w5.box hp5 e6
    have nRd : R ≠ d := by
      obtain ⟨dy, hy⟩ := hd3
      exact ne_of_none' hR hy
    have nRs : R ≠ st := ne_of_none' hR f3
    have fR5 := x5 _ _ nRd nRs fR
    have fR6 := e6 _ _ nRp fR5
    have off5 : ∀ b, (b = d ∨ b = st) → ∀ ys, H4 b ≠ some (.tup ys) := by
      rintro b (rfl | rfl) ys q
      · obtain ⟨dy, hy⟩ := hd4
        rw [hy] at q
        cases q
      · rw [hst4] at q
        cases q
    have du5 : DVs H5 us (ms.map dl) := dls_gen off5 (fun b o nb hb => x5 b o (fun e => nb (.inl e)) (fun e => nb (.inr e)) hb) du
    have du6 : DVs H6 us (ms.map dl) := dls_box hp5 e6 du5
    have lus := du6.len
    rw [List.length_map] at lus
    have e06 : Ext1 p H H6 := fun b o np hb => by
      have hb3 := S3 _ _ (S2 _ _ (x1 _ _ hb))
      exact e6 _ _ np (x5 _ _ (fun e => by rw [e, hd0] at hb; cases hb) (fun e => by
        have := S2 _ _ (x1 _ _ hb)
        rw [e, hst] at this
        cases this) (x4 _ _ np hb3))
    obtain ⟨nsl, nsL, nsd, nsg, ngd, nld, nLd, nlg, nLg⟩ := w6.sl
    obtain ⟨nsp, nLp, nlp, _, ngp⟩ := w6.np hp6
    let Mid : L2.St → Hp → Prop := fun σ' H' => ∃ (qq : Addr) (xs : List V) (rs : List L4), σ' = [some (.ref p), some (.ref d), some (.ref st), some (.ref R), none, some (.ref g), some (.int size), some (.ref qq), none] ∧
      Same H6 H' ∧ H6 qq = none ∧ H' qq = some (.lst xs) ∧ DVs H' xs (rs.map dl) ∧ (∀ x ∈ rs, LDr x) ∧ rs.length ≤ 1200 ∧ 660 ≤ (fileL rs).length ∧ (fileL rs).length ≤ 25000 ∧ lw rs + 2 * (fileL rs).length ≤ 126000
    refine ⟨Mid, ?_, ?_⟩
    · walk_at "rd"
      refine ⟨by simp [scal], ?_⟩
      split
      · refine ⟨by decide, fun q1 hq1 => ⟨by decide, fun q2 hq2 nq2 => ?_⟩⟩
        obtain ⟨A1, eA1, SA1, fA1⟩ := gen_new (.tup [V.int 0, V.int 0, V.str (Str.ofString "a"), V.str (Str.ofString "")]) hq1
        rw [eA1] at hq2 ⊢
        obtain ⟨A2, eA2, SA2, fA2⟩ := gen_new (.lst [V.ref q1]) hq2
        rw [eA2]
        have d2 : DVs A2 [V.ref q1] ([x0].map dl) := .cons (.tup (SA2 _ _ fA1) (.cons (.int _) (.cons (.int _) (.cons (.str _) (.cons (.str _) .nil))))) .nil
        refine ⟨q2, 1100, _, rfl, rfl, fA2, by decide, by decide, by rw [sz]; show 1 * Int.toNat 1100 ≤ 16777216; decide, fun q3 hq3 => ?_⟩
        have nt : Int.toNat 1100 = 1100 := rfl
        rw [nt]
        have d3 := (rep_dvs d2 1100).mono (Same.new (o := .lst (List.replicate 1100 [V.ref q1]).flatten) hq3)
        rw [rep_map] at d3
        have S3' : Same H6 (upd A2 q3 (.lst (List.replicate 1100 [V.ref q1]).flatten)) := SA1.trans (SA2.trans (Same.new hq3))
        refine ⟨q3, _, (List.replicate 1100 [x0]).flatten, rfl, S3', (SA1.trans SA2).free hq3, upd_same, d3, fun x hx => ?_, ?_, ?_, ?_, ?_⟩
        · have := rep_mem hx
          have : x = x0 := by simpa using this
          rw [this]
          exact x0_dr.1
        · rw [rep_len]; decide
        · rw [rep_file, x0_file]; decide
        · rw [rep_file, x0_file]; decide
        · rw [rep_file, rep_lw, x0_file]
          have := x0_lw
          omega
      · rename_i n4
        refine ⟨by decide, fun q2 hq2 nq2 => ?_⟩
        obtain ⟨A2, eA2, SA2, fA2⟩ := gen_new (.lst [V.int 44, V.int 60, V.int 90, V.int 130]) hq2
        rw [eA2]
        have n4' : ¬ size = 4 := fun e => n4 (by rw [e])
        obtain ⟨v, hv, mv⟩ := atI_mem (xs := [V.int 44, V.int 60, V.int 90, V.int 130]) s0 (by show size < 4; omega)
        obtain ⟨nn, rfl, nb⟩ : ∃ nn : Nat, v = .int (nn : Int) ∧ 44 ≤ nn ∧ nn ≤ 130 := by
          simp only [List.mem_cons, List.not_mem_nil, or_false] at mv
          rcases mv with rfl | rfl | rfl | rfl
          · exact ⟨44, rfl, by decide, by decide⟩
          · exact ⟨60, rfl, by decide, by decide⟩
          · exact ⟨90, rfl, by decide, by decide⟩
          · exact ⟨130, rfl, by decide, by decide⟩
        refine r_ixL (.of fA2) hv ?_
        have nt : Int.toNat (nn : Int) = nn := Int.toNat_natCast nn
        refine ⟨R, _, us, rfl, rfl, SA2 _ _ fR6, by omega, by omega, ?_, fun q3 hq3 => ?_⟩
        · rw [nt, lus, lm]
          omega
        rw [nt]
        have d3 := (rep_dvs (du6.mono SA2) nn).mono (Same.new (o := .lst (List.replicate nn us).flatten) hq3)
        rw [rep_map] at d3
        have S3' : Same H6 (upd A2 q3 (.lst (List.replicate nn us).flatten)) := SA2.trans (Same.new hq3)
        have fl := file_small okm
        have fw := lw_small okm
        have f5 := file_len5 ms
        rw [lm] at fl fw f5
        have m1 : nn * (fileL ms).length ≤ 130 * 186 := Nat.mul_le_mul nb.2 fl
        have m2 : nn * lw ms ≤ 130 * 270 := Nat.mul_le_mul nb.2 fw
        have m3 : 44 * 15 ≤ nn * (fileL ms).length := Nat.mul_le_mul nb.1 f5
        refine ⟨q3, _, (List.replicate nn ms).flatten, rfl, S3', SA2.free hq3, upd_same, d3, fun x hx => (okm x (rep_mem hx)).1, ?_, ?_, ?_, ?_⟩
        · rw [rep_len, lm]; omega
        · rw [rep_file]; omega
        · rw [rep_file]; omega
        · rw [rep_file, rep_lw]; omega
    · rintro σ H7 ⟨qq, xs, rs, rfl, S7, hqq, fq7, dq7, okr, lrs, f660, f25, wt⟩
      walk_at "rd"
      have okrL : ∀ x ∈ rs, LOk x := fun x hx => (okr x hx).ok
      have w7 := w6.mono S7
      have hp7 := hp6.mono S7
      have ndl : d ≠ l := Ne.symm nld
      have nqp : qq ≠ p := box_ne hp6 hqq
      have nqd : qq ≠ d := by
        obtain ⟨dy, hy⟩ := w6.dk
        exact ne_of_none' hqq hy
      have nqs : qq ≠ st := ne_of_none' hqq w6.sa.st
      have nqL : qq ≠ L' := by
        obtain ⟨wl, hL, _⟩ := w6.sa.it
        exact ne_of_none' hqq hL
      have nql : qq ≠ l := by
        obtain ⟨wl, hl, _⟩ := w6.lg.it
        exact ne_of_none' hqq hl
      have okF : ∀ x ∈ rs, LF x := fun x hx => (okr x hx).lf
      refine ⟨p, 2, _, rfl, hp7, by omega, by decide, by decide, fun tr H8 t0 t1 hp8 e8 => ?_⟩
      have w8 := w7.box hp7 e8
      try dsimp only
      refine ⟨d, g, l, st, L', qq, tr, [], rs, xs, rfl, w8, ndl, nlL, .inl (e8 _ _ nqp fq7), dls_box hp7 e8 dq7, okrL, (by simp), by omega, by decide, nqs, nqL, nql, fun L9 H9 hL9 w9 x9 => ?_⟩
      rw [List.nil_append] at w9
      refine ⟨_, rfl, ?_⟩
      rw [if_neg (by decide)]
      refine ⟨d, g, l, st, L9, rs, rfl, w9, okrL, wt, fun H10 S10 => ?_⟩
      refine ⟨_, rfl, ?_⟩
      rw [if_neg (by decide)]
      have w10 := w9.mono S10
      have hp10 : BoxAt H10 p (N + 92) := by
        obtain ⟨a, b, c, dd, hb, r⟩ := hp8.le (M := N + 92) (by omega)
        exact ⟨a, b, c, dd, S10 _ _ (x9 _ _ (Ne.symm ndp) (Ne.symm nlp) (Ne.symm nsp) (Ne.symm nqp) hb), r⟩
      have e010 : Ext1 p H H10 := fun b o np hb => by
        have hb6 := e06 b o np hb
        have hb8 := e8 _ _ np (S7 _ _ hb6)
        refine S10 _ _ (x9 _ _ ?_ ?_ ?_ ?_ hb8)
        · exact fun e => by rw [e, hd0] at hb; cases hb
        · intro e
          have h1 := x4 _ _ np (S3 _ _ (S2 _ _ (x1 _ _ hb)))
          rw [e, hl] at h1
          cases h1
        · intro e
          have h1 := S2 _ _ (x1 _ _ hb)
          rw [e, hst] at h1
          cases h1
        · exact fun e => by rw [e, hqq] at hb6; cases hb6
      obtain ⟨z, hz⟩ : ∃ z, tx (fileL rs) = z := ⟨_, rfl⟩
      have lz : z.length = (fileL rs).length := by rw [← hz]; exact tx_len _
      have pz : Pl z := by rw [← hz]; exact Pl.tx (file_pl okrL)
      have fz : Fig 120 (sg z) := by rw [← hz, sg_tx]; exact fig_file fun x hx => (okF x hx).fr
      have whole : cutS z none (some (z.length : Int)) = z := sg_inj (by
        rw [cut_to]
        exact List.take_of_length_le (by rw [sg_len]; exact Nat.le_refl _))
      have eA : lnsF (sg z) = rs := by rw [← hz, sg_tx]; exact lnsF_file okrL
      refine m_disk w10.dk (by decide +kernel) (by decide +kernel) ?_
      have hd10 : DiskAt T.C_Disk H10 d z (z.length : Int) := by rw [← hz]; exact w10.dk
      refine ⟨d, .int 3, z, _, .int 3, rfl, hd10, .int _, by omega, by omega, Int.le_refl _, fun i e h0 _ H11 h11 e11 => ?_, fun h => (by have := h 3 rfl (by decide); cases this)⟩
      have ef : (z.length : Int) + i.fmod ((z.length : Int) - (z.length : Int) + 1) = (z.length : Int) := by
        have : (z.length : Int) - (z.length : Int) + 1 = 1 := by omega
        rw [this, Int.fmod_one]
        omega
      try dsimp only at h11 ⊢
      rw [ef] at h11
      unfold firsts at h11
      rw [whole] at h11
      have hst11 : H11 st = some (.lst [.ref L9, .str z]) := e11 _ _ nsd (by have := w10.sa.st; rw [hz] at this; exact this)
      refine r_ixL (.of hst11) rfl ?_
      refine ⟨d, st, z, _, _, _, _, rfl, h11, by omega, Int.le_refl _, pz, by omega, fz, hst11, fun g2 l2 L2 H12 hg2 hl2 hL2 nlL2 w12 x12 => ?_⟩
      rw [eA] at w12
      try dsimp only
      refine ⟨d, g2, l2, st, L2, rs, rfl, w12, okrL, wt, fun H13 S13 => ?_⟩
      refine ⟨_, rfl, ?_⟩
      rw [if_neg (by decide)]
      have w13 := w12.mono S13
      have hp13 : BoxAt H13 p (N + 92) := by
        obtain ⟨a, b, c, dd, hb, r⟩ := hp10
        exact ⟨a, b, c, dd, S13 _ _ (x12 _ _ (Ne.symm ndp) (Ne.symm nsp) (e11 _ _ (Ne.symm ndp) hb)), r⟩
      have hst13 : H13 st = some (.lst [.ref L2, .str z]) := by have := w13.sa.st; rw [hz] at this; exact this
      refine r_ixL (.of hst13) rfl ?_
      refine ⟨z, rfl, by omega, p, 120, _, rfl, hp13, by omega, by decide, by decide, fun tk H14 k0 k1 hp14 e14 => ?_⟩
      have w14 := w13.box hp13 e14
      walk_at "rd"
      obtain ⟨M, hM⟩ : ∃ M : Nat, (z.length : Int) - tk = (M : Int) := ⟨((z.length : Int) - tk).toNat, by omega⟩
      rw [hM]
      refine m_disk w14.dk (by decide +kernel) (by decide +kernel) ?_
      have hd14 : DiskAt T.C_Disk H14 d z (z.length : Int) := by rw [← hz]; exact w14.dk
      refine ⟨d, .int M, z, _, .int M, rfl, hd14, .int _, by omega, by omega, Int.le_refl _, fun i' e h0 _ H15 h15 e15 => ?_, fun h => (by have := h M rfl (by omega); cases this)⟩
      cases e
      try dsimp only at h15 ⊢
      unfold firsts at h15
      obtain ⟨zc, hzc⟩ : ∃ zc, cutS z none (some (M : Int)) = zc := ⟨_, rfl⟩
      rw [hzc] at h15
      have szc : sg zc = (fileL rs).take M := by rw [← hzc, cut_to, ← hz, sg_tx]
      obtain ⟨j2, hj2⟩ := lnsF_cut okrL M
      have lzc : zc.length ≤ z.length := by
        have := cutS_le z none (some (M : Int))
        rw [hzc] at this
        exact this
      have hst15 : H15 st = some (.lst [.ref L2, .str z]) := e15 _ _ nsd (by have := w14.sa.st; rw [hz] at this; exact this)
      refine r_ixL (.of hst15) rfl ?_
      refine ⟨_, rfl, ?_⟩
      refine ⟨by omega, ?_⟩
      rw [hzc]
      refine ⟨d, st, zc, _, _, _, _, rfl, h15, by omega, Int.le_refl _, (by rw [← hzc]; exact pz.cut _ _), by omega, (by rw [szc, ← sg_tx (fileL rs), hz]; exact fz.sub (List.take_prefix _ _).isInfix), hst15, fun g3 l3 L3 H16 hg3 hl3 hL3 nlL3 w16 x16 => ?_⟩
      have ej : lnsF (sg zc) = rs.take j2 := by rw [szc, hj2]
      rw [ej] at w16
      have t1 := file_take rs j2
      have t2 := lw_take rs j2
      try dsimp only
      refine ⟨d, g3, l3, st, L3, _, rfl, w16, fun x hx => okrL x (List.mem_of_mem_take hx), by omega, fun H17 S17 => ?_⟩
      refine k H17 fun b o np hb => ?_
      have nbd : b ≠ d := fun e => by rw [e, hd0] at hb; cases hb
      have nbs : b ≠ st := fun e => by
        have h1 := S2 _ _ (x1 _ _ hb)
        rw [e, hst] at h1
        cases h1
      exact S17 _ _ (x16 _ _ nbd nbs (e15 _ _ nbd (e14 _ _ np (S13 _ _ (x12 _ _ nbd nbs (e11 _ _ nbd (e010 b o np hb)))))))
end
end K06


namespace K06
open PySem L2 Nv

def spRight : Sp := fun vs H Q _ => ∃ (p : Addr), vs = [.ref p] ∧ BoxAt H p 0 ∧ ∀ H', Ext1 p H H' → BoxAt H' p 100000 → Q (.bl true) H'
def spLaw (K : PySem.W.Frag) : Sp := fun vs H Q _ => ∃ (a : Addr) (ns : List Int), vs = [.ref a] ∧ SqL K H a (ns.map V.int) ∧ ns.length ≤ 63 ∧ ∀ H', Q (.bl true) H'
section
variable {P : Program} {w : World} {K : PySem.W.Frag} {mg : Str → Option Value} {base : Heap}
/-- the law, given that _law_right keeps its promise -/
theorem ok_law_of (T : Tx K mg) (ok_l_right : ∀ T : Tx K mg, FnG P w K mg base 10 T.d_l_right.f T.d_l_right.fd ["box"] spRight) : FnG P w K mg base 11 T.d_law.f T.d_law.fd ["script"] (spLaw K) := by
  refine okG0 T.d_law.F sc_law (fun vs H Q E h => ?_) (fun cdv A outer s H vs Q E hg hr h => ?_)
  · obtain ⟨a, ns, rfl, _⟩ := h
    rfl
  obtain ⟨a, ns, rfl, ha, hn, k⟩ := h
  refine ⟨_, (pss_cons (ps_for PassesOwn.never rfl (pi_range1 (by rfl) T.n_range (pa_cons (pe_callB (call_max2 rfl) (by rfl) T.n_max (by decide +kernel) (pa_cons pe_int (pa_cons (pe_callB (call_min2 rfl) (by rfl) T.n_min (by decide +kernel) (pa_cons pe_int (pa_cons (pe_callB call_len_seq (by rfl) T.n_len (by decide +kernel) (pa_cons (pv 0) pa_nil)) pa_nil))) pa_nil))) pa_nil)) (pg_name (i := 1) sc_law.nd rfl (Or.inl rfl))
      (pss_cons (ps_set (i := 2) sc_law.nd rfl (Or.inl rfl) (pe_cG (ok_l_box T) T.d_l_box.b takes0 hg (hr.mono (by decide)) T.d_l_box.m T.d_l_box.F.kp (pa_cons (pe_cG (ok_l_cell T) T.d_l_cell.b takes0 hg (hr.mono (by decide)) T.d_l_cell.m T.d_l_cell.F.kp (pa_cons (pv 0) (pa_cons (pv 1) pa_nil))) pa_nil)))
      (pss_one (ps_if (PW.pt (pw_or (pt_not (pt_val (pe_cG (ok_l_right T) T.d_l_right.b takes0 hg (hr.mono (by decide)) T.d_l_right.m T.d_l_right.F.kp (pa_cons (pv 2) pa_nil)))) (pw_or1 (PW.pt (pw_and (pt_cmpR op_eq (pv 1) pe_int (nomark _)) (pw_and1 (pt_not (pt_val (pe_cG (ok_l_many_right T) T.d_l_many_right.b takes0 hg (hr.mono (by decide)) T.d_l_many_right.m T.d_l_many_right.F.kp (pa_cons (pv 2) pa_nil))))))))))
        (pss_one (ps_ret pe_bl))
        pss_nil))))
    (pss_one (ps_ret pe_bl))), ?_⟩
  walk_at "rd"
  have lo : ∀ x : Int, 0 ≤ (if (if x < 5 then x else 5) > 2 then (if x < 5 then x else 5) else 2) ∧ (if (if x < 5 then x else 5) > 2 then (if x < 5 then x else 5) else 2) ≤ 6 := fun x => by
    split <;> split <;> omega
  have lo1 := lo ((ns.map V.int).length : Int)
  refine ⟨_, rfl, _, rfl, _, .inl ha, _, _, rfl, _, _, rfl, _, rfl, Int.le_trans (by decide) lo1.1, Int.lt_of_le_of_lt lo1.2 (by decide), ?_⟩
  refine for_range (fun i σ H' => Same H H' ∧ ∃ x y, σ = [some (.ref a), x, y]) ⟨Same.refl H, _, _, rfl⟩ ?_ ?_
  · rintro i σ H1 hi ⟨S, x, y, rfl⟩
    have hi' : i < 6 := by
      have h2 := lo1.2
      have h1 := lo1.1
      have h3 : i < (if (if ((ns.map V.int).length : Int) < 5 then ((ns.map V.int).length : Int) else 5) > 2 then (if ((ns.map V.int).length : Int) < 5 then ((ns.map V.int).length : Int) else 5) else 2).toNat := hi
      omega
    walk_at "rd"
    refine ⟨a, ns, _, rfl, L2.Same.seq S ha, by omega, by omega, fun c H2 S2 => ?_⟩
    refine ⟨c, rfl, fun p H3 hp S3 b3 => ?_⟩
    try dsimp only
    refine ⟨p, rfl, b3, fun H4 e4 b4 => ⟨_, rfl, ?_⟩⟩
    have keep : ∀ {H5 : Hp}, Ext1 p H3 H5 → Same H H5 := fun e5 y o hy => by
      have y2 := S2 _ _ (S _ _ hy)
      exact e5 _ _ (ne_of_none y2 hp) (S3 _ _ y2)
    walk_at "rd"
    refine ⟨by simp [scal], ?_⟩
    split
    · refine ⟨p, _, rfl, b4, by omega, fun H5 e5 => ⟨_, rfl, ?_⟩⟩
      rw [if_neg (by decide)]
      exact ⟨keep (e4.trans e5), _, rfl⟩
    · exact ⟨keep e4, _, rfl⟩
  · rintro σ H1 ⟨S, x, y, rfl⟩
    walk_at "rd"
    exact k _
end
end K06


namespace K06
open PySem L2 Nv

theorem Whole.keep {CL CD : Addr} {H H' : Hp} {d g l st L : Addr} {ls : List L4} {C : Addr → Prop} (h : Whole CL CD H d g l st L ls) (hC : ∀ b, C b → ∀ ys, H b ≠ some (.tup ys)) (e : ∀ b o, ¬ C b → H b = some o → H' b = some o)
    (nd : ¬ C d) (ng : ¬ C g) (nl : ¬ C l) (ns : ¬ C st) (nL : ¬ C L) : Whole CL CD H' d g l st L ls := by
  obtain ⟨dx, hd⟩ := h.dk
  obtain ⟨⟨gx, hg⟩, ⟨ws, hl, dl1⟩, nm⟩ := h.lg
  obtain ⟨hs, wl, hL, dl2⟩ := h.sa
  exact ⟨⟨dx, e _ _ nd hd⟩, ⟨⟨gx, e _ _ ng hg⟩, ⟨ws, e _ _ nl hl, dls_gen hC e dl1⟩, nm⟩, ⟨e _ _ ns hs, wl, e _ _ nL hL, dls_gen hC e dl2⟩⟩
/-- an elder: its log, the lines that it told -/
structure El (CL : Addr) (H : Hp) (x gx lx dx tx : Addr) (ls : List L4) : Prop where
  xo : H x = some (.lst [.ref gx, .ref tx])
  tt : ∃ ws, H tx = some (.tup ws) ∧ DVs H ws (ls.map dl)
  lg : LogAt CL H gx dx lx ls
  ok : ∀ y ∈ ls, LOk y
  sz : (fileL ls).length ≤ 18990
theorem El.keep {CL : Addr} {H H' : Hp} {x gx lx dx tx : Addr} {ls : List L4} {C : Addr → Prop} (h : El CL H x gx lx dx tx ls) (hC : ∀ b, C b → ∀ ys, H b ≠ some (.tup ys)) (e : ∀ b o, ¬ C b → H b = some o → H' b = some o)
    (nx : ¬ C x) (ng : ¬ C gx) (nl : ¬ C lx) : El CL H' x gx lx dx tx ls := by
  obtain ⟨ws, ht, dt⟩ := h.tt
  obtain ⟨⟨gy, hg⟩, ⟨wl, hl, dl1⟩, nm⟩ := h.lg
  exact ⟨e _ _ nx h.xo, ⟨ws, e _ _ (fun c => hC _ c _ ht) ht, dls_gen hC e dt⟩, ⟨⟨gy, e _ _ ng hg⟩, ⟨wl, e _ _ nl hl, dls_gen hC e dl1⟩, nm⟩, h.ok, h.sz⟩
/-- a list of lines is no state -/
theorem lines_st {H : Hp} {a st L : Addr} {ws : List V} {z : Str} {ls : List L4} (h : H a = some (.lst ws)) (d : DVs H ws (ls.map dl)) (hs : H st = some (.lst [.ref L, .str z])) : a ≠ st := fun e => by
  rw [e, hs] at h
  cases h
  exact not_lines d
theorem ins_lst {H : Hp} {a b C dx : Addr} {fs : List (Str × V)} {ws : List V} (h : H a = some (.ins C dx fs)) (h2 : H b = some (.lst ws)) : a ≠ b := fun e => by
  rw [e, h2] at h
  cases h
def fu {α : Type} (f : Nat → α) (w : Nat) (x : α) : Nat → α := fun i => if i = w then x else f i
theorem fu_same {α : Type} {f : Nat → α} {w : Nat} {x : α} : fu f w x w = x := if_pos rfl
theorem fu_ne {α : Type} {f : Nat → α} {w i : Nat} {x : α} (h : i ≠ w) : fu f w x i = f i := if_neg h
/-- the state of the law -/
structure Two (CL CD : Addr) (H : Hp) (A B C E : Addr) (d st g l L : Nat → Addr) (ls : Nat → List L4) (k : Nat) : Prop where
  a : H A = some (.lst [.ref (d 0), .ref (d 1)])
  b : H B = some (.lst [.ref (st 0), .ref (st 1)])
  c : H C = some (.lst [.ref (g 0), .ref (g 1)])
  w : ∀ i, i < 2 → Whole CL CD H (d i) (g i) (l i) (st i) (L i) (ls i)
  lf : ∀ i, i < 2 → ∀ x ∈ ls i, LF x
  sz : ∀ i, i < 2 → (fileL (ls i)).length ≤ 10980 + 400 * k
  nl : ∀ i j, i < 2 → j < 2 → l i ≠ L j
  ll : l 0 ≠ l 1
  dd : d 0 ≠ d 1
  ss : st 0 ≠ st 1
  r : ∀ i, i < 2 → l i ≠ A ∧ l i ≠ B ∧ l i ≠ C ∧ l i ≠ E ∧ L i ≠ C ∧ L i ≠ E ∧ st i ≠ A ∧ st i ≠ B ∧ st i ≠ C ∧ st i ≠ E
  ae : A ≠ E ∧ B ≠ E ∧ C ≠ E ∧ A ≠ C ∧ B ≠ C
  e : ∃ xs, H E = some (.lst xs)
theorem Two.other {CL CD : Addr} {H : Hp} {A B C E p : Addr} {d st g l L : Nat → Addr} {ls : Nat → List L4} {k N i j : Nat} (h : Two CL CD H A B C E d st g l L ls k) (hb : BoxAt H p N) (hi : i < 2) (hj : j < 2) (n : i ≠ j) :
    d i ≠ d j ∧ st i ≠ st j ∧ l i ≠ l j := by
  have : (i = 0 ∧ j = 1) ∨ (i = 1 ∧ j = 0) := by omega
  rcases this with ⟨rfl, rfl⟩ | ⟨rfl, rfl⟩
  · exact ⟨h.dd, h.ss, h.ll⟩
  · exact ⟨h.dd.symm, h.ss.symm, h.ll.symm⟩
/-- one house goes on, the other one stays -/
theorem Two.step {CL CD : Addr} {H H' : Hp} {A B C E p : Addr} {d st g l L : Nat → Addr} {ls : Nat → List L4} {k N v : Nat} {g' l' L' : Addr} {ls' : List L4} (h : Two CL CD H A B C E d st g l L ls k) (hb : BoxAt H p N) (hv : v < 2)
    (e : ∀ b o, b ≠ p → b ≠ d v → b ≠ l v → b ≠ st v → b ≠ C → b ≠ E → H b = some o → H' b = some o)
    (hc : H' C = some (.lst [.ref (fu g v g' 0), .ref (fu g v g' 1)])) (he : ∃ xs, H' E = some (.lst xs)) (w' : Whole CL CD H' (d v) g' l' (st v) L' ls') (lf' : ∀ x ∈ ls', LF x) (sz' : (fileL ls').length ≤ 10980 + 400 * (k + 1))
    (l1 : l' = l v ∨ H l' = none) (L1 : L' = L v ∨ H L' = none) (nl' : l' ≠ L') : Two CL CD H' A B C E d st (fu g v g') (fu l v l') (fu L v L') (fu ls v ls') (k + 1) := by
  obtain ⟨ea, eb, ec, eac, ebc⟩ := h.ae
  obtain ⟨es, hE⟩ := h.e
  have wv := h.w v hv
  obtain ⟨v1, v2, v3, v4, v5, v6, v7, v8, v9⟩ := wv.sl
  obtain ⟨p1, p2, p3, p4, p5⟩ := wv.np hb
  obtain ⟨dxv, hdv⟩ := wv.dk
  obtain ⟨wsv, hlv, dlv⟩ := wv.lg.it
  obtain ⟨r1, r2, r3, r4, r5, r6, r7, r8, r9, r10⟩ := h.r v hv
  obtain ⟨_, _, _, _, hbx, _⟩ := id hb
  have AB : ∀ a x y, H a = some (.lst [.ref x, .ref y]) → a ≠ p := fun a x y ha q => by
    rw [q, hbx] at ha
    cases ha
  have tup : ∀ b, (b = p ∨ b = d v ∨ b = l v ∨ b = st v ∨ b = C ∨ b = E) → ∀ ys, H b ≠ some (.tup ys) := by
    rintro b (rfl | rfl | rfl | rfl | rfl | rfl) ys q
    · rw [hbx] at q; cases q
    · rw [hdv] at q; cases q
    · rw [hlv] at q; cases q
    · rw [wv.sa.st] at q; cases q
    · rw [h.c] at q; cases q
    · rw [hE] at q; cases q
  have e' : ∀ b o, ¬ (b = p ∨ b = d v ∨ b = l v ∨ b = st v ∨ b = C ∨ b = E) → H b = some o → H' b = some o := fun b o nb hb' =>
    e b o (fun q => nb (.inl q)) (fun q => nb (.inr (.inl q))) (fun q => nb (.inr (.inr (.inl q)))) (fun q => nb (.inr (.inr (.inr (.inl q))))) (fun q => nb (.inr (.inr (.inr (.inr (.inl q)))))) (fun q => nb (.inr (.inr (.inr (.inr (.inr q))))) ) hb'
  have oth : ∀ i, i < 2 → i ≠ v → Whole CL CD H' (d i) (g i) (l i) (st i) (L i) (ls i) := by
    intro i hi ni
    have wi := h.w i hi
    obtain ⟨n1, n2, n3⟩ := h.other hb hi hv ni
    obtain ⟨q1, q2, q3, q4, q5⟩ := wi.np hb
    obtain ⟨t1, t2, t3, t4, t5, t6, t7, t8, t9, t10⟩ := h.r i hi
    obtain ⟨dxi, hdi⟩ := wi.dk
    obtain ⟨gxi, hgi⟩ := wi.lg.ob
    obtain ⟨wsi, hli, dli⟩ := wi.lg.it
    obtain ⟨wLi, hLi, dLi⟩ := wi.sa.it
    obtain ⟨gd, ld⟩ := log_disk wi.lg wv.dk
    refine wi.keep tup e' ?_ ?_ ?_ ?_ ?_
    · rintro (q | q | q | q | q | q)
      · exact q4 q
      · exact n1 q
      · exact ins_lst hdi hlv q
      · exact ins_lst hdi wv.sa.st q
      · exact ins_lst hdi h.c q
      · exact ins_lst hdi hE q
    · rintro (q | q | q | q | q | q)
      · exact q5 q
      · exact gd q
      · exact ins_lst hgi hlv q
      · exact ins_lst hgi wv.sa.st q
      · exact ins_lst hgi h.c q
      · exact ins_lst hgi hE q
    · rintro (q | q | q | q | q | q)
      · exact q3 q
      · exact ld q
      · exact n3 q
      · exact lines_st hli dli wv.sa.st q
      · exact t3 q
      · exact t4 q
    · rintro (q | q | q | q | q | q)
      · exact q1 q
      · exact ins_lst hdv wi.sa.st q.symm
      · exact lines_st hlv dlv wi.sa.st q.symm
      · exact n2 q
      · exact t9 q
      · exact t10 q
    · rintro (q | q | q | q | q | q)
      · exact q2 q
      · exact ins_lst hdv hLi q.symm
      · exact h.nl v i hv hi q.symm
      · exact lines_st hLi dLi wv.sa.st q
      · exact t5 q
      · exact t6 q
  have fresh : ∀ {q a : Addr} {o : HO}, H q = none → H a = some o → q ≠ a := fun hq ha => ne_of_none' hq ha
  have hLi : ∀ i, i < 2 → ∃ o, H (L i) = some o := fun i hi => by
    obtain ⟨wL, hL, _⟩ := (h.w i hi).sa.it
    exact ⟨_, hL⟩
  have hli : ∀ i, i < 2 → ∃ o, H (l i) = some o := fun i hi => by
    obtain ⟨wl, hl, _⟩ := (h.w i hi).lg.it
    exact ⟨_, hl⟩
  refine ⟨?_, ?_, hc, ?_, ?_, ?_, ?_, ?_, h.dd, h.ss, ?_, h.ae, he⟩
  · exact e _ _ (AB _ _ _ h.a) (fun q => ins_lst hdv h.a q.symm) (Ne.symm r1) (Ne.symm r7) eac ea h.a
  · exact e _ _ (AB _ _ _ h.b) (fun q => ins_lst hdv h.b q.symm) (Ne.symm r2) (Ne.symm r8) ebc eb h.b
  · intro i hi
    by_cases q : i = v
    · subst q
      rw [fu_same, fu_same, fu_same, fu_same]
      exact w'
    · rw [fu_ne q, fu_ne q, fu_ne q, fu_ne q]
      exact oth i hi q
  · intro i hi
    by_cases q : i = v
    · subst q
      rw [fu_same]
      exact lf'
    · rw [fu_ne q]
      exact h.lf i hi
  · intro i hi
    by_cases q : i = v
    · subst q
      rw [fu_same]
      exact sz'
    · rw [fu_ne q]
      have := h.sz i hi
      omega
  · intro i j hi hj
    by_cases q : i = v
    · subst q
      rw [fu_same]
      by_cases q2 : j = i
      · subst q2
        rw [fu_same]
        exact nl'
      · rw [fu_ne q2]
        rcases l1 with rfl | l1
        · exact h.nl i j hi hj
        · obtain ⟨o, ho⟩ := hLi j hj
          exact fresh l1 ho
    · rw [fu_ne q]
      by_cases q2 : j = v
      · subst q2
        rw [fu_same]
        rcases L1 with rfl | L1
        · exact h.nl i j hi hj
        · obtain ⟨o, ho⟩ := hli i hi
          exact (fresh L1 ho).symm
      · rw [fu_ne q2]
        exact h.nl i j hi hj
  · have key : ∀ i j, i < 2 → j < 2 → i ≠ j → fu l v l' i ≠ fu l v l' j := by
      intro i j hi hj nij
      obtain ⟨_, _, n3⟩ := h.other hb hi hj nij
      by_cases q : i = v
      · subst q
        rw [fu_same, fu_ne (Ne.symm nij)]
        rcases l1 with rfl | l1
        · exact n3
        · obtain ⟨o, ho⟩ := hli j hj
          exact fresh l1 ho
      · rw [fu_ne q]
        by_cases q2 : j = v
        · subst q2
          rw [fu_same]
          rcases l1 with rfl | l1
          · exact n3
          · obtain ⟨o, ho⟩ := hli i hi
            exact (fresh l1 ho).symm
        · rw [fu_ne q2]
          exact n3
    exact key 0 1 (by decide) (by decide) (by decide)
  · intro i hi
    obtain ⟨t1, t2, t3, t4, t5, t6, t7, t8, t9, t10⟩ := h.r i hi
    by_cases q : i = v
    · subst q
      rw [fu_same, fu_same]
      have a1 : l' ≠ A ∧ l' ≠ B ∧ l' ≠ C ∧ l' ≠ E := by
        rcases l1 with rfl | l1
        · exact ⟨t1, t2, t3, t4⟩
        · exact ⟨fresh l1 h.a, fresh l1 h.b, fresh l1 h.c, fresh l1 hE⟩
      have a2 : L' ≠ C ∧ L' ≠ E := by
        rcases L1 with rfl | L1
        · exact ⟨t5, t6⟩
        · exact ⟨fresh L1 h.c, fresh L1 hE⟩
      exact ⟨a1.1, a1.2.1, a1.2.2.1, a1.2.2.2, a2.1, a2.2, t7, t8, t9, t10⟩
    · rw [fu_ne q, fu_ne q]
      exact h.r i hi
/-- one of the elders -/
def Ent (CL : Addr) (H : Hp) (p C E : Addr) (d st l : Nat → Addr) (x : Addr) : Prop := ∃ gx lx dx tx ls, El CL H x gx lx dx tx ls ∧ x ≠ p ∧ x ≠ C ∧ x ≠ E ∧ lx ≠ p ∧ lx ≠ C ∧ lx ≠ E ∧ ∀ i, i < 2 → x ≠ st i ∧ x ≠ l i ∧ lx ≠ st i ∧ lx ≠ l i ∧ gx ≠ d i
theorem Ent.step {CL CD : Addr} {H H' : Hp} {A B C E p : Addr} {d st g l L : Nat → Addr} {ls : Nat → List L4} {k N v : Nat} {l' x : Addr} (h : Two CL CD H A B C E d st g l L ls k) (hb : BoxAt H p N) (hv : v < 2)
    (e : ∀ b o, b ≠ p → b ≠ d v → b ≠ l v → b ≠ st v → b ≠ C → b ≠ E → H b = some o → H' b = some o) (l1 : l' = l v ∨ H l' = none) (hx : Ent CL H p C E d st l x) : Ent CL H' p C E d st (fu l v l') x := by
  obtain ⟨gx, lx, dx, tx, ls', q, x1, x2, x3, x4, x5, x6, x7⟩ := hx
  obtain ⟨es, hE⟩ := h.e
  have wv := h.w v hv
  obtain ⟨dxv, hdv⟩ := wv.dk
  obtain ⟨wsv, hlv, dlv⟩ := wv.lg.it
  obtain ⟨_, _, _, _, hbx, _⟩ := id hb
  obtain ⟨gy, hg⟩ := q.lg.ob
  obtain ⟨wl, hl, _⟩ := q.lg.it
  obtain ⟨y1, y2, y3, y4, y5⟩ := x7 v hv
  have tup : ∀ b, (b = p ∨ b = d v ∨ b = l v ∨ b = st v ∨ b = C ∨ b = E) → ∀ ys, H b ≠ some (.tup ys) := by
    rintro b (rfl | rfl | rfl | rfl | rfl | rfl) ys q
    · rw [hbx] at q; cases q
    · rw [hdv] at q; cases q
    · rw [hlv] at q; cases q
    · rw [wv.sa.st] at q; cases q
    · rw [h.c] at q; cases q
    · rw [hE] at q; cases q
  have e' : ∀ b o, ¬ (b = p ∨ b = d v ∨ b = l v ∨ b = st v ∨ b = C ∨ b = E) → H b = some o → H' b = some o := fun b o nb hb' =>
    e b o (fun q => nb (.inl q)) (fun q => nb (.inr (.inl q))) (fun q => nb (.inr (.inr (.inl q)))) (fun q => nb (.inr (.inr (.inr (.inl q))))) (fun q => nb (.inr (.inr (.inr (.inr (.inl q)))))) (fun q => nb (.inr (.inr (.inr (.inr (.inr q))))) ) hb'
  refine ⟨gx, lx, dx, tx, ls', q.keep tup e' ?_ ?_ ?_, x1, x2, x3, x4, x5, x6, fun i hi => ?_⟩
  · rintro (z | z | z | z | z | z)
    · exact x1 z
    · exact ins_lst hdv q.xo z.symm
    · exact y2 z
    · exact y1 z
    · exact x2 z
    · exact x3 z
  · rintro (z | z | z | z | z | z)
    · exact ins_lst hg hbx z
    · exact y5 z
    · exact ins_lst hg hlv z
    · exact ins_lst hg wv.sa.st z
    · exact ins_lst hg h.c z
    · exact ins_lst hg hE z
  · rintro (z | z | z | z | z | z)
    · exact x4 z
    · exact ins_lst hdv hl z.symm
    · exact y4 z
    · exact y3 z
    · exact x5 z
    · exact x6 z
  · obtain ⟨t1, t2, t3, t4, t5⟩ := x7 i hi
    by_cases z : i = v
    · subst z
      rw [fu_same]
      rcases l1 with rfl | l1
      · exact ⟨t1, t2, t3, t4, t5⟩
      · exact ⟨t1, (ne_of_none' l1 q.xo).symm, t3, (ne_of_none' l1 hl).symm, t5⟩
    · rw [fu_ne z]
      exact ⟨t1, t2, t3, t4, t5⟩
/-- the elders -/
def Els (CL : Addr) (H : Hp) (p C E : Addr) (d st l : Nat → Addr) (n : Nat) : Prop := ∃ xs : List Addr, H E = some (.lst (xs.map V.ref)) ∧ xs.length ≤ n ∧ ∀ x ∈ xs, Ent CL H p C E d st l x
theorem at_two {f : Nat → V} {v : Nat} (h : v < 2) : atI [f 0, f 1] (v : Int) = some (f v) := by
  have : v = 0 ∨ v = 1 := by omega
  rcases this with rfl | rfl
  · rfl
  · rfl
theorem Two.box {CL CD : Addr} {H H' : Hp} {A B C E p : Addr} {d st g l L : Nat → Addr} {ls : Nat → List L4} {k N : Nat} (h : Two CL CD H A B C E d st g l L ls k) (hb : BoxAt H p N) (e : Ext1 p H H') (hE : E ≠ p) : Two CL CD H' A B C E d st g l L ls k := by
  obtain ⟨_, _, _, _, hbx, _⟩ := id hb
  have AB : ∀ a x y, H a = some (.lst [.ref x, .ref y]) → a ≠ p := fun a x y ha q => by
    rw [q, hbx] at ha
    cases ha
  obtain ⟨es, hes⟩ := h.e
  exact ⟨e _ _ (AB _ _ _ h.a) h.a, e _ _ (AB _ _ _ h.b) h.b, e _ _ (AB _ _ _ h.c) h.c, fun i hi => (h.w i hi).box hb e, h.lf, h.sz, h.nl, h.ll, h.dd, h.ss, h.r, h.ae, es, e _ _ hE hes⟩
theorem Ent.box {CL : Addr} {H H' : Hp} {p C E x : Addr} {d st l : Nat → Addr} {N : Nat} (hx : Ent CL H p C E d st l x) (hb : BoxAt H p N) (e : Ext1 p H H') : Ent CL H' p C E d st l x := by
  obtain ⟨gx, lx, dx, tx, ls', q, x1, x2, x3, x4, x5, x6, x7⟩ := hx
  obtain ⟨_, _, _, _, hbx, _⟩ := id hb
  obtain ⟨gy, hg⟩ := q.lg.ob
  refine ⟨gx, lx, dx, tx, ls', q.keep (C := fun b => b = p) ?_ (fun b o nb hb' => e b o nb hb') x1 (fun z => ins_lst hg hbx z) x4, x1, x2, x3, x4, x5, x6, x7⟩
  rintro b rfl ys q
  rw [hbx] at q
  cases q
/-- what is left of the state when one house is done -/
structure Fin (CL CD : Addr) (H0 H : Hp) (p A B C E : Addr) (d st g l L : Nat → Addr) (ls : Nat → List L4) (n N : Nat) : Prop where
  a : H A = some (.lst [.ref (d 0), .ref (d 1)])
  b : H B = some (.lst [.ref (st 0), .ref (st 1)])
  c : H C = some (.lst [.ref (g 0), .ref (g 1)])
  w : ∀ i, n ≤ i → i < 2 → Whole CL CD H (d i) (g i) (l i) (st i) (L i) (ls i)
  e : ∃ xs : List Addr, H E = some (.lst (xs.map V.ref)) ∧ xs.length ≤ 20 ∧ ∀ x ∈ xs, Ent CL H p C E d st l x
  x : BoxAt H p N
end K06


namespace K06
open PySem L2 Nv

theorem Ent.mono {CL : Addr} {H H' : Hp} {p C E x : Addr} {d st l : Nat → Addr} (hx : Ent CL H p C E d st l x) (e : Same H H') : Ent CL H' p C E d st l x := by
  obtain ⟨gx, lx, dx, tx, ls', q, r⟩ := hx
  exact ⟨gx, lx, dx, tx, ls', q.keep (C := fun _ => False) (fun _ z => z.elim) (fun b o _ hb => e b o hb) (fun z => z) (fun z => z) (fun z => z), r⟩
theorem OdV.apart {H H' : Hp} {v : V} {d : PyData} {b : Addr} {o : HO} (h : OdV H H' v d) (e : isL d = true) (hb : H b = some o) : V.ref b ≠ v := by
  cases h with
  | dat e2 _ =>
    rw [e] at e2
    cases e2
  | lst h0 _ _ =>
    intro q
    cases q
    rw [h0] at hb
    cases hb
theorem OdV.ne {H H' : Hp} {v : V} {d : PyData} {a : Addr} {o : HO} {ws : List V} (h : OdV H H' v d) (ha : H a = some o) (ha' : H' a = some (.lst ws)) : v ≠ .ref a := by
  cases h with
  | dat e2 h =>
    rintro rfl
    cases h with
    | lst q _ _ => cases e2
    | tup q _ => rw [ha'] at q; cases q
    | dct q _ => rw [ha'] at q; cases q
  | lst h0 _ _ =>
    intro q
    cases q
    rw [h0] at ha
    cases ha
theorem atI_last {α : Type} (xs : List α) (y : α) : atI (xs ++ [y]) (-1) = some y := by
  have h : ixN (xs ++ [y]).length (-1) = some xs.length := by
    rw [List.length_append, List.length_singleton]
    unfold ixN
    simp <;> omega
  unfold atI
  rw [h]
  simp
/-- all that stands between two rounds -/
structure Rnd (CL CD : Addr) (H0 H : Hp) (p A B C E : Addr) (d st g l L : Nat → Addr) (ls : Nat → List L4) (k : Nat) : Prop where
  t : Two CL CD H A B C E d st g l L ls k
  e : Els CL H p C E d st l k
  b : BoxAt H p (300 + 600 * k)
  x : Ext1 p H0 H
  pe : E ≠ p
  f : H0 C = none ∧ H0 E = none ∧ ∀ i, i < 2 → H0 (d i) = none ∧ H0 (st i) = none ∧ H0 (l i) = none
section
variable {P : Program} {w : World} {K : PySem.W.Frag} {mg : Str → Option Value} {base : Heap}
theorem ok_l_right (T : Tx K mg) : FnG P w K mg base 10 T.d_l_right.f T.d_l_right.fd ["box"] spRight := by
  refine okG0 T.d_l_right.F sc_l_right (fun vs H Q E h => ?_) (fun cdv A outer s H vs Q E hg hr h => ?_)
  · obtain ⟨p, rfl, _⟩ := h
    rfl
  obtain ⟨p, rfl, hp, k⟩ := h
  have sz : sizeLine = 16777216 := sizeLine_eq
  have hr1 : Room 2 (A.deeper (PyProof.Rows.envOfC "_law_right" (defScope s_l_right) s.heap.objs.size T.d_l_right.f cdv)) := hr.mono (by decide)
  refine ⟨_, (pss_cons (ps_par (i := 1) (j := 2) rfl sc_l_right.nd rfl rfl (by decide) rfl rfl (pa_cons (pe_lst1 (pa_cons (pe_make0 T.k_Disk (ok_Disk_init T) hr1 rfl T.m_Disk T.d_Disk_init.bi .nil pass0) (pa_cons (pe_make0 T.k_Disk (ok_Disk_init T) hr1 rfl T.m_Disk T.d_Disk_init.bi .nil pass0) pa_nil))) (pa_cons (pe_lst1 (pa_cons (pe_lst1 (pa_cons (pe_lst1 pa_nil) (pa_cons pe_str pa_nil))) (pa_cons (pe_lst1 (pa_cons (pe_lst1 pa_nil) (pa_cons pe_str pa_nil))) pa_nil))) pa_nil)) (by rfl))
    (pss_cons (ps_set (i := 3) sc_l_right.nd rfl (Or.inl rfl) (pe_cG (ok_l_by_hand T) T.d_l_by_hand.b takes0 hg (hr.mono (by decide)) T.d_l_by_hand.m T.d_l_by_hand.F.kp (pa_cons (pv 0) pa_nil)))
    (pss_cons (ps_expr (pe_mG (pe_ix ix_list (pv 1) pe_int (fun _ _ => rfl)) T.cl_Disk T.d_Disk_put.me (ok_Disk_put T) T.d_Disk_put.b takes0 hg (hr.mono (by decide)) (pa_cons (pv 3) pa_nil)))
    (C8.pss_cut (ps_par (i := 4) (j := 5) rfl sc_l_right.nd rfl rfl (by decide) rfl rfl (pa_cons (pe_lst1 (pa_cons (pe_cG (ok_l_open T) T.d_l_open.b takes0 hg (hr.mono (by decide)) T.d_l_open.m T.d_l_open.F.kp (pa_cons (pe_ix ix_list (pv 1) pe_int (fun _ _ => rfl)) (pa_cons (pe_ix ix_list (pv 2) pe_int (fun _ _ => rfl)) (pa_cons pe_str (pa_cons pe_int pa_nil))))) (pa_cons (pe_cG (ok_l_open T) T.d_l_open.b takes0 hg (hr.mono (by decide)) T.d_l_open.m T.d_l_open.F.kp (pa_cons (pe_ix ix_list (pv 1) pe_int (fun _ _ => rfl)) (pa_cons (pe_ix ix_list (pv 2) pe_int (fun _ _ => rfl)) (pa_cons (pv 3) (pa_cons pe_int pa_nil))))) pa_nil))) (pa_cons (pe_lst1 pa_nil) pa_nil)) (by rfl))
    (C8.pss_cut (ps_for PassesOwn.never rfl (pi_range1 (by rfl) T.n_range (pa_cons pe_int pa_nil)) (pg_name (i := 6) sc_l_right.nd rfl (Or.inl rfl))
      (pss_cons (ps_par3 (i := 7) (j := 8) (l := 9) rfl sc_l_right.nd rfl rfl rfl (by decide) (by decide) (by decide) rfl rfl rfl (pa_cons (pe_cG (ok_l_take T) T.d_l_take.b takes0 hg (hr.mono (by decide)) T.d_l_take.m T.d_l_take.F.kp (pa_cons (pv 0) (pa_cons pe_int pa_nil))) (pa_cons (pe_cG (ok_l_take T) T.d_l_take.b takes0 hg (hr.mono (by decide)) T.d_l_take.m T.d_l_take.F.kp (pa_cons (pv 0) (pa_cons pe_int pa_nil))) (pa_cons (pe_cG (ok_l_take T) T.d_l_take.b takes0 hg (hr.mono (by decide)) T.d_l_take.m T.d_l_take.F.kp (pa_cons (pv 0) (pa_cons pe_int pa_nil))) pa_nil))) (by rfl))
      (pss_cons (ps_par (i := 10) (j := 11) rfl sc_l_right.nd rfl rfl (by decide) rfl rfl (pa_cons (pe_ix ix_list (pv 1) (pv 7) (fun _ _ => rfl)) (pa_cons (pe_ix ix_list (pv 2) (pv 7) (fun _ _ => rfl)) pa_nil)) (by rfl))
      (C8.pss_cut (ps_if (PW.pt (pw_and (pt_cmpR op_lt (pv 8) pe_int (nomark _)) (pw_and1 (pt_cmpR op_lt (pe_callB call_len_seq (by rfl) T.n_len (by decide +kernel) (pa_cons (pe_ix ix_list (pv 11) pe_int (fun _ _ => rfl)) pa_nil)) pe_int (nomark _)))))
        (pss_cons (ps_set (i := 12) sc_l_right.nd rfl (Or.inl rfl) (pe_cG (ok_l_lines T) T.d_l_lines.b takes0 hg (hr.mono (by decide)) T.d_l_lines.m T.d_l_lines.F.kp (pa_cons (pv 0) (pa_cons (pe_ix ix_list (pv 11) pe_int (fun _ _ => rfl)) pa_nil))))
        (pss_one (ps_if (pt_not (pt_val (pe_cG (ok_l_put T) T.d_l_put.b takes0 hg (hr.mono (by decide)) T.d_l_put.m T.d_l_put.F.kp (pa_cons (pe_ix ix_list (pv 4) (pv 7) (fun _ _ => rfl)) (pa_cons (pv 11) (pa_cons (pe_ifExp (pt_cmpR op_gt (pv 8) pe_int (nomark _)) (pv 12) (pe_callTy call_tuple_of (by rfl) T.n_tuple (by decide +kernel) (pa_cons (pv 12) pa_nil))) (pa_cons (pv 9) pa_nil)))))))
          (pss_one (ps_ret pe_bl))
          pss_nil)))
        (pss_one (ps_if (pt_cmpR op_lt (pv 8) pe_int (nomark _))
          (pss_one (ps_if (pt_not (pt_val (pe_cG (ok_l_refused T) T.d_l_refused.b takes0 hg (hr.mono (by decide)) T.d_l_refused.m T.d_l_refused.F.kp (pa_cons (pe_ix ix_list (pv 4) (pv 7) (fun _ _ => rfl)) (pa_cons (pe_cG (ok_l_odd T) T.d_l_odd.b takes0 hg (hr.mono (by decide)) T.d_l_odd.m T.d_l_odd.F.kp (pa_cons (pv 0) (pa_cons (pe_ix ix_list (pv 11) pe_int (fun _ _ => rfl)) pa_nil))) (pa_cons (pv 9) pa_nil))))))
            (pss_one (ps_ret pe_bl))
            pss_nil))
          (pss_cons (ps_expr (pe_bm PySem.F.plainAttrs_list PySem.F.slot_list_append PySem.F.type_list_append mt_append (pv 5) (pa_cons (pe_lst1 (pa_cons (pe_ix ix_list (pv 4) (pv 7) (fun _ _ => rfl)) (pa_cons (pe_callTy call_tuple_of (by rfl) T.n_tuple (by decide +kernel) (pa_cons (pe_ix ix_list (pv 11) pe_int (fun _ _ => rfl)) pa_nil)) pa_nil))) pa_nil)))
          (pss_cons (ps_asg (pe_cG (ok_l_fallen T) T.d_l_fallen.b takes0 hg (hr.mono (by decide)) T.d_l_fallen.m T.d_l_fallen.F.kp (pa_cons (pv 0) (pa_cons (pv 10) (pa_cons (pv 11) (pa_cons (pv 9) pa_nil))))) (pg_sub (pv 4) (pv 7) set_list))
          (pss_one (ps_if (pt_cmpR op_ne (pe_prop (pe_fld (pe_ix ix_list (pe_ix ix_list (pv 5) (pe_un un_neg pe_int) (fun _ _ => rfl)) pe_int (fun _ _ => rfl)) rfl) T.cl_Disk T.p_text.po (okp_text T) hr1 T.p_text.bi .nil pass0 rfl) (pe_prop (pv 10) T.cl_Disk T.p_text.po (okp_text T) hr1 T.p_text.bi .nil pass0 rfl) (nomark _))
            (pss_one (ps_ret pe_bl))
            pss_nil)))))))
      (pss_one (ps_if (PW.pt (pw_or (pt_not (pt_val (pe_cG (ok_l_is T) T.d_l_is.b takes0 hg (hr.mono (by decide)) T.d_l_is.m T.d_l_is.F.kp (pa_cons (pe_ix ix_list (pv 1) pe_int (fun _ _ => rfl)) (pa_cons (pe_ix ix_list (pv 4) pe_int (fun _ _ => rfl)) (pa_cons (pe_ix ix_list (pv 2) pe_int (fun _ _ => rfl)) pa_nil)))))) (pw_or1 (pt_not (pt_val (pe_cG (ok_l_is T) T.d_l_is.b takes0 hg (hr.mono (by decide)) T.d_l_is.m T.d_l_is.F.kp (pa_cons (pe_ix ix_list (pv 1) pe_int (fun _ _ => rfl)) (pa_cons (pe_ix ix_list (pv 4) pe_int (fun _ _ => rfl)) (pa_cons (pe_ix ix_list (pv 2) pe_int (fun _ _ => rfl)) pa_nil)))))))))
        (pss_one (ps_ret pe_bl))
        pss_nil))))))
    (C8.pss_cut (ps_for PassesOwn.never rfl (pi_range1 (by rfl) T.n_range (pa_cons pe_int pa_nil)) (pg_name (i := 7) sc_l_right.nd rfl (Or.inl rfl))
      (pss_one (ps_if (pt_not (pt_val (pe_cG (ok_l_pieces T) T.d_l_pieces.b takes0 hg (hr.mono (by decide)) T.d_l_pieces.m T.d_l_pieces.F.kp (pa_cons (pv 0) (pa_cons (pe_ix ix_list (pv 1) (pv 7) (fun _ _ => rfl)) (pa_cons (pe_ix ix_list (pv 4) (pv 7) (fun _ _ => rfl)) (pa_cons (pe_ix ix_list (pv 2) (pv 7) (fun _ _ => rfl)) (pa_cons (pv 7) pa_nil))))))))
        (pss_one (ps_ret pe_bl))
        pss_nil)))
    (pss_one (ps_ret (pe_cmpR (op_eqD hr.units) (pe_lc (own := [("elder", 13), ("lines", 12)]) (g := (gLst K 2 (gCons (gName 13) (gCons (gName 12) gNil)))) rfl sc_l_right.nd (pi_list (pv 5)) (blkOk_by (N := ["box", "disks", "states", "signs", "logs", "elders", "k", "which", "kind", "turn", "disk", "state", "lines", "elder"]) (sc := defScope s_l_right) (by decide +kernel)) (fun _ _ _ _ _ => (pg_lst rfl (pgs_cons (pg_name (i := 13) sc_l_right.nd rfl (Or.inl rfl)) (pgs_cons (pg_name (i := 12) sc_l_right.nd rfl (Or.inl rfl)) pgs_nil)))) (fun _ _ _ _ _ => (pts_one (pt_cmpR op_ne (pe_callB (call_reprA hg hr.units) (by rfl) T.n_repr (by decide +kernel) (pa_cons (pe_lst1 (pa_cons (pe_prop (pv 13) T.cl_Log T.p_lines.po (okp_lines T) hr1 T.p_lines.bi .nil pass0 rfl) (pa_cons (pe_callB (call_lenO (ok_Log___len__ T) T.d_Log___len__.b hg (hr.mono (by decide)) T.d_Log___len__.me.at_ (beq_iff_eq.mp T.d_Log___len__.me.fn)) (by rfl) T.n_len (by decide +kernel) (pa_cons (pv 13) pa_nil)) pa_nil))) pa_nil)) (pe_callB (call_reprA hg hr.units) (by rfl) T.n_repr (by decide +kernel) (pa_cons (pe_lst1 (pa_cons (pv 12) (pa_cons (pe_callB (call_len_seqK (K := K) rfl) (by rfl) T.n_len (by decide +kernel) (pa_cons (pv 12) pa_nil)) pa_nil))) pa_nil)) (nomark _)))) (fun _ _ _ _ _ => (pv 13))) (pe_lst1 pa_nil) (nomark _)))))))))), ?_⟩
  walk_at "rd"
  intro d0 dx0 hd0 hdx0 nd0
  have so0 : ∀ a o, H a = some o → upd (upd H dx0 (.own d0)) d0 (.ins T.C_Disk dx0 []) a = some o := fun a o ha => by
    rw [upd_ne (ne_of_none ha hd0), upd_ne (ne_of_none ha hdx0)]
    exact ha
  refine ⟨d0, dx0, rfl, upd_same, fun H1 hD0 e1 => ⟨rfl, ?_⟩⟩
  intro d1 dx1 hd1 hdx1 nd1
  have so1 : ∀ a o, H1 a = some o → upd (upd H1 dx1 (.own d1)) d1 (.ins T.C_Disk dx1 []) a = some o := fun a o ha => by
    rw [upd_ne (ne_of_none ha hd1), upd_ne (ne_of_none ha hdx1)]
    exact ha
  refine ⟨d1, dx1, rfl, upd_same, fun H2 hD1 e2 => ⟨rfl, by decide, fun A' hA nA => ?_⟩⟩
  obtain ⟨H3, e3, S3, fA⟩ := gen_new (.lst [V.ref d0, V.ref d1]) hA
  simp only [e3]
  refine ⟨by decide, fun L0 hL0 nL0 => ?_⟩
  obtain ⟨H4, e4, S4, fL0⟩ := gen_new (.lst []) hL0
  simp only [e4]
  refine ⟨by decide, fun s0 hs0 ns0 => ?_⟩
  obtain ⟨H5, e5, S5, fs0⟩ := gen_new (.lst [V.ref L0, V.str (Str.ofString "")]) hs0
  simp only [e5]
  refine ⟨by decide, fun L1 hL1 nL1 => ?_⟩
  obtain ⟨H6, e6, S6, fL1⟩ := gen_new (.lst []) hL1
  simp only [e6]
  refine ⟨by decide, fun s1 hs1 ns1 => ?_⟩
  obtain ⟨H7, e7, S7, fs1⟩ := gen_new (.lst [V.ref L1, V.str (Str.ofString "")]) hs1
  simp only [e7]
  refine ⟨by decide, fun B' hB nB => ?_⟩
  obtain ⟨H8, e8, S8, fB⟩ := gen_new (.lst [V.ref s0, V.ref s1]) hB
  simp only [e8]
  let d : Nat → Addr := fun i => if i = 0 then d0 else d1
  let st : Nat → Addr := fun i => if i = 0 then s0 else s1
  let Mid0 : L2.St → Hp → Prop := fun σ' H' => ∃ (u : Str) (C E : Addr) (g l L : Nat → Addr) (ls : Nat → List L4), σ' = [some (.ref p), some (.ref A'), some (.ref B'), some (.str u), some (.ref C), some (.ref E), none, none, none, none, none, none, none, none] ∧ Rnd T.C_Log T.C_Disk H H' p A' B' C E d st g l L ls 0
  let Mid1 : L2.St → Hp → Prop := fun σ' H' => ∃ (u : Str) (C E : Addr) (g l L : Nat → Addr) (ls : Nat → List L4) (y6 y7 y8 y9 y10 y11 y12 y13 : Option V), σ' = [some (.ref p), some (.ref A'), some (.ref B'), some (.str u), some (.ref C), some (.ref E), y6, y7, y8, y9, y10, y11, y12, y13] ∧ Rnd T.C_Log T.C_Disk H H' p A' B' C E d st g l L ls 20
  let Mid2 : L2.St → Hp → Prop := fun σ' H' => ∃ (u : Str) (E : Addr) (xs : List Addr) (y4 y6 y7 y8 y9 y10 y11 y12 y13 : Option V), σ' = [some (.ref p), some (.ref A'), some (.ref B'), some (.str u), y4, some (.ref E), y6, y7, y8, y9, y10, y11, y12, y13] ∧ H' E = some (.lst (xs.map V.ref)) ∧ xs.length ≤ 20 ∧
    (∀ x ∈ xs, ∃ gx lx dx tx ls, El T.C_Log H' x gx lx dx tx ls) ∧ BoxAt H' p 100000 ∧ Ext1 p H H'
  obtain ⟨_, _, _, _, hbx, _⟩ := id hp
  have x02 : ∀ a o, H a = some o → H2 a = some o := fun a o ha => by
    have h1 := e1 _ _ (ne_of_none ha hd0) (so0 _ _ ha)
    exact e2 _ _ (ne_of_none h1 hd1) (so1 _ _ h1)
  have S38 : Same H3 H8 := S4.trans (S5.trans (S6.trans (S7.trans S8)))
  have hp8 : BoxAt H8 p 0 := (hp.mono x02).mono (S3.trans S38)
  have nd1p : d1 ≠ p := ne_of_none' hd1 (e1 _ _ (ne_of_none hbx hd0) (so0 _ _ hbx))
  have nAp : A' ≠ p := ne_of_none' hA (x02 _ _ hbx)
  refine ⟨p, 0, rfl, ?_, by decide, fun u H9 pu fu' lu hp9 e9 => ?_⟩
  · exact hp8
  try dsimp only
  have fA9 : H9 A' = some (.lst [V.ref d0, V.ref d1]) := e9 _ _ nAp (S38 _ _ fA)
  refine r_ixL (.of fA9) rfl ?_
  have hd9 : DiskAt T.C_Disk H9 d1 Str.empty 0 := by
    obtain ⟨dy, hy⟩ := hD1
    exact ⟨dy, e9 _ _ nd1p (S38 _ _ (S3 _ _ hy))⟩
  refine m_disk hd9 (by decide +kernel) (by decide +kernel) ?_
  refine ⟨d1, .str u, _, _, .str u, rfl, hd9, .str _, fun y ey _ => ?_, fun e => (by
    have q : sigOk (.str u) = okS u := rfl
    rw [q, pu.ok] at e
    cases e)⟩
  cases ey
  refine ⟨by have : Str.empty.length = 0 := rfl; omega, fun H10 hd10 e10 => ?_⟩
  try dsimp only
  refine ⟨Mid0, ?_, ?_⟩
  · walk_at "rd"
    have S48 : Same H4 H8 := S5.trans (S6.trans (S7.trans S8))
    have S58 : Same H5 H8 := S6.trans (S7.trans S8)
    have S68 : Same H6 H8 := S7.trans S8
    obtain ⟨dy0, hy0⟩ := hD0
    obtain ⟨dy1, hy1⟩ := hD1
    have nd10 : d1 ≠ d0 := ne_of_none' hd1 hy0
    have hy02 : H2 d0 = some (.ins T.C_Disk dy0 (flds Str.empty 0)) := e2 _ _ (Ne.symm nd10) (so1 _ _ hy0)
    have nd0p : d0 ≠ p := ne_of_none' hd0 hbx
    have up10 : ∀ b o, b ≠ p → b ≠ d1 → H8 b = some o → H10 b = some o := fun b o np nd hb => e10 _ _ nd (e9 _ _ np hb)
    have h8p : ∃ o, H8 p = some o := ⟨_, S38 _ _ (S3 _ _ (x02 _ _ hbx))⟩
    have hp2 := x02 _ _ hbx
    have hp3 := S3 _ _ hp2
    have nL0p : L0 ≠ p := ne_of_none' hL0 hp3
    have ns0p : s0 ≠ p := ne_of_none' hs0 (S4 _ _ hp3)
    have nL1p : L1 ≠ p := ne_of_none' hL1 (S5 _ _ (S4 _ _ hp3))
    have ns1p : s1 ≠ p := ne_of_none' hs1 (S6 _ _ (S5 _ _ (S4 _ _ hp3)))
    have nBp : B' ≠ p := ne_of_none' hB (S7 _ _ (S6 _ _ (S5 _ _ (S4 _ _ hp3))))
    have d1_3 := S3 _ _ hy1
    have nAd1 : A' ≠ d1 := ne_of_none' hA hy1
    have ns0d1 : s0 ≠ d1 := ne_of_none' hs0 (S4 _ _ d1_3)
    have ns1d1 : s1 ≠ d1 := ne_of_none' hs1 (S6 _ _ (S5 _ _ (S4 _ _ d1_3)))
    have nBd1 : B' ≠ d1 := ne_of_none' hB (S7 _ _ (S6 _ _ (S5 _ _ (S4 _ _ d1_3))))
    have fA10 := up10 _ _ nAp nAd1 (S38 _ _ fA)
    have fB10 := up10 _ _ nBp nBd1 fB
    have fs0' := up10 _ _ ns0p ns0d1 (S58 _ _ fs0)
    have fs1' := up10 _ _ ns1p ns1d1 (S8 _ _ fs1)
    have hd0' := up10 _ _ nd0p (Ne.symm nd10) (S38 _ _ (S3 _ _ hy02))
    have eu : Str.empty ++ u = u := sg_inj (by rw [sg_app]; rfl)
    rw [eu] at hd10
    obtain ⟨dz1, hz1⟩ := hd10
    have ns01 : s1 ≠ s0 := ne_of_none' hs1 (S6 _ _ fs0)
    refine r_ixL (.of fA10) rfl ?_
    refine r_ixL (.of fB10) rfl ?_
    refine ⟨d0, s0, Str.ofString "", 0, 0, _, _, rfl, ⟨dy0, hd0'⟩, by decide, by decide, Pl.empty, by decide, Fig.nil 120, fs0', fun g0 l0 L0' H11 hg0 hl0 hL0' nl0 w0 x11 => ?_⟩
    have en : lnsF (sg (Str.ofString "")) = [] := rfl
    rw [en] at w0
    have nAd0 : A' ≠ d0 := ne_of_none' hA hy02
    have nBd0 : B' ≠ d0 := fun q => ins_lst hd0' fB10 q.symm
    have nAs0 : A' ≠ s0 := (ne_of_none' hs0 (S4 _ _ fA)).symm
    have nBs0 : B' ≠ s0 := ne_of_none' hB (S7 _ _ (S6 _ _ fs0))
    have nAs1 : A' ≠ s1 := (ne_of_none' hs1 (S6 _ _ (S5 _ _ (S4 _ _ fA)))).symm
    have nBs1 : B' ≠ s1 := ne_of_none' hB fs1
    have fA11 := x11 _ _ nAd0 nAs0 fA10
    have fB11 := x11 _ _ nBd0 nBs0 fB10
    have hd1' := x11 _ _ nd10 (Ne.symm ns0d1) hz1
    have hs1' := x11 _ _ (fun q => ins_lst hd0' fs1' q.symm) ns01 fs1'
    try dsimp only
    refine r_ixL (.of fA11) rfl ?_
    refine r_ixL (.of fB11) rfl ?_
    refine ⟨d1, s1, u, 0, 1, _, _, rfl, ⟨dz1, hd1'⟩, by decide, by omega, pu, by omega, fu', hs1', fun g1 l1 L1' H12 hg1 hl1 hL1' nl1 w1 x12 => ?_⟩
    try dsimp only
    have fA12 := x12 _ _ nAd1 nAs1 fA11
    have fB12 := x12 _ _ nBd1 nBs1 fB11
    have tup2 : ∀ b, (b = d1 ∨ b = s1) → ∀ ys, H11 b ≠ some (.tup ys) := by
      rintro b (rfl | rfl) ys q
      · rw [hd1'] at q; cases q
      · rw [hs1'] at q; cases q
    have w0' : Whole T.C_Log T.C_Disk H12 d0 g0 l0 s0 L0' [] := by
      refine w0.keep (C := fun b => b = d1 ∨ b = s1) tup2 (fun b o nb hb => x12 b o (fun q => nb (.inl q)) (fun q => nb (.inr q)) hb) ?_ ?_ ?_ ?_ ?_
      · rintro (q | q)
        · exact nd10 q.symm
        · exact ins_lst hd0' fs1' q
      · rintro (q | q)
        · exact ne_of_none' hg0 hz1 q
        · exact ne_of_none' hg0 fs1' q
      · rintro (q | q)
        · exact ne_of_none' hl0 hz1 q
        · exact ne_of_none' hl0 fs1' q
      · rintro (q | q)
        · exact ns0d1 q
        · exact ns01 q.symm
      · rintro (q | q)
        · exact ne_of_none' hL0' hz1 q
        · exact ne_of_none' hL0' fs1' q
    refine ⟨by decide, fun C hC nC => ?_⟩
    obtain ⟨H13, e13, S13, fC⟩ := gen_new (.lst [V.ref g0, V.ref g1]) hC
    rw [e13]
    refine ⟨by decide, fun E hE nE => ?_⟩
    obtain ⟨H14, e14, S14, fE⟩ := gen_new (.lst []) hE
    rw [e14]
    have SS := S13.trans S14
    have hE12 : H12 E = none := S13.free hE
    have hbx12 : ∃ o, H12 p = some o := by
      obtain ⟨_, _, _, _, hb9, _⟩ := id hp9
      exact ⟨_, x12 _ _ (Ne.symm nd1p) (Ne.symm ns1p) (x11 _ _ (Ne.symm nd0p) (Ne.symm ns0p) (e10 _ _ (Ne.symm nd1p) hb9))⟩
    obtain ⟨_, hbx12⟩ := hbx12
    have x12' : ∀ b o, b ≠ p → H b = some o → H12 b = some o := fun b o np hb => by
      have h2 := x02 _ _ hb
      have h8 := S38 _ _ (S3 _ _ h2)
      have b0 : b ≠ d0 := fun q => by rw [q, hd0] at hb; cases hb
      have b1 : b ≠ d1 := fun q => by
        have := e1 _ _ (ne_of_none hb hd0) (so0 _ _ hb)
        rw [q, hd1] at this
        cases this
      have c0 : b ≠ s0 := fun q => by
        have := S4 _ _ (S3 _ _ h2)
        rw [q, hs0] at this
        cases this
      have c1 : b ≠ s1 := fun q => by
        have := S6 _ _ (S5 _ _ (S4 _ _ (S3 _ _ h2)))
        rw [q, hs1] at this
        cases this
      exact x12 _ _ b1 c1 (x11 _ _ b0 c0 (up10 _ _ np b1 h8))
    have fr12 : ∀ q, q ≠ p → H12 q = none → H q = none := fun q np hq => by
      cases z : H q with
      | none => rfl
      | some o =>
        rw [x12' _ _ np z] at hq
        cases hq
    have w0E := w0'.mono SS
    have w1E := w1.mono SS
    obtain ⟨wl0, hl0', _⟩ := w0'.lg.it
    obtain ⟨wl1, hl1', _⟩ := w1.lg.it
    obtain ⟨wL0, hL0'', _⟩ := w0'.sa.it
    obtain ⟨wL1, hL1'', _⟩ := w1.sa.it
    obtain ⟨wl0b, hl0b, _⟩ := w0.lg.it
    obtain ⟨wL0b, hL0b, _⟩ := w0.sa.it
    have f12 : ∀ {a : Addr} {o : HO}, H12 a = some o → C ≠ a ∧ E ≠ a := fun h => ⟨ne_of_none' hC h, ne_of_none' hE12 h⟩
    have ECn : E ≠ C := ne_of_none' hE fC
    have two : ∀ i, i < 2 → i = 0 ∨ i = 1 := fun i hi => by omega
    have l0A : l0 ≠ A' ∧ l0 ≠ B' := ⟨ne_of_none' hl0 fA10, ne_of_none' hl0 fB10⟩
    have l1A : l1 ≠ A' ∧ l1 ≠ B' := ⟨ne_of_none' hl1 fA11, ne_of_none' hl1 fB11⟩
    have fz : (fileL (lnsF (sg u))).length ≤ 400 := by
      obtain ⟨r, er⟩ := file_prefix (sg u)
      have := congrArg List.length er
      rw [List.length_append, sg_len] at this
      omega
    have dS1 : H1 d1 = none := hd1
    refine ⟨u, C, E, fun i => if i = 0 then g0 else g1, fun i => if i = 0 then l0 else l1, fun i => if i = 0 then L0' else L1', fun i => if i = 0 then [] else lnsF (sg u), rfl, ⟨⟨SS _ _ fA12, SS _ _ fB12, S14 _ _ fC, ?_, ?_, ?_, ?_, ?_, ?_, ?_, ?_, ?_, ⟨_, fE⟩⟩, ⟨[], fE, Nat.le_refl _, fun x hx => by simp at hx⟩, ?_, ?_, ?_, ?_⟩⟩
    · intro i hi
      rcases two i hi with rfl | rfl
      · exact w0E
      · exact w1E
    · intro i hi
      rcases two i hi with rfl | rfl
      · intro x hx
        simp at hx
      · exact lnsF_lf fu'
    · intro i hi
      rcases two i hi with rfl | rfl
      · show (fileL []).length ≤ _
        exact Nat.zero_le _
      · show (fileL (lnsF (sg u))).length ≤ _
        omega
    · intro i j hi hj
      rcases two i hi with rfl | rfl <;> rcases two j hj with rfl | rfl
      · exact nl0
      · exact (ne_of_none' hL1' hl0b).symm
      · exact ne_of_none' hl1 hL0b
      · exact nl1
    · exact (ne_of_none' hl1 hl0b).symm
    · exact Ne.symm nd10
    · exact Ne.symm ns01
    · intro i hi
      rcases two i hi with rfl | rfl
      · exact ⟨l0A.1, l0A.2, (f12 hl0').1.symm, (f12 hl0').2.symm, (f12 hL0'').1.symm, (f12 hL0'').2.symm, Ne.symm nAs0, Ne.symm nBs0, (f12 w0'.sa.st).1.symm, (f12 w0'.sa.st).2.symm⟩
      · exact ⟨l1A.1, l1A.2, (f12 hl1').1.symm, (f12 hl1').2.symm, (f12 hL1'').1.symm, (f12 hL1'').2.symm, Ne.symm nAs1, Ne.symm nBs1, (f12 w1.sa.st).1.symm, (f12 w1.sa.st).2.symm⟩
    · exact ⟨(f12 fA12).2.symm, (f12 fB12).2.symm, Ne.symm ECn, (f12 fA12).1.symm, (f12 fB12).1.symm⟩
    · obtain ⟨a, b, c, dd, hb, r⟩ := hp9.le (M := 300) (by omega)
      exact ⟨a, b, c, dd, SS _ _ (x12 _ _ (Ne.symm nd1p) (Ne.symm ns1p) (x11 _ _ (Ne.symm nd0p) (Ne.symm ns0p) (e10 _ _ (Ne.symm nd1p) hb))), r⟩
    · exact fun b o np hb => SS _ _ (x12' b o np hb)
    · exact (f12 hbx12).2
    · refine ⟨fr12 _ (f12 hbx12).1 hC, fr12 _ (f12 hbx12).2 hE12, fun i hi => ?_⟩
      have hd1H : H d1 = none := by
        cases z : H d1 with
        | none => rfl
        | some o =>
          have := e1 _ _ (ne_of_none z hd0) (so0 _ _ z)
          rw [hd1] at this
          cases this
      have hH : ∀ q, (∀ o, H q = some o → False) → H q = none := fun q h => by
        cases z : H q with
        | none => rfl
        | some o => exact (h o z).elim
      rcases two i hi with rfl | rfl
      · refine ⟨hd0, hH _ fun o z => ?_, hH _ fun o z => ?_⟩
        · have := S4 _ _ (S3 _ _ (x02 _ _ z))
          rw [show st 0 = s0 from rfl, hs0] at this
          cases this
        · have h8 := S38 _ _ (S3 _ _ (x02 _ _ z))
          have := up10 _ _ (fun q => by have h := hl0; rw [show l0 = p from q] at h; obtain ⟨_, _, _, _, hb9, _⟩ := id hp9; rw [e10 _ _ (Ne.symm nd1p) hb9] at h; cases h) (fun q => by have h := hl0; rw [show l0 = d1 from q, hz1] at h; cases h) h8
          rw [show (if (0 : Nat) = 0 then l0 else l1) = l0 from rfl, hl0] at this
          cases this
      · refine ⟨hd1H, hH _ fun o z => ?_, hH _ fun o z => ?_⟩
        · have := S6 _ _ (S5 _ _ (S4 _ _ (S3 _ _ (x02 _ _ z))))
          rw [show st 1 = s1 from rfl, hs1] at this
          cases this
        · have np : l1 ≠ p := fun q => by
            obtain ⟨_, _, _, _, hb9, _⟩ := id hp9
            have h := hl1
            rw [q, x11 _ _ (Ne.symm nd0p) (Ne.symm ns0p) (e10 _ _ (Ne.symm nd1p) hb9)] at h
            cases h
          have h8 := S38 _ _ (S3 _ _ (x02 _ _ z))
          have z' : H l1 = some o := z
          have := x11 l1 o (fun q => by rw [q, hd0] at z'; cases z') (fun q => by
            have h := S4 _ _ (S3 _ _ (x02 _ _ z'))
            rw [q, hs0] at h
            cases h) (up10 _ _ np (fun q => by rw [q, hd1H] at z'; cases z') h8)
          rw [hl1] at this
          cases this
  rintro σ Ha ⟨u, C, E, g, l, L, ls, rfl, ra⟩
  refine ⟨Mid1, ?_, ?_⟩
  · refine ⟨_, rfl, by decide, by decide, ?_⟩
    refine for_range (fun i σ H' => ∃ (g l L : Nat → Addr) (ls : Nat → List L4) (y6 y7 y8 y9 y10 y11 y12 y13 : Option V), σ = [some (.ref p), some (.ref A'), some (.ref B'), some (.str u), some (.ref C), some (.ref E), y6, y7, y8, y9, y10, y11, y12, y13] ∧ Rnd T.C_Log T.C_Disk H H' p A' B' C E d st g l L ls i) ?_ ?_ ?_
    · exact ⟨g, l, L, ls, _, _, _, _, _, _, _, _, rfl, ra⟩
    · rintro i σ Hb hi ⟨g, l, L, ls, y6, y7, y8, y9, y10, y11, y12, y13, rfl, rb⟩
      walk_at "rd"
      refine ⟨p, 2, _, rfl, rb.b, by omega, by decide, by decide, fun wv Hc c0 c1 hpc ec => ?_⟩
      try dsimp only
      refine ⟨p, 8, _, rfl, hpc, by omega, by decide, by decide, fun kd Hd k0 k1 hpd ed => ?_⟩
      try dsimp only
      refine ⟨p, 2, _, rfl, hpd, by omega, by decide, by decide, fun tr He t0 t1 hpe ee => ?_⟩
      try dsimp only
      obtain ⟨v, rfl⟩ : ∃ v : Nat, wv = (v : Int) := ⟨wv.toNat, by omega⟩
      have hv : v < 2 := by omega
      have ebe : Ext1 p Hb He := (ec.trans ed).trans ee
      have te := rb.t.box rb.b ebe rb.pe
      obtain ⟨xs, hEb, lxs, hxs⟩ := rb.e
      have hEe := ebe _ _ rb.pe hEb
      have hxe : ∀ x ∈ xs, Ent T.C_Log He p C E d st l x := fun x hx => (hxs x hx).box rb.b ebe
      have xe : Ext1 p H He := rb.x.trans ebe
      obtain ⟨fC, fE, fdl⟩ := rb.f
      have wv' := te.w v hv
      obtain ⟨n1, n2, n3, n4, n5⟩ := wv'.np hpe
      obtain ⟨v1, v2, v3, v4, v5, v6, v7, v8, v9⟩ := wv'.sl
      have szv := te.sz v hv
      have lfv := te.lf v hv
      have okv : ∀ x ∈ ls v, LOk x := fun x hx => (lfv x hx).ok
      obtain ⟨wL, hLv, dLv⟩ := wv'.sa.it
      have lwL := dLv.len
      rw [List.length_map] at lwL
      have l5 := file_len5 (ls v)
      have nlL := te.nl v v hv hv
      have ndl : d v ≠ l v := Ne.symm v6
      have frp : ∀ q, He q = none → H q = none := fun q hq => by
        cases z : H q with
        | none => rfl
        | some o =>
          by_cases qp : q = p
          · obtain ⟨_, _, _, _, hbx, _⟩ := hpe
            rw [qp, hbx] at hq
            cases hq
          · rw [xe _ _ qp z] at hq
            cases hq
      refine r_ixL (.of te.a) (at_two (f := fun i => .ref (d i)) hv) ?_
      refine r_ixL (.of te.b) (at_two (f := fun i => .ref (st i)) hv) ?_
      let MidT : L2.St → Hp → Prop := fun σ' H' => ∃ (g l L : Nat → Addr) (ls : Nat → List L4) (y6 y7 y8 y9 y10 y11 y12 y13 : Option V), σ' = [some (.ref p), some (.ref A'), some (.ref B'), some (.str u), some (.ref C), some (.ref E), y6, y7, y8, y9, y10, y11, y12, y13] ∧ Rnd T.C_Log T.C_Disk H H' p A' B' C E d st g l L ls (i + 1)
      refine ⟨MidT, ?_, ?_⟩
      · walk_at "rd"
        have eqg : ∀ j, fu g v (g v) j = g j := fun j => by
          by_cases q : j = v
          · rw [q, fu_same]
          · rw [fu_ne q]
        have mid : ∀ (H' : Hp) (g' l' L' : Addr) (ls' : List L4) (xs' : List Addr), (∀ b o, b ≠ p → b ≠ d v → b ≠ l v → b ≠ st v → b ≠ C → b ≠ E → He b = some o → H' b = some o) →
            H' C = some (.lst [.ref (fu g v g' 0), .ref (fu g v g' 1)]) → H' E = some (.lst (xs'.map V.ref)) → xs'.length ≤ i + 1 → (∀ x ∈ xs', Ent T.C_Log H' p C E d st (fu l v l') x) → Whole T.C_Log T.C_Disk H' (d v) g' l' (st v) L' ls' → (∀ x ∈ ls', LF x) → (fileL ls').length ≤ 10980 + 400 * (i + 1) →
            (l' = l v ∨ He l' = none) → (L' = L v ∨ He L' = none) → l' ≠ L' → BoxAt H' p (300 + 600 * (i + 1)) → Rnd T.C_Log T.C_Disk H H' p A' B' C E d st (fu g v g') (fu l v l') (fu L v L') (fu ls v ls') (i + 1) := by
          intro H' g' l' L' ls' xs' e hc hE' lx' hx' w' lf' sz' l1 L1 nl' bx
          obtain ⟨f1, f2, f3⟩ := fdl v hv
          refine ⟨te.step hpe hv e hc ⟨_, hE'⟩ w' lf' sz' l1 L1 nl', ⟨xs', hE', lx', hx'⟩, bx, fun b o np hb => ?_, rb.pe, fC, fE, fun j hj => ?_⟩
          · exact e _ _ np (fun q => by rw [q, f1] at hb; cases hb) (fun q => by rw [q, f3] at hb; cases hb) (fun q => by rw [q, f2] at hb; cases hb) (fun q => by rw [q, fC] at hb; cases hb) (fun q => by rw [q, fE] at hb; cases hb) (xe _ _ np hb)
          · obtain ⟨f1, f2, f3⟩ := fdl j hj
            refine ⟨f1, f2, ?_⟩
            by_cases q : j = v
            · rw [q, fu_same]
              rcases l1 with z | z
              · rw [z, ← q]
                exact f3
              · exact frp _ z
            · rw [fu_ne q]
              exact f3
        have gC : atI [V.ref (g 0), V.ref (g 1)] (v : Int) = some (.ref (g v)) := at_two (f := fun i => .ref (g i)) hv
        obtain ⟨rA, rB, rC, rE, rLC, rLE, rsA, rsB, rsC, rsE⟩ := te.r v hv
        obtain ⟨dxv, hdv⟩ := wv'.dk
        have nCd : C ≠ d v := fun q => ins_lst hdv te.c q.symm
        have nEd : E ≠ d v := fun q => ins_lst hdv hEe q.symm
        have nCp : C ≠ p := fun q => by
          obtain ⟨_, _, _, _, hbx, _⟩ := hpe
          have := te.c
          rw [q, hbx] at this
          cases this
        have wL30 : wL.length = (ls v).length := lwL
        by_cases hk3 : kd < 3
        · rw [if_pos hk3]
          refine r_ixL (.of wv'.sa.st) rfl ?_
          refine ⟨L v, rfl, wL, .inl (.of hLv), ?_⟩
          by_cases h30 : (wL.length : Int) < 30
          · rw [if_pos h30]
            refine r_ixL (.of wv'.sa.st) rfl ?_
            refine ⟨p, L v, _, ls v, wL, rfl, hpe, by omega, n2, hLv, dLv, lfv, by omega, fun ms q us Hf hq fq dq okm lm hpf ef => ?_⟩
            try dsimp only
            have tf := te.box hpe ef rb.pe
            have wf := tf.w v hv
            have okmL : ∀ x ∈ ms, LOk x := fun x hx => (okm x hx).ok
            have frE : ∀ y, Hf y = none → He y = none := fun y hy => by
              cases z : He y with
              | none => rfl
              | some o =>
                by_cases yp : y = p
                · obtain ⟨_, _, _, _, hbx, _⟩ := hpf
                  rw [yp, hbx] at hy
                  cases hy
                · rw [ef _ _ yp z] at hy
                  cases hy
            obtain ⟨wl, hlv, dlv⟩ := wf.lg.it
            obtain ⟨_, _, _, _, hbxf, _⟩ := id hpf
            have fl1 := fileL_len okv
            have fl2 := fileL_len okmL
            refine r_ixL (.of tf.c) gC ?_
            have post : ∀ (a L4 : Addr) (Hg Hh : Hp), Same Hf Hg → He a = none → a ≠ p → Hg L4 = none → Whole T.C_Log T.C_Disk Hh (d v) (g v) (l v) (st v) L4 (ls v ++ ms) → (∀ b o, b ≠ d v → b ≠ l v → b ≠ st v → b ≠ a → Hg b = some o → Hh b = some o) →
                MidT [some (.ref p), some (.ref A'), some (.ref B'), some (.str u), some (.ref C), some (.ref E), some (.int (0 + i)), some (.int v), some (.int kd), some (.int tr), some (.ref (d v)), some (.ref (st v)), some (.ref q), y13] Hh := by
              intro a L4 Hg Hh Sg ha nap hL4 wh xh
              have e : ∀ b o, b ≠ p → b ≠ d v → b ≠ l v → b ≠ st v → b ≠ C → b ≠ E → He b = some o → Hh b = some o := fun b o np nd nl ns _ _ hb => xh b o nd nl ns (ne_of_none hb ha) (Sg _ _ (ef _ _ np hb))
              have hc : Hh C = some (.lst [.ref (g 0), .ref (g 1)]) := xh _ _ nCd (Ne.symm rC) (Ne.symm rsC) (ne_of_none te.c ha) (Sg _ _ tf.c)
              have hE2 : Hh E = some (.lst (xs.map V.ref)) := xh _ _ nEd (Ne.symm rE) (Ne.symm rsE) (ne_of_none hEe ha) (Sg _ _ (ef _ _ rb.pe hEe))
              refine ⟨fu g v (g v), fu l v (l v), fu L v L4, fu ls v (ls v ++ ms), _, _, _, _, _, _, _, _, rfl, mid Hh (g v) (l v) L4 (ls v ++ ms) xs e (by rw [eqg, eqg]; exact hc) hE2 (by omega) (fun x hx => Ent.step te hpe hv e (.inl rfl) (hxe x hx)) wh ?_ ?_ (.inl rfl) (.inr (frE _ (Sg.free hL4))) (ne_of_none' hL4 (Sg _ _ hlv)).symm ?_⟩
              · intro x hx
                exact (List.mem_append.mp hx).elim (lfv x) (okm x)
              · rw [file_app, List.length_append]
                omega
              · obtain ⟨a', b', c', dd, hb, r⟩ := hpf.le (M := 300 + 600 * (i + 1)) (by omega)
                exact ⟨a', b', c', dd, xh _ _ (Ne.symm n4) (Ne.symm n3) (Ne.symm n1) (Ne.symm nap) (Sg _ _ hb), r⟩
            have nqp : q ≠ p := box_ne hpe hq
            have nql : q ≠ l v := by
              obtain ⟨wl, hl, _⟩ := wv'.lg.it
              exact ne_of_none' hq hl
            split
            · refine ⟨d v, g v, l v, st v, L v, q, tr, ls v, ms, us, rfl, wf, ndl, nlL, .inl fq, dq, okmL, okv, by omega, by omega, ne_of_none' hq wv'.sa.st, ne_of_none' hq hLv, nql, fun L4 Hh hL4 wh xh => ⟨_, rfl, ?_⟩⟩
              rw [if_neg (by decide)]
              exact post q L4 Hf Hh (Same.refl Hf) hq nqp hL4 wh xh
            · refine ⟨q, rfl, us, .inl ⟨.of fq, fun tq htq => ?_⟩⟩
              obtain ⟨Hg, eg, Sg, fg⟩ := gen_new (.tup us) htq
              rw [eg]
              have htE := frE _ htq
              refine ⟨d v, g v, l v, st v, L v, tq, tr, ls v, ms, us, rfl, wf.mono Sg, ndl, nlL, .inr fg, dq.mono Sg, okmL, okv, by omega, by omega, ne_of_none' htE wv'.sa.st, ne_of_none' htE hLv, (by obtain ⟨wl, hl, _⟩ := wv'.lg.it; exact ne_of_none' htE hl), fun L4 Hh hL4 wh xh => ⟨_, rfl, ?_⟩⟩
              rw [if_neg (by decide)]
              exact post tq L4 Hg Hh Sg htE (box_ne hpe htE) hL4 wh xh
          · rw [if_neg h30]
            by_cases hk5 : kd < 5
            · rw [if_pos hk5]
              refine r_ixL (.of te.c) gC ?_
              refine r_ixL (.of wv'.sa.st) rfl ?_
              refine ⟨p, L v, _, ls v, wL, rfl, hpe, by omega, n2, hLv, dLv, lfv, by omega, fun ov od Hf hov hBo its gi hpf ef => ?_⟩
              try dsimp only
              have tf := te.box hpe ef rb.pe
              have wf := tf.w v hv
              have nvl : ov ≠ .ref (l v) := by
                obtain ⟨wl, hl, _⟩ := wv'.lg.it
                obtain ⟨wl2, hl2, _⟩ := wf.lg.it
                exact hov.ne hl hl2
              refine ⟨He, d v, g v, l v, st v, L v, ls v, ov, od, tr, rfl, wf, ndl, nvl, by omega, hov, hBo, its, gi, fun Hh xh => ⟨_, rfl, ?_⟩⟩
              rw [if_neg (by decide)]
              have e1 : ∀ b o, b ≠ p → He b = some o → Hh b = some o := fun b o np hb => xh b o (fun eL => hov.apart eL hb) (ef _ _ np hb)
              have e : ∀ b o, b ≠ p → b ≠ d v → b ≠ l v → b ≠ st v → b ≠ C → b ≠ E → He b = some o → Hh b = some o := fun b o np _ _ _ _ _ hb => e1 b o np hb
              have wh : Whole T.C_Log T.C_Disk Hh (d v) (g v) (l v) (st v) (L v) (ls v) := wv'.box hpe e1
              refine ⟨fu g v (g v), fu l v (l v), fu L v (L v), fu ls v (ls v), _, _, _, _, _, _, _, _, rfl, mid Hh (g v) (l v) (L v) (ls v) xs e (by rw [eqg, eqg]; exact e1 _ _ nCp te.c) (e1 _ _ rb.pe hEe) (by omega) (fun x hx => Ent.step te hpe hv e (.inl rfl) (hxe x hx)) wh lfv (by omega) (.inl rfl) (.inl rfl) nlL ?_⟩
              obtain ⟨a', b', c', dd, hb, r⟩ := hpf.le (M := 300 + 600 * (i + 1)) (by omega)
              exact ⟨a', b', c', dd, xh _ _ (fun eL => by
                obtain ⟨_, _, _, _, hbx, _⟩ := hpe
                exact hov.apart eL hbx) hb, r⟩
            · rw [if_neg hk5]
              refine ⟨.inl ⟨rfl, _, .of hEe⟩, ?_⟩
              refine r_ixL (.of te.c) gC ?_
              refine r_ixL (.of wv'.sa.st) rfl ?_
              refine ⟨L v, rfl, wL, .inl ⟨.of hLv, fun tt htt => ?_⟩⟩
              obtain ⟨Hf, ef, Sf, ft⟩ := gen_new (.tup wL) htt
              rw [ef]
              refine ⟨by decide, fun x0 hx0 nx0 => ?_⟩
              obtain ⟨Hg, eg, Sg, fx0⟩ := gen_new (.lst [V.ref (g v), V.ref tt]) hx0
              rw [eg]
              have Seg := Sf.trans Sg
              have x0e : He x0 = none := Sf.free hx0
              refine ⟨E, xs.map V.ref, _, rfl, rfl, Seg _ _ hEe, by rw [List.length_map]; omega, ?_⟩
              obtain ⟨Hh, eh⟩ : ∃ Hh, upd Hg E (.lst (xs.map V.ref ++ [V.ref x0])) = Hh := ⟨_, rfl⟩
              rw [eh]
              have kh : ∀ b o, b ≠ E → Hg b = some o → Hh b = some o := fun b o nb hb => by rw [← eh, upd_ne nb]; exact hb
              have fEh : Hh E = some (.lst (xs.map V.ref ++ [V.ref x0])) := by rw [← eh]; exact upd_same
              have keh : ∀ b o, b ≠ E → He b = some o → Hh b = some o := fun b o nb hb => kh _ _ nb (Seg _ _ hb)
              obtain ⟨gxv, hgv⟩ := wv'.lg.ob
              obtain ⟨wl, hlv, dlv⟩ := wv'.lg.it
              have tupE : ∀ b, b = E → ∀ ys, He b ≠ some (.tup ys) := by
                rintro b rfl ys z
                rw [hEe] at z
                cases z
              have wh : Whole T.C_Log T.C_Disk Hh (d v) (g v) (l v) (st v) (L v) (ls v) :=
                wv'.keep (C := fun b => b = E) tupE keh (Ne.symm nEd) (fun z => ins_lst hgv hEe z) rE rsE rLE
              have bh : BoxAt Hh p (300 + 600 * i + 1 + 1 + 1) := by
                obtain ⟨a', b', c', dd, hb, r⟩ := hpe
                exact ⟨a', b', c', dd, keh _ _ (Ne.symm rb.pe) hb, r⟩
              refine ⟨p, d v, g v, l v, st v, L v, _, ls v, tr, rfl, bh, by omega, wh, n1, n2, lfv, by omega, fun g' l' L' ls' Hi hg' hl' hL' nlL' wi lfi szi bi xi => ?_⟩
              have frh : ∀ y, Hh y = none → He y = none := fun y hy => by
                cases z : He y with
                | none => rfl
                | some o =>
                  by_cases yE : y = E
                  · rw [yE, fEh] at hy
                    cases hy
                  · rw [keh _ _ yE z] at hy
                    cases hy
              have fCi : Hi C = some (.lst [V.ref (g 0), V.ref (g 1)]) := xi _ _ nCp nCd (Ne.symm rsC) (keh _ _ te.ae.2.2.1 te.c)
              try dsimp only
              refine r_setL (j := v) fCi (setIx (by show v < 2; exact hv)) ?_
              obtain ⟨Hj, ej⟩ : ∃ Hj, upd Hi C (.lst ([V.ref (g 0), V.ref (g 1)].set v (V.ref g'))) = Hj := ⟨_, rfl⟩
              have kj : ∀ b o, b ≠ C → Hi b = some o → Hj b = some o := fun b o nb hb => by rw [← ej, upd_ne nb]; exact hb
              have fCj : Hj C = some (.lst [V.ref (fu g v g' 0), V.ref (fu g v g' 1)]) := by
                rw [← ej, upd_same]
                have : v = 0 ∨ v = 1 := by omega
                rcases this with rfl | rfl <;> rfl
              rw [ej]
              have nx0C : x0 ≠ C := ne_of_none' x0e te.c
              have nx0E : x0 ≠ E := ne_of_none' x0e hEe
              have nx0p : x0 ≠ p := box_ne hpe x0e
              have nx0d : x0 ≠ d v := ne_of_none' x0e hdv
              have nx0s : x0 ≠ st v := ne_of_none' x0e wv'.sa.st
              have fEj : Hj E = some (.lst (xs.map V.ref ++ [V.ref x0])) := kj _ _ (Ne.symm te.ae.2.2.1) (xi _ _ rb.pe nEd (Ne.symm rsE) fEh)
              have fxj : Hj x0 = some (.lst [V.ref (g v), V.ref tt]) := kj _ _ nx0C (xi _ _ nx0p nx0d nx0s (kh _ _ nx0E fx0))
              have kej : ∀ b o, b ≠ p → b ≠ d v → b ≠ st v → b ≠ C → b ≠ E → He b = some o → Hj b = some o := fun b o np nd ns nC nE hb => kj _ _ nC (xi _ _ np nd ns (keh _ _ nE hb))
              have tup4 : ∀ b, (b = p ∨ b = d v ∨ b = st v ∨ b = C ∨ b = E) → ∀ ys, He b ≠ some (.tup ys) := by
                rintro b (rfl | rfl | rfl | rfl | rfl) ys z
                · obtain ⟨_, _, _, _, hbx, _⟩ := hpe
                  rw [hbx] at z
                  cases z
                · rw [hdv] at z
                  cases z
                · rw [wv'.sa.st] at z
                  cases z
                · rw [te.c] at z
                  cases z
                · rw [hEe] at z
                  cases z
              have kej' : ∀ b o, ¬ (b = p ∨ b = d v ∨ b = st v ∨ b = C ∨ b = E) → He b = some o → Hj b = some o := fun b o nb hb => kej b o (fun z => nb (.inl z)) (fun z => nb (.inr (.inl z))) (fun z => nb (.inr (.inr (.inl z)))) (fun z => nb (.inr (.inr (.inr (.inl z))))) (fun z => nb (.inr (.inr (.inr (.inr z))))) hb
              have lgj : LogAt T.C_Log Hj (g v) (d v) (l v) (ls v) :=
                ⟨⟨gxv, kej _ _ n5 v5 (Ne.symm v4) (fun z => ins_lst hgv te.c z) (fun z => ins_lst hgv hEe z) hgv⟩, ⟨wl, kej _ _ n3 v6 (Ne.symm v1) rC rE hlv, dls_gen tup4 kej' dlv⟩, wv'.lg.nm⟩
              have dkj : DiskAt T.C_Disk Hj (d v) (tx (fileL ls')) ((tx (fileL ls')).length : Int) := by
                obtain ⟨dy, hy⟩ := wi.dk
                exact ⟨dy, kj _ _ (Ne.symm nCd) hy⟩
              obtain ⟨dj, hdj⟩ := dkj
              refine r_ixL (.of fEj) (atI_last _ _) ?_
              refine r_ixL (.of fxj) rfl ?_
              refine r_disk T lgj ?_
              refine r_prp hdj ⟨d v, _, _, rfl, ⟨dj, hdj⟩, ?_⟩
              refine r_prp hdj ⟨d v, _, _, rfl, ⟨dj, hdj⟩, ?_⟩
              refine ⟨by simp [scal], ?_⟩
              rw [if_neg (by simp)]
              have e : ∀ b o, b ≠ p → b ≠ d v → b ≠ l v → b ≠ st v → b ≠ C → b ≠ E → He b = some o → Hj b = some o := fun b o np nd _ ns nC nE hb => kej b o np nd ns nC nE hb
              have hle := frh _ hl'
              obtain ⟨dzi, hdzi⟩ := wi.dk
              obtain ⟨gzi, hgzi⟩ := wi.lg.ob
              have wj : Whole T.C_Log T.C_Disk Hj (d v) g' l' (st v) L' ls' := by
                refine wi.keep (C := fun b => b = C) ?_ kj (Ne.symm nCd) (fun z => ins_lst hgzi fCi z) (ne_of_none' hle te.c) rsC (ne_of_none' (frh _ hL') te.c)
                rintro b rfl ys z
                rw [fCi] at z
                cases z
              refine ⟨fu g v g', fu l v l', fu L v L', fu ls v ls', _, _, _, _, _, _, _, _, rfl, mid Hj g' l' L' ls' (xs ++ [x0]) e fCj (by rw [List.map_append]; exact fEj) (by rw [List.length_append, List.length_singleton]; omega) ?_ wj lfi (by omega) (.inr hle) (.inr (frh _ hL')) nlL' ?_⟩
              · intro x hx
                rcases List.mem_append.mp hx with hx | hx
                · exact Ent.step te hpe hv e (.inr hle) (hxe x hx)
                · have : x = x0 := by simpa using hx
                  subst this
                  have ftj : Hj tt = some (.tup wL) := by
                    have nt : ∀ a o, He a = some o → tt ≠ a := fun a o ha => ne_of_none' htt ha
                    exact kj _ _ (nt _ _ te.c) (xi _ _ (box_ne hpe htt) (nt _ _ hdv) (nt _ _ wv'.sa.st) (kh _ _ (nt _ _ hEe) (Sg _ _ ft)))
                  refine ⟨g v, l v, d v, tt, ls v, ⟨fxj, ⟨wL, ftj, dls_gen tup4 kej' dLv⟩, lgj, okv, by omega⟩, nx0p, nx0C, nx0E, n3, rC, rE, fun j hj => ?_⟩
                  have wjj := te.w j hj
                  obtain ⟨wlj, hlj, _⟩ := wjj.lg.it
                  refine ⟨ne_of_none' x0e wjj.sa.st, ?_, lines_st hlv dlv wjj.sa.st, ?_, (log_disk wv'.lg wjj.dk).1⟩
                  · by_cases z : j = v
                    · rw [z, fu_same]
                      exact (ne_of_none' hl' (kh _ _ nx0E fx0)).symm
                    · rw [fu_ne z]
                      exact ne_of_none' x0e hlj
                  · by_cases z : j = v
                    · rw [z, fu_same]
                      exact (ne_of_none' hle hlv).symm
                    · rw [fu_ne z]
                      exact (te.other hpe hv hj (Ne.symm z)).2.2
              · obtain ⟨a', b', c', dd, hb, r⟩ := bi.le (M := 300 + 600 * (i + 1)) (by omega)
                exact ⟨a', b', c', dd, kj _ _ (Ne.symm nCp) hb, r⟩
        · rw [if_neg hk3]
          by_cases hk5 : kd < 5
          · rw [if_pos hk5]
            refine r_ixL (.of te.c) gC ?_
            refine r_ixL (.of wv'.sa.st) rfl ?_
            refine ⟨p, L v, _, ls v, wL, rfl, hpe, by omega, n2, hLv, dLv, lfv, by omega, fun ov od Hf hov hBo its gi hpf ef => ?_⟩
            try dsimp only
            have tf := te.box hpe ef rb.pe
            have wf := tf.w v hv
            have nvl : ov ≠ .ref (l v) := by
              obtain ⟨wl, hl, _⟩ := wv'.lg.it
              obtain ⟨wl2, hl2, _⟩ := wf.lg.it
              exact hov.ne hl hl2
            refine ⟨He, d v, g v, l v, st v, L v, ls v, ov, od, tr, rfl, wf, ndl, nvl, by omega, hov, hBo, its, gi, fun Hh xh => ⟨_, rfl, ?_⟩⟩
            rw [if_neg (by decide)]
            have e1 : ∀ b o, b ≠ p → He b = some o → Hh b = some o := fun b o np hb => xh b o (fun eL => hov.apart eL hb) (ef _ _ np hb)
            have e : ∀ b o, b ≠ p → b ≠ d v → b ≠ l v → b ≠ st v → b ≠ C → b ≠ E → He b = some o → Hh b = some o := fun b o np _ _ _ _ _ hb => e1 b o np hb
            have wh : Whole T.C_Log T.C_Disk Hh (d v) (g v) (l v) (st v) (L v) (ls v) := wv'.box hpe e1
            refine ⟨fu g v (g v), fu l v (l v), fu L v (L v), fu ls v (ls v), _, _, _, _, _, _, _, _, rfl, mid Hh (g v) (l v) (L v) (ls v) xs e (by rw [eqg, eqg]; exact e1 _ _ nCp te.c) (e1 _ _ rb.pe hEe) (by omega) (fun x hx => Ent.step te hpe hv e (.inl rfl) (hxe x hx)) wh lfv (by omega) (.inl rfl) (.inl rfl) nlL ?_⟩
            obtain ⟨a', b', c', dd, hb, r⟩ := hpf.le (M := 300 + 600 * (i + 1)) (by omega)
            exact ⟨a', b', c', dd, xh _ _ (fun eL => by
              obtain ⟨_, _, _, _, hbx, _⟩ := hpe
              exact hov.apart eL hbx) hb, r⟩
          · rw [if_neg hk5]
            refine ⟨.inl ⟨rfl, _, .of hEe⟩, ?_⟩
            refine r_ixL (.of te.c) gC ?_
            refine r_ixL (.of wv'.sa.st) rfl ?_
            refine ⟨L v, rfl, wL, .inl ⟨.of hLv, fun tt htt => ?_⟩⟩
            obtain ⟨Hf, ef, Sf, ft⟩ := gen_new (.tup wL) htt
            rw [ef]
            refine ⟨by decide, fun x0 hx0 nx0 => ?_⟩
            obtain ⟨Hg, eg, Sg, fx0⟩ := gen_new (.lst [V.ref (g v), V.ref tt]) hx0
            rw [eg]
            have Seg := Sf.trans Sg
            have x0e : He x0 = none := Sf.free hx0
            refine ⟨E, xs.map V.ref, _, rfl, rfl, Seg _ _ hEe, by rw [List.length_map]; omega, ?_⟩
            obtain ⟨Hh, eh⟩ : ∃ Hh, upd Hg E (.lst (xs.map V.ref ++ [V.ref x0])) = Hh := ⟨_, rfl⟩
            rw [eh]
            have kh : ∀ b o, b ≠ E → Hg b = some o → Hh b = some o := fun b o nb hb => by rw [← eh, upd_ne nb]; exact hb
            have fEh : Hh E = some (.lst (xs.map V.ref ++ [V.ref x0])) := by rw [← eh]; exact upd_same
            have keh : ∀ b o, b ≠ E → He b = some o → Hh b = some o := fun b o nb hb => kh _ _ nb (Seg _ _ hb)
            obtain ⟨gxv, hgv⟩ := wv'.lg.ob
            obtain ⟨wl, hlv, dlv⟩ := wv'.lg.it
            have tupE : ∀ b, b = E → ∀ ys, He b ≠ some (.tup ys) := by
              rintro b rfl ys z
              rw [hEe] at z
              cases z
            have wh : Whole T.C_Log T.C_Disk Hh (d v) (g v) (l v) (st v) (L v) (ls v) :=
              wv'.keep (C := fun b => b = E) tupE keh (Ne.symm nEd) (fun z => ins_lst hgv hEe z) rE rsE rLE
            have bh : BoxAt Hh p (300 + 600 * i + 1 + 1 + 1) := by
              obtain ⟨a', b', c', dd, hb, r⟩ := hpe
              exact ⟨a', b', c', dd, keh _ _ (Ne.symm rb.pe) hb, r⟩
            refine ⟨p, d v, g v, l v, st v, L v, _, ls v, tr, rfl, bh, by omega, wh, n1, n2, lfv, by omega, fun g' l' L' ls' Hi hg' hl' hL' nlL' wi lfi szi bi xi => ?_⟩
            have frh : ∀ y, Hh y = none → He y = none := fun y hy => by
              cases z : He y with
              | none => rfl
              | some o =>
                by_cases yE : y = E
                · rw [yE, fEh] at hy
                  cases hy
                · rw [keh _ _ yE z] at hy
                  cases hy
            have fCi : Hi C = some (.lst [V.ref (g 0), V.ref (g 1)]) := xi _ _ nCp nCd (Ne.symm rsC) (keh _ _ te.ae.2.2.1 te.c)
            try dsimp only
            refine r_setL (j := v) fCi (setIx (by show v < 2; exact hv)) ?_
            obtain ⟨Hj, ej⟩ : ∃ Hj, upd Hi C (.lst ([V.ref (g 0), V.ref (g 1)].set v (V.ref g'))) = Hj := ⟨_, rfl⟩
            have kj : ∀ b o, b ≠ C → Hi b = some o → Hj b = some o := fun b o nb hb => by rw [← ej, upd_ne nb]; exact hb
            have fCj : Hj C = some (.lst [V.ref (fu g v g' 0), V.ref (fu g v g' 1)]) := by
              rw [← ej, upd_same]
              have : v = 0 ∨ v = 1 := by omega
              rcases this with rfl | rfl <;> rfl
            rw [ej]
            have nx0C : x0 ≠ C := ne_of_none' x0e te.c
            have nx0E : x0 ≠ E := ne_of_none' x0e hEe
            have nx0p : x0 ≠ p := box_ne hpe x0e
            have nx0d : x0 ≠ d v := ne_of_none' x0e hdv
            have nx0s : x0 ≠ st v := ne_of_none' x0e wv'.sa.st
            have fEj : Hj E = some (.lst (xs.map V.ref ++ [V.ref x0])) := kj _ _ (Ne.symm te.ae.2.2.1) (xi _ _ rb.pe nEd (Ne.symm rsE) fEh)
            have fxj : Hj x0 = some (.lst [V.ref (g v), V.ref tt]) := kj _ _ nx0C (xi _ _ nx0p nx0d nx0s (kh _ _ nx0E fx0))
            have kej : ∀ b o, b ≠ p → b ≠ d v → b ≠ st v → b ≠ C → b ≠ E → He b = some o → Hj b = some o := fun b o np nd ns nC nE hb => kj _ _ nC (xi _ _ np nd ns (keh _ _ nE hb))
            have tup4 : ∀ b, (b = p ∨ b = d v ∨ b = st v ∨ b = C ∨ b = E) → ∀ ys, He b ≠ some (.tup ys) := by
              rintro b (rfl | rfl | rfl | rfl | rfl) ys z
              · obtain ⟨_, _, _, _, hbx, _⟩ := hpe
                rw [hbx] at z
                cases z
              · rw [hdv] at z
                cases z
              · rw [wv'.sa.st] at z
                cases z
              · rw [te.c] at z
                cases z
              · rw [hEe] at z
                cases z
            have kej' : ∀ b o, ¬ (b = p ∨ b = d v ∨ b = st v ∨ b = C ∨ b = E) → He b = some o → Hj b = some o := fun b o nb hb => kej b o (fun z => nb (.inl z)) (fun z => nb (.inr (.inl z))) (fun z => nb (.inr (.inr (.inl z)))) (fun z => nb (.inr (.inr (.inr (.inl z))))) (fun z => nb (.inr (.inr (.inr (.inr z))))) hb
            have lgj : LogAt T.C_Log Hj (g v) (d v) (l v) (ls v) :=
              ⟨⟨gxv, kej _ _ n5 v5 (Ne.symm v4) (fun z => ins_lst hgv te.c z) (fun z => ins_lst hgv hEe z) hgv⟩, ⟨wl, kej _ _ n3 v6 (Ne.symm v1) rC rE hlv, dls_gen tup4 kej' dlv⟩, wv'.lg.nm⟩
            have dkj : DiskAt T.C_Disk Hj (d v) (tx (fileL ls')) ((tx (fileL ls')).length : Int) := by
              obtain ⟨dy, hy⟩ := wi.dk
              exact ⟨dy, kj _ _ (Ne.symm nCd) hy⟩
            obtain ⟨dj, hdj⟩ := dkj
            refine r_ixL (.of fEj) (atI_last _ _) ?_
            refine r_ixL (.of fxj) rfl ?_
            refine r_disk T lgj ?_
            refine r_prp hdj ⟨d v, _, _, rfl, ⟨dj, hdj⟩, ?_⟩
            refine r_prp hdj ⟨d v, _, _, rfl, ⟨dj, hdj⟩, ?_⟩
            refine ⟨by simp [scal], ?_⟩
            rw [if_neg (by simp)]
            have e : ∀ b o, b ≠ p → b ≠ d v → b ≠ l v → b ≠ st v → b ≠ C → b ≠ E → He b = some o → Hj b = some o := fun b o np nd _ ns nC nE hb => kej b o np nd ns nC nE hb
            have hle := frh _ hl'
            obtain ⟨dzi, hdzi⟩ := wi.dk
            obtain ⟨gzi, hgzi⟩ := wi.lg.ob
            have wj : Whole T.C_Log T.C_Disk Hj (d v) g' l' (st v) L' ls' := by
              refine wi.keep (C := fun b => b = C) ?_ kj (Ne.symm nCd) (fun z => ins_lst hgzi fCi z) (ne_of_none' hle te.c) rsC (ne_of_none' (frh _ hL') te.c)
              rintro b rfl ys z
              rw [fCi] at z
              cases z
            refine ⟨fu g v g', fu l v l', fu L v L', fu ls v ls', _, _, _, _, _, _, _, _, rfl, mid Hj g' l' L' ls' (xs ++ [x0]) e fCj (by rw [List.map_append]; exact fEj) (by rw [List.length_append, List.length_singleton]; omega) ?_ wj lfi (by omega) (.inr hle) (.inr (frh _ hL')) nlL' ?_⟩
            · intro x hx
              rcases List.mem_append.mp hx with hx | hx
              · exact Ent.step te hpe hv e (.inr hle) (hxe x hx)
              · have : x = x0 := by simpa using hx
                subst this
                have ftj : Hj tt = some (.tup wL) := by
                  have nt : ∀ a o, He a = some o → tt ≠ a := fun a o ha => ne_of_none' htt ha
                  exact kj _ _ (nt _ _ te.c) (xi _ _ (box_ne hpe htt) (nt _ _ hdv) (nt _ _ wv'.sa.st) (kh _ _ (nt _ _ hEe) (Sg _ _ ft)))
                refine ⟨g v, l v, d v, tt, ls v, ⟨fxj, ⟨wL, ftj, dls_gen tup4 kej' dLv⟩, lgj, okv, by omega⟩, nx0p, nx0C, nx0E, n3, rC, rE, fun j hj => ?_⟩
                have wjj := te.w j hj
                obtain ⟨wlj, hlj, _⟩ := wjj.lg.it
                refine ⟨ne_of_none' x0e wjj.sa.st, ?_, lines_st hlv dlv wjj.sa.st, ?_, (log_disk wv'.lg wjj.dk).1⟩
                · by_cases z : j = v
                  · rw [z, fu_same]
                    exact (ne_of_none' hl' (kh _ _ nx0E fx0)).symm
                  · rw [fu_ne z]
                    exact ne_of_none' x0e hlj
                · by_cases z : j = v
                  · rw [z, fu_same]
                    exact (ne_of_none' hle hlv).symm
                  · rw [fu_ne z]
                    exact (te.other hpe hv hj (Ne.symm z)).2.2
            · obtain ⟨a', b', c', dd, hb, r⟩ := bi.le (M := 300 + 600 * (i + 1)) (by omega)
              exact ⟨a', b', c', dd, kj _ _ (Ne.symm nCp) hb, r⟩
      · rintro σ Hf ⟨g, l, L, ls, y6, y7, y8, y9, y10, y11, y12, y13, rfl, rf⟩
        walk_at "rd"
        have hwt : ∀ j, j < 2 → lw (ls j) + 2 * (fileL (ls j)).length ≤ 126000 := fun j hj => by
          have a := lw_file (ls := ls j) fun x hx => (rf.t.lf j hj x hx).ok
          have b := rf.t.sz j hj
          omega
        refine r_ixL (.of rf.t.a) rfl ?_
        refine r_ixL (.of rf.t.c) rfl ?_
        refine r_ixL (.of rf.t.b) rfl ?_
        refine ⟨d 0, g 0, l 0, st 0, L 0, ls 0, rfl, rf.t.w 0 (by decide), fun x hx => (rf.t.lf 0 (by decide) x hx).ok, hwt 0 (by decide), fun Hg Sg => ⟨_, rfl, ?_⟩⟩
        rw [if_neg (by decide)]
        have tg := rf.t
        refine r_ixL (.of (Sg _ _ tg.a)) rfl ?_
        refine r_ixL (.of (Sg _ _ tg.c)) rfl ?_
        refine r_ixL (.of (Sg _ _ tg.b)) rfl ?_
        refine ⟨d 1, g 1, l 1, st 1, L 1, ls 1, rfl, (tg.w 1 (by decide)).mono Sg, fun x hx => (tg.lf 1 (by decide) x hx).ok, hwt 1 (by decide), fun Hh Sh => ⟨_, rfl, ?_⟩⟩
        rw [if_neg (by decide)]
        have S2 := Sg.trans Sh
        obtain ⟨xs, q1, q2, q3⟩ := rf.e
        obtain ⟨es, qe⟩ := tg.e
        refine ⟨⟨_, rfl⟩, g, l, L, ls, ⟨⟨S2 _ _ tg.a, S2 _ _ tg.b, S2 _ _ tg.c, fun i hi => (tg.w i hi).mono S2, tg.lf, tg.sz, tg.nl, tg.ll, tg.dd, tg.ss, tg.r, tg.ae, es, S2 _ _ qe⟩, ⟨xs, S2 _ _ q1, q2, fun x hx => (q3 x hx).mono S2⟩, rf.b.mono S2, fun b o np hb => S2 _ _ (rf.x b o np hb), rf.pe, rf.f⟩⟩
    · rintro σ Hb ⟨g, l, L, ls, y6, y7, y8, y9, y10, y11, y12, y13, rfl, rb⟩
      exact ⟨u, C, E, g, l, L, ls, _, _, _, _, _, _, _, _, rfl, rb⟩
  rintro σ Hb ⟨u, C, E, g, l, L, ls, y6, y7, y8, y9, y10, y11, y12, y13, rfl, rb⟩
  refine ⟨Mid2, ?_, ?_⟩
  · refine ⟨_, rfl, by decide, by decide, ?_⟩
    have t := rb.t
    obtain ⟨_, _, _, _, hbxb, _⟩ := id rb.b
    refine for_range (fun i σ H' => ∃ (y6 y7 y8 y9 y10 y11 y12 y13 : Option V), σ = [some (.ref p), some (.ref A'), some (.ref B'), some (.str u), some (.ref C), some (.ref E), y6, y7, y8, y9, y10, y11, y12, y13] ∧
      Fin T.C_Log T.C_Disk H H' p A' B' C E d st g l L ls i (12300 + 300 * i) ∧ Ext1 p H H') ?_ ?_ ?_
    · exact ⟨_, _, _, _, _, _, _, _, rfl, ⟨t.a, t.b, t.c, fun i _ hi => t.w i hi, rb.e, rb.b⟩, rb.x⟩
    · rintro i σ H1 hi ⟨y6, y7, y8, y9, y10, y11, y12, y13, rfl, f, x1⟩
      have hi2 : i < 2 := hi
      walk_at "rd"
      have ei : (0 : Int) + (i : Int) = (i : Int) := by omega
      rw [ei]
      have wi := f.w i (Nat.le_refl i) hi2
      obtain ⟨n1, n2, n3, n4, n5⟩ := wi.np f.x
      obtain ⟨v1, v2, v3, v4, v5, v6, v7, v8, v9⟩ := wi.sl
      obtain ⟨r1, r2, r3, r4, r5, r6, r7, r8, r9, r10⟩ := t.r i hi2
      obtain ⟨dxi, hdi⟩ := wi.dk
      obtain ⟨wli, hli, dli⟩ := wi.lg.it
      obtain ⟨xs, hE, lx, hx⟩ := f.e
      obtain ⟨_, _, _, _, hbx, _⟩ := id f.x
      have szi := t.sz i hi2
      refine r_ixL (.of f.a) (at_two (f := fun i => .ref (d i)) hi2) ?_
      refine r_ixL (.of f.c) (at_two (f := fun i => .ref (g i)) hi2) ?_
      refine r_ixL (.of f.b) (at_two (f := fun i => .ref (st i)) hi2) ?_
      refine ⟨p, d i, g i, l i, st i, L i, _, ls i, (i : Int), rfl, f.x, by omega, wi, n1, n2, t.lf i hi2, by omega, Ne.symm v6, t.nl i i hi2 hi2, fun H2 x2 b2 => ⟨_, rfl, ?_⟩⟩
      rw [if_neg (by decide)]
      have AB : ∀ a x y, H1 a = some (.lst [.ref x, .ref y]) → a ≠ p := fun a x y ha q => by
        rw [q, hbx] at ha
        cases ha
      have tup : ∀ b, (b = p ∨ b = d i ∨ b = st i ∨ b = l i) → ∀ ys, H1 b ≠ some (.tup ys) := by
        rintro b (rfl | rfl | rfl | rfl) ys q
        · rw [hbx] at q; cases q
        · rw [hdi] at q; cases q
        · rw [wi.sa.st] at q; cases q
        · rw [hli] at q; cases q
      have e' : ∀ b o, ¬ (b = p ∨ b = d i ∨ b = st i ∨ b = l i) → H1 b = some o → H2 b = some o := fun b o nb hb => x2 b o (fun q => nb (.inl q)) (fun q => nb (.inr (.inl q))) (fun q => nb (.inr (.inr (.inl q)))) (fun q => nb (.inr (.inr (.inr q)))) hb
      have nEp : E ≠ p := rb.pe
      obtain ⟨fC, fE, fdl⟩ := rb.f
      obtain ⟨f1, f2, f3⟩ := fdl i hi2
      refine ⟨⟨_, rfl⟩, ⟨?_, ?_, ?_, ?_, ⟨xs, ?_, lx, ?_⟩, ?_⟩, ?_⟩
      · exact x2 _ _ (AB _ _ _ f.a) (fun q => ins_lst hdi f.a q.symm) (Ne.symm r7) (Ne.symm r1) f.a
      · exact x2 _ _ (AB _ _ _ f.b) (fun q => ins_lst hdi f.b q.symm) (Ne.symm r8) (Ne.symm r2) f.b
      · exact x2 _ _ (AB _ _ _ f.c) (fun q => ins_lst hdi f.c q.symm) (Ne.symm r9) (Ne.symm r3) f.c
      · intro j hij hj
        have wj := f.w j (by omega) hj
        obtain ⟨o1, o2, o3⟩ := t.other rb.b hj hi2 (by omega)
        obtain ⟨q1, q2, q3, q4, q5⟩ := wj.np f.x
        obtain ⟨dxj, hdj⟩ := wj.dk
        obtain ⟨gxj, hgj⟩ := wj.lg.ob
        obtain ⟨wlj, hlj, dlj⟩ := wj.lg.it
        obtain ⟨wLj, hLj, dLj⟩ := wj.sa.it
        obtain ⟨gd, ld⟩ := log_disk wj.lg wi.dk
        refine wj.keep tup e' ?_ ?_ ?_ ?_ ?_
        · rintro (z | z | z | z)
          · exact q4 z
          · exact o1 z
          · exact ins_lst hdj wi.sa.st z
          · exact ins_lst hdj hli z
        · rintro (z | z | z | z)
          · exact q5 z
          · exact gd z
          · exact ins_lst hgj wi.sa.st z
          · exact ins_lst hgj hli z
        · rintro (z | z | z | z)
          · exact q3 z
          · exact ld z
          · exact lines_st hlj dlj wi.sa.st z
          · exact o3 z
        · rintro (z | z | z | z)
          · exact q1 z
          · exact ins_lst hdi wj.sa.st z.symm
          · exact o2 z
          · exact lines_st hli dli wj.sa.st z.symm
        · rintro (z | z | z | z)
          · exact q2 z
          · exact ins_lst hdi hLj z.symm
          · exact lines_st hLj dLj wi.sa.st z
          · exact t.nl i j hi2 hj z.symm
      · exact x2 _ _ nEp (fun q => ins_lst hdi hE q.symm) (Ne.symm r10) (Ne.symm r4) hE
      · intro x hx'
        obtain ⟨gx, lx2, dx, tx', ls', el, x1', x2', x3', x4', x5', x6', x7'⟩ := hx x hx'
        obtain ⟨y1, y2, y3, y4, y5⟩ := x7' i hi2
        obtain ⟨gy, hg⟩ := el.lg.ob
        obtain ⟨wl, hl, _⟩ := el.lg.it
        refine ⟨gx, lx2, dx, tx', ls', el.keep tup e' ?_ ?_ ?_, x1', x2', x3', x4', x5', x6', x7'⟩
        · rintro (z | z | z | z)
          · exact x1' z
          · exact ins_lst hdi el.xo z.symm
          · exact y1 z
          · exact y2 z
        · rintro (z | z | z | z)
          · exact ins_lst hg hbx z
          · exact y5 z
          · exact ins_lst hg wi.sa.st z
          · exact ins_lst hg hli z
        · rintro (z | z | z | z)
          · exact x4' z
          · exact ins_lst hdi hl z.symm
          · exact y3 z
          · exact y4 z
      · exact b2.le (by omega)
      · intro b o np hb
        exact x2 _ _ np (fun q => by rw [q, f1] at hb; cases hb) (fun q => by rw [q, f2] at hb; cases hb) (fun q => by rw [q, f3] at hb; cases hb) (x1 _ _ np hb)
    · rintro σ H1 ⟨y6, y7, y8, y9, y10, y11, y12, y13, rfl, f, x1⟩
      obtain ⟨xs, hE, lx, hx⟩ := f.e
      refine ⟨u, E, xs, _, _, _, _, _, _, _, _, _, rfl, hE, lx, fun x hx' => ?_, f.x.le (by decide), x1⟩
      obtain ⟨gx, lx2, dx, tx', ls', el, _⟩ := hx x hx'
      exact ⟨gx, lx2, dx, tx', ls', el⟩
  rintro σ Hz ⟨u, E, xs, y4, y6, y7, y8, y9, y10, y11, y12, y13, rfl, hE, lx, hx, hpz, ez⟩
  walk_at "rd"
  refine ⟨_, rfl, E, rfl, ⟨_, .of hE⟩, fun D hD => ?_⟩
  refine lc_list (K := K) (a := E) (xs := xs.map V.ref) (fun j H' => H' D = some (.lst []) ∧ Same Hz H') ⟨upd_same, Same.new hD⟩ (fun j H' _ q => .of (q.2 _ _ hE)) ?_ ?_
  · rintro j x H1 hj ⟨fD, S1⟩
    rw [List.getElem?_map] at hj
    obtain ⟨y, hy, rfl⟩ := Option.map_eq_some_iff.mp hj
    obtain ⟨gx, lx2, dx, tx', ls, el⟩ := hx y (List.mem_of_getElem? hy)
    have el1 := el.keep (C := fun _ => False) (fun _ z => z.elim) (fun b o _ hb => S1 b o hb) (fun z => z) (fun z => z) (fun z => z)
    refine r_unl (.of el1.xo) rfl ?_
    walk_at "rd"
    obtain ⟨gy, hgo⟩ := el1.lg.ob
    have szl := el1.sz
    have okl := el1.ok
    have l5 := file_len5 ls
    have wl4 := lw_file okl
    refine r_prp hgo ⟨gx, dx, lx2, ls, rfl, el1.lg, by omega, fun tu ws H2 htu S2 fu2 du => ?_⟩
    have el2 := el1.lg.mono S2
    refine ⟨gx, gy, _, rfl, S2 _ _ hgo, gx, dx, lx2, ls, rfl, el2, _, rfl, by omega, by omega, ?_⟩
    refine ⟨by decide, fun q hq nq => ?_⟩
    obtain ⟨H3, e3, S3, f3⟩ := gen_new (.lst [V.ref tu, V.int (ls.length : Int)]) hq
    rw [e3]
    have b1 : -(10 ^ 120) ≤ (ls.length : Int) ∧ (ls.length : Int) ≤ 10 ^ 120 := by
      have : (100000 : Int) ≤ 10 ^ 120 := by decide
      omega
    have fx : Fx (.list [.tuple (ls.map dl), .int (ls.length : Int)]) := by
      refine Gd.fx (D := 3) (.list (.cons (.tuple (gds_lines okl)) (.cons (.int b1) .nil))) (by decide) ?_
      have w1 := w_int (i := (ls.length : Int))
      have g1 := log_le (i := (ls.length : Int)) (by omega) (by omega)
      simp only [PyData.weight, PyData.weightAll, lw] at w1 wl4 ⊢
      omega
    have rp : ∀ (r : Addr) (G : Hp) (R : VK), DV G (.ref r) (.list [.tuple (ls.map dl), .int (ls.length : Int)]) → R (.str (PyData.list [.tuple (ls.map dl), .int (ls.length : Int)]).shown) G → rReprA [.ref r] G R := fun r G R hd hq =>
      ⟨_, _, rfl, hd, fx.h, Nat.le_trans fx.p (by decide), fx.l, (fun i e => by cases e), hq⟩
    refine rp q H3 _ (.lst f3 nq (.cons (.tup (S3 _ _ fu2) (du.mono S3)) (.cons (.int _) .nil))) ?_
    obtain ⟨wt2, htt, dtt⟩ := el1.tt
    have lwt := dtt.len
    rw [List.length_map] at lwt
    have S13 := S2.trans S3
    refine ⟨wt2, .inr (.of (S13 _ _ htt)), by decide, fun q2 hq2 nq2 => ?_⟩
    obtain ⟨H4, e4, S4, f4⟩ := gen_new (.lst [V.ref tx', V.int (wt2.length : Int)]) hq2
    rw [e4]
    refine rp q2 H4 _ (.lst f4 nq2 (.cons (.tup (S4 _ _ (S13 _ _ htt)) ((dtt.mono S13).mono S4)) (.cons ?_ .nil))) ?_
    · rw [lwt]
      exact .int _
    refine ⟨by simp [scal], ?_⟩
    rw [if_neg (by simp)]
    exact ⟨S4 _ _ (S13 _ _ fD), S1.trans (S13.trans S4)⟩
  · rintro H1 ⟨fD, S1⟩
    refine ⟨by decide, fun q hq nq => ?_⟩
    refine r_eqS (d := .list []) (.lst (.of (Same.new hq _ _ fD)) .nil) (.lst (.of upd_same) .nil) rfl (by decide) ?_
    exact k _ (ez.trans fun b o _ hb => Same.new hq _ _ (S1 _ _ hb)) ((hpz.mono S1).mono (Same.new hq))
theorem ok_law (T : Tx K mg) : FnG P w K mg base 11 T.d_law.f T.d_law.fd ["script"] (spLaw K) := ok_law_of T fun T => ok_l_right T
end
end K06

namespace K06
open PySem PySem.W PyProof.Rows L2 Nv
theorem all_mk {P : Program} {w : World} {K : PySem.W.Frag} {h : Heap} {mg : Str → Option Value} {fa : Addr} (X : K.In h) (G : h.Ns mainGlobals mg) (hfa : mg "law" = some (.ref fa))
    {C_InvalidLine : Addr} {C_InvalidText : Addr} {C_InvalidSigns : Addr} {C_InvalidCount : Addr} {C_InvalidLines : Addr} {C_UnsaidError : Addr} {oc_x_InvalidLine : Value} {kV_x_InvalidLine : Value} {dc_x_InvalidLine : Value} {pm_x_InvalidLine : Value} {cd_x_InvalidLine : Value} {ct_x_InvalidLine : Value} {od_x_InvalidLine an_x_InvalidLine : Option Addr} {sl_x_InvalidLine : Array (Option Value)} {f_x_InvalidLine : Addr} {oc_x_InvalidText : Value} {kV_x_InvalidText : Value} {dc_x_InvalidText : Value} {pm_x_InvalidText : Value} {cd_x_InvalidText : Value} {ct_x_InvalidText : Value} {od_x_InvalidText an_x_InvalidText : Option Addr} {sl_x_InvalidText : Array (Option Value)} {f_x_InvalidText : Addr} {oc_x_InvalidSigns : Value} {kV_x_InvalidSigns : Value} {dc_x_InvalidSigns : Value} {pm_x_InvalidSigns : Value} {cd_x_InvalidSigns : Value} {ct_x_InvalidSigns : Value} {od_x_InvalidSigns an_x_InvalidSigns : Option Addr} {sl_x_InvalidSigns : Array (Option Value)} {f_x_InvalidSigns : Addr} {oc_x_InvalidCount : Value} {kV_x_InvalidCount : Value} {dc_x_InvalidCount : Value} {pm_x_InvalidCount : Value} {cd_x_InvalidCount : Value} {ct_x_InvalidCount : Value} {od_x_InvalidCount an_x_InvalidCount : Option Addr} {sl_x_InvalidCount : Array (Option Value)} {f_x_InvalidCount : Addr} {oc_x_InvalidLines : Value} {kV_x_InvalidLines : Value} {dc_x_InvalidLines : Value} {pm_x_InvalidLines : Value} {cd_x_InvalidLines : Value} {ct_x_InvalidLines : Value} {od_x_InvalidLines an_x_InvalidLines : Option Addr} {sl_x_InvalidLines : Array (Option Value)} {f_x_InvalidLines : Addr} {nm_e_InvalidLine q_e_InvalidLine : Str} {N_e_InvalidLine : Addr} {bs_e_InvalidLine bm_e_InvalidLine sub_e_InvalidLine : List Value} {sn_e_InvalidLine : List Str} {ab_e_InvalidLine : Bool} {col_e_InvalidLine : Option Bool} {dd_e_InvalidLine : Option Addr} {k0_e_InvalidLine k1_e_InvalidLine k2_e_InvalidLine k3_e_InvalidLine k5_e_InvalidLine : Option Value} {nm_e_InvalidText q_e_InvalidText : Str} {N_e_InvalidText : Addr} {bs_e_InvalidText bm_e_InvalidText sub_e_InvalidText : List Value} {sn_e_InvalidText : List Str} {ab_e_InvalidText : Bool} {col_e_InvalidText : Option Bool} {dd_e_InvalidText : Option Addr} {k0_e_InvalidText k1_e_InvalidText k2_e_InvalidText k3_e_InvalidText k5_e_InvalidText : Option Value} {nm_e_InvalidSigns q_e_InvalidSigns : Str} {N_e_InvalidSigns : Addr} {bs_e_InvalidSigns bm_e_InvalidSigns sub_e_InvalidSigns : List Value} {sn_e_InvalidSigns : List Str} {ab_e_InvalidSigns : Bool} {col_e_InvalidSigns : Option Bool} {dd_e_InvalidSigns : Option Addr} {k0_e_InvalidSigns k1_e_InvalidSigns k2_e_InvalidSigns k3_e_InvalidSigns k5_e_InvalidSigns : Option Value} {nm_e_InvalidCount q_e_InvalidCount : Str} {N_e_InvalidCount : Addr} {bs_e_InvalidCount bm_e_InvalidCount sub_e_InvalidCount : List Value} {sn_e_InvalidCount : List Str} {ab_e_InvalidCount : Bool} {col_e_InvalidCount : Option Bool} {dd_e_InvalidCount : Option Addr} {k0_e_InvalidCount k1_e_InvalidCount k2_e_InvalidCount k3_e_InvalidCount k5_e_InvalidCount : Option Value} {nm_e_InvalidLines q_e_InvalidLines : Str} {N_e_InvalidLines : Addr} {bs_e_InvalidLines bm_e_InvalidLines sub_e_InvalidLines : List Value} {sn_e_InvalidLines : List Str} {ab_e_InvalidLines : Bool} {col_e_InvalidLines : Option Bool} {dd_e_InvalidLines : Option Addr} {k0_e_InvalidLines k1_e_InvalidLines k2_e_InvalidLines k3_e_InvalidLines k5_e_InvalidLines : Option Value} {t_MOST_LETTERS : Tok} {t_MOST_SIGNS_texts : Tok} {t_FIGURES : Tok} {t_MOST_SIGNS_frames : Tok} {t_END : Tok} {C_Log : Addr} {C_Disk : Addr} {p_p_text : Addr} {re_p_text : List Value} {oc_p_text : Value} {kV_p_text : Value} {dc_p_text : Value} {pm_p_text : Value} {cd_p_text : Value} {ct_p_text : Value} {od_p_text an_p_text : Option Addr} {sl_p_text : Array (Option Value)} {f_p_text : Addr} {p_p_synced : Addr} {re_p_synced : List Value} {oc_p_synced : Value} {kV_p_synced : Value} {dc_p_synced : Value} {pm_p_synced : Value} {cd_p_synced : Value} {ct_p_synced : Value} {od_p_synced an_p_synced : Option Addr} {sl_p_synced : Array (Option Value)} {f_p_synced : Addr} {p_p_lines : Addr} {re_p_lines : List Value} {oc_p_lines : Value} {kV_p_lines : Value} {dc_p_lines : Value} {pm_p_lines : Value} {cd_p_lines : Value} {ct_p_lines : Value} {od_p_lines an_p_lines : Option Addr} {sl_p_lines : Array (Option Value)} {f_p_lines : Addr} {oc_d_is_int : Value} {kV_d_is_int : Value} {dc_d_is_int : Value} {pm_d_is_int : Value} {cd_d_is_int : Value} {ct_d_is_int : Value} {od_d_is_int an_d_is_int : Option Addr} {sl_d_is_int : Array (Option Value)} {f_d_is_int : Addr} {oc_d_is_count : Value} {kV_d_is_count : Value} {dc_d_is_count : Value} {pm_d_is_count : Value} {cd_d_is_count : Value} {ct_d_is_count : Value} {od_d_is_count an_d_is_count : Option Addr} {sl_d_is_count : Array (Option Value)} {f_d_is_count : Addr} {oc_d_is_list : Value} {kV_d_is_list : Value} {dc_d_is_list : Value} {pm_d_is_list : Value} {cd_d_is_list : Value} {ct_d_is_list : Value} {od_d_is_list an_d_is_list : Option Addr} {sl_d_is_list : Array (Option Value)} {f_d_is_list : Addr} {oc_d_is_signs : Value} {kV_d_is_signs : Value} {dc_d_is_signs : Value} {pm_d_is_signs : Value} {cd_d_is_signs : Value} {ct_d_is_signs : Value} {od_d_is_signs an_d_is_signs : Option Addr} {sl_d_is_signs : Array (Option Value)} {f_d_is_signs : Addr} {oc_d_is_numeral : Value} {kV_d_is_numeral : Value} {dc_d_is_numeral : Value} {pm_d_is_numeral : Value} {cd_d_is_numeral : Value} {ct_d_is_numeral : Value} {od_d_is_numeral an_d_is_numeral : Option Addr} {sl_d_is_numeral : Array (Option Value)} {f_d_is_numeral : Addr} {oc_d_is_cell : Value} {kV_d_is_cell : Value} {dc_d_is_cell : Value} {pm_d_is_cell : Value} {cd_d_is_cell : Value} {ct_d_is_cell : Value} {od_d_is_cell an_d_is_cell : Option Addr} {sl_d_is_cell : Array (Option Value)} {f_d_is_cell : Addr} {oc_d_is_text : Value} {kV_d_is_text : Value} {dc_d_is_text : Value} {pm_d_is_text : Value} {cd_d_is_text : Value} {ct_d_is_text : Value} {od_d_is_text an_d_is_text : Option Addr} {sl_d_is_text : Array (Option Value)} {f_d_is_text : Addr} {oc_d_is_line : Value} {kV_d_is_line : Value} {dc_d_is_line : Value} {pm_d_is_line : Value} {cd_d_is_line : Value} {ct_d_is_line : Value} {od_d_is_line an_d_is_line : Option Addr} {sl_d_is_line : Array (Option Value)} {f_d_is_line : Addr} {oc_d_line_text : Value} {kV_d_line_text : Value} {dc_d_line_text : Value} {pm_d_line_text : Value} {cd_d_line_text : Value} {ct_d_line_text : Value} {od_d_line_text an_d_line_text : Option Addr} {sl_d_line_text : Array (Option Value)} {f_d_line_text : Addr} {oc_d_line_in : Value} {kV_d_line_in : Value} {dc_d_line_in : Value} {pm_d_line_in : Value} {cd_d_line_in : Value} {ct_d_line_in : Value} {od_d_line_in an_d_line_in : Option Addr} {sl_d_line_in : Array (Option Value)} {f_d_line_in : Addr} {oc_d_are_lines : Value} {kV_d_are_lines : Value} {dc_d_are_lines : Value} {pm_d_are_lines : Value} {cd_d_are_lines : Value} {ct_d_are_lines : Value} {od_d_are_lines an_d_are_lines : Option Addr} {sl_d_are_lines : Array (Option Value)} {f_d_are_lines : Addr} {oc_d_framed : Value} {kV_d_framed : Value} {dc_d_framed : Value} {pm_d_framed : Value} {cd_d_framed : Value} {ct_d_framed : Value} {od_d_framed an_d_framed : Option Addr} {sl_d_framed : Array (Option Value)} {f_d_framed : Addr} {oc_d_frames_in : Value} {kV_d_frames_in : Value} {dc_d_frames_in : Value} {pm_d_frames_in : Value} {cd_d_frames_in : Value} {ct_d_frames_in : Value} {od_d_frames_in an_d_frames_in : Option Addr} {sl_d_frames_in : Array (Option Value)} {f_d_frames_in : Addr} {oc_d_frame_end : Value} {kV_d_frame_end : Value} {dc_d_frame_end : Value} {pm_d_frame_end : Value} {cd_d_frame_end : Value} {ct_d_frame_end : Value} {od_d_frame_end an_d_frame_end : Option Addr} {sl_d_frame_end : Array (Option Value)} {f_d_frame_end : Addr} {oc_d_Log_init : Value} {kV_d_Log_init : Value} {dc_d_Log_init : Value} {pm_d_Log_init : Value} {cd_d_Log_init : Value} {ct_d_Log_init : Value} {od_d_Log_init an_d_Log_init : Option Addr} {sl_d_Log_init : Array (Option Value)} {f_d_Log_init : Addr} {oc_d_Log___len__ : Value} {kV_d_Log___len__ : Value} {dc_d_Log___len__ : Value} {pm_d_Log___len__ : Value} {cd_d_Log___len__ : Value} {ct_d_Log___len__ : Value} {od_d_Log___len__ an_d_Log___len__ : Option Addr} {sl_d_Log___len__ : Array (Option Value)} {f_d_Log___len__ : Addr} {oc_d_Log_put : Value} {kV_d_Log_put : Value} {dc_d_Log_put : Value} {pm_d_Log_put : Value} {cd_d_Log_put : Value} {ct_d_Log_put : Value} {od_d_Log_put an_d_Log_put : Option Addr} {sl_d_Log_put : Array (Option Value)} {f_d_Log_put : Addr} {oc_d_lines_on : Value} {kV_d_lines_on : Value} {dc_d_lines_on : Value} {pm_d_lines_on : Value} {cd_d_lines_on : Value} {ct_d_lines_on : Value} {od_d_lines_on an_d_lines_on : Option Addr} {sl_d_lines_on : Array (Option Value)} {f_d_lines_on : Addr} {oc_d_frames_of : Value} {kV_d_frames_of : Value} {dc_d_frames_of : Value} {pm_d_frames_of : Value} {cd_d_frames_of : Value} {ct_d_frames_of : Value} {od_d_frames_of an_d_frames_of : Option Addr} {sl_d_frames_of : Array (Option Value)} {f_d_frames_of : Addr} {oc_d_Disk_init : Value} {kV_d_Disk_init : Value} {dc_d_Disk_init : Value} {pm_d_Disk_init : Value} {cd_d_Disk_init : Value} {ct_d_Disk_init : Value} {od_d_Disk_init an_d_Disk_init : Option Addr} {sl_d_Disk_init : Array (Option Value)} {f_d_Disk_init : Addr} {oc_d_Disk_put : Value} {kV_d_Disk_put : Value} {dc_d_Disk_put : Value} {pm_d_Disk_put : Value} {cd_d_Disk_put : Value} {ct_d_Disk_put : Value} {od_d_Disk_put an_d_Disk_put : Option Addr} {sl_d_Disk_put : Array (Option Value)} {f_d_Disk_put : Addr} {oc_d_Disk_sync : Value} {kV_d_Disk_sync : Value} {dc_d_Disk_sync : Value} {pm_d_Disk_sync : Value} {cd_d_Disk_sync : Value} {ct_d_Disk_sync : Value} {od_d_Disk_sync an_d_Disk_sync : Option Addr} {sl_d_Disk_sync : Array (Option Value)} {f_d_Disk_sync : Addr} {oc_d_Disk_trim : Value} {kV_d_Disk_trim : Value} {dc_d_Disk_trim : Value} {pm_d_Disk_trim : Value} {cd_d_Disk_trim : Value} {ct_d_Disk_trim : Value} {od_d_Disk_trim an_d_Disk_trim : Option Addr} {sl_d_Disk_trim : Array (Option Value)} {f_d_Disk_trim : Addr} {oc_d_Disk_fall : Value} {kV_d_Disk_fall : Value} {dc_d_Disk_fall : Value} {pm_d_Disk_fall : Value} {cd_d_Disk_fall : Value} {ct_d_Disk_fall : Value} {od_d_Disk_fall an_d_Disk_fall : Option Addr} {sl_d_Disk_fall : Array (Option Value)} {f_d_Disk_fall : Addr} {oc_d_Disk_lose : Value} {kV_d_Disk_lose : Value} {dc_d_Disk_lose : Value} {pm_d_Disk_lose : Value} {cd_d_Disk_lose : Value} {ct_d_Disk_lose : Value} {od_d_Disk_lose an_d_Disk_lose : Option Addr} {sl_d_Disk_lose : Array (Option Value)} {f_d_Disk_lose : Addr} {oc_d_Disk__leave : Value} {kV_d_Disk__leave : Value} {dc_d_Disk__leave : Value} {pm_d_Disk__leave : Value} {cd_d_Disk__leave : Value} {ct_d_Disk__leave : Value} {od_d_Disk__leave an_d_Disk__leave : Option Addr} {sl_d_Disk__leave : Array (Option Value)} {f_d_Disk__leave : Addr} {oc_d_l_cell : Value} {kV_d_l_cell : Value} {dc_d_l_cell : Value} {pm_d_l_cell : Value} {cd_d_l_cell : Value} {ct_d_l_cell : Value} {od_d_l_cell an_d_l_cell : Option Addr} {sl_d_l_cell : Array (Option Value)} {f_d_l_cell : Addr} {oc_d_l_box : Value} {kV_d_l_box : Value} {dc_d_l_box : Value} {pm_d_l_box : Value} {cd_d_l_box : Value} {ct_d_l_box : Value} {od_d_l_box an_d_l_box : Option Addr} {sl_d_l_box : Array (Option Value)} {f_d_l_box : Addr} {oc_d_l_take : Value} {kV_d_l_take : Value} {dc_d_l_take : Value} {pm_d_l_take : Value} {cd_d_l_take : Value} {ct_d_l_take : Value} {od_d_l_take an_d_l_take : Option Addr} {sl_d_l_take : Array (Option Value)} {f_d_l_take : Addr} {oc_d_l_letters : Value} {kV_d_l_letters : Value} {dc_d_l_letters : Value} {pm_d_l_letters : Value} {cd_d_l_letters : Value} {ct_d_l_letters : Value} {od_d_l_letters an_d_l_letters : Option Addr} {sl_d_l_letters : Array (Option Value)} {f_d_l_letters : Addr} {oc_d_l_words : Value} {kV_d_l_words : Value} {dc_d_l_words : Value} {pm_d_l_words : Value} {cd_d_l_words : Value} {ct_d_l_words : Value} {od_d_l_words an_d_l_words : Option Addr} {sl_d_l_words : Array (Option Value)} {f_d_l_words : Addr} {oc_d_l_line : Value} {kV_d_l_line : Value} {dc_d_l_line : Value} {pm_d_l_line : Value} {cd_d_l_line : Value} {ct_d_l_line : Value} {od_d_l_line an_d_l_line : Option Addr} {sl_d_l_line : Array (Option Value)} {f_d_l_line : Addr} {oc_d_l_lines : Value} {kV_d_l_lines : Value} {dc_d_l_lines : Value} {pm_d_l_lines : Value} {cd_d_l_lines : Value} {ct_d_l_lines : Value} {od_d_l_lines an_d_l_lines : Option Addr} {sl_d_l_lines : Array (Option Value)} {f_d_l_lines : Addr} {oc_d_l_text : Value} {kV_d_l_text : Value} {dc_d_l_text : Value} {pm_d_l_text : Value} {cd_d_l_text : Value} {ct_d_l_text : Value} {od_d_l_text an_d_l_text : Option Addr} {sl_d_l_text : Array (Option Value)} {f_d_l_text : Addr} {oc_d_l_frame : Value} {kV_d_l_frame : Value} {dc_d_l_frame : Value} {pm_d_l_frame : Value} {cd_d_l_frame : Value} {ct_d_l_frame : Value} {od_d_l_frame an_d_l_frame : Option Addr} {sl_d_l_frame : Array (Option Value)} {f_d_l_frame : Addr} {oc_d_l_file : Value} {kV_d_l_file : Value} {dc_d_l_file : Value} {pm_d_l_file : Value} {cd_d_l_file : Value} {ct_d_l_file : Value} {od_d_l_file an_d_l_file : Option Addr} {sl_d_l_file : Array (Option Value)} {f_d_l_file : Addr} {oc_d_l_number : Value} {kV_d_l_number : Value} {dc_d_l_number : Value} {pm_d_l_number : Value} {cd_d_l_number : Value} {ct_d_l_number : Value} {od_d_l_number an_d_l_number : Option Addr} {sl_d_l_number : Array (Option Value)} {f_d_l_number : Addr} {oc_d_l_read_line : Value} {kV_d_l_read_line : Value} {dc_d_l_read_line : Value} {pm_d_l_read_line : Value} {cd_d_l_read_line : Value} {ct_d_l_read_line : Value} {od_d_l_read_line an_d_l_read_line : Option Addr} {sl_d_l_read_line : Array (Option Value)} {f_d_l_read_line : Addr} {oc_d_l_read : Value} {kV_d_l_read : Value} {dc_d_l_read : Value} {pm_d_l_read : Value} {cd_d_l_read : Value} {ct_d_l_read : Value} {od_d_l_read an_d_l_read : Option Addr} {sl_d_l_read : Array (Option Value)} {f_d_l_read : Addr} {oc_d_l_near : Value} {kV_d_l_near : Value} {dc_d_l_near : Value} {pm_d_l_near : Value} {cd_d_l_near : Value} {ct_d_l_near : Value} {od_d_l_near an_d_l_near : Option Addr} {sl_d_l_near : Array (Option Value)} {f_d_l_near : Addr} {oc_d_l_by_hand : Value} {kV_d_l_by_hand : Value} {dc_d_l_by_hand : Value} {pm_d_l_by_hand : Value} {cd_d_l_by_hand : Value} {ct_d_l_by_hand : Value} {od_d_l_by_hand an_d_l_by_hand : Option Addr} {sl_d_l_by_hand : Array (Option Value)} {f_d_l_by_hand : Addr} {oc_d_l_is : Value} {kV_d_l_is : Value} {dc_d_l_is : Value} {pm_d_l_is : Value} {cd_d_l_is : Value} {ct_d_l_is : Value} {od_d_l_is an_d_l_is : Option Addr} {sl_d_l_is : Array (Option Value)} {f_d_l_is : Addr} {oc_d_l_open : Value} {kV_d_l_open : Value} {dc_d_l_open : Value} {pm_d_l_open : Value} {cd_d_l_open : Value} {ct_d_l_open : Value} {od_d_l_open an_d_l_open : Option Addr} {sl_d_l_open : Array (Option Value)} {f_d_l_open : Addr} {oc_d_l_put : Value} {kV_d_l_put : Value} {dc_d_l_put : Value} {pm_d_l_put : Value} {cd_d_l_put : Value} {ct_d_l_put : Value} {od_d_l_put an_d_l_put : Option Addr} {sl_d_l_put : Array (Option Value)} {f_d_l_put : Addr} {oc_d_l_spoilt : Value} {kV_d_l_spoilt : Value} {dc_d_l_spoilt : Value} {pm_d_l_spoilt : Value} {cd_d_l_spoilt : Value} {ct_d_l_spoilt : Value} {od_d_l_spoilt an_d_l_spoilt : Option Addr} {sl_d_l_spoilt : Array (Option Value)} {f_d_l_spoilt : Addr} {oc_d_l_odd : Value} {kV_d_l_odd : Value} {dc_d_l_odd : Value} {pm_d_l_odd : Value} {cd_d_l_odd : Value} {ct_d_l_odd : Value} {od_d_l_odd an_d_l_odd : Option Addr} {sl_d_l_odd : Array (Option Value)} {f_d_l_odd : Addr} {oc_d_l_refused : Value} {kV_d_l_refused : Value} {dc_d_l_refused : Value} {pm_d_l_refused : Value} {cd_d_l_refused : Value} {ct_d_l_refused : Value} {od_d_l_refused an_d_l_refused : Option Addr} {sl_d_l_refused : Array (Option Value)} {f_d_l_refused : Addr} {oc_d_l_places : Value} {kV_d_l_places : Value} {dc_d_l_places : Value} {pm_d_l_places : Value} {cd_d_l_places : Value} {ct_d_l_places : Value} {od_d_l_places an_d_l_places : Option Addr} {sl_d_l_places : Array (Option Value)} {f_d_l_places : Addr} {oc_d_l_figures : Value} {kV_d_l_figures : Value} {dc_d_l_figures : Value} {pm_d_l_figures : Value} {cd_d_l_figures : Value} {ct_d_l_figures : Value} {od_d_l_figures an_d_l_figures : Option Addr} {sl_d_l_figures : Array (Option Value)} {f_d_l_figures : Addr} {oc_d_l_fallen : Value} {kV_d_l_fallen : Value} {dc_d_l_fallen : Value} {pm_d_l_fallen : Value} {cd_d_l_fallen : Value} {ct_d_l_fallen : Value} {od_d_l_fallen an_d_l_fallen : Option Addr} {sl_d_l_fallen : Array (Option Value)} {f_d_l_fallen : Addr} {oc_d_l_pieces : Value} {kV_d_l_pieces : Value} {dc_d_l_pieces : Value} {pm_d_l_pieces : Value} {cd_d_l_pieces : Value} {ct_d_l_pieces : Value} {od_d_l_pieces an_d_l_pieces : Option Addr} {sl_d_l_pieces : Array (Option Value)} {f_d_l_pieces : Addr} {oc_d_l_many_right : Value} {kV_d_l_many_right : Value} {dc_d_l_many_right : Value} {pm_d_l_many_right : Value} {cd_d_l_many_right : Value} {ct_d_l_many_right : Value} {od_d_l_many_right an_d_l_many_right : Option Addr} {sl_d_l_many_right : Array (Option Value)} {f_d_l_many_right : Addr} {oc_d_l_right : Value} {kV_d_l_right : Value} {dc_d_l_right : Value} {pm_d_l_right : Value} {cd_d_l_right : Value} {ct_d_l_right : Value} {od_d_l_right an_d_l_right : Option Addr} {sl_d_l_right : Array (Option Value)} {f_d_l_right : Addr} {oc_d_law : Value} {kV_d_law : Value} {dc_d_law : Value} {pm_d_law : Value} {cd_d_law : Value} {ct_d_law : Value} {od_d_law an_d_law : Option Addr} {sl_d_law : Array (Option Value)} {f_d_law : Addr}
    (g_e_InvalidLine : PySem.W.nsIn K mainGlobals "InvalidLine" = some (some (.ref C_InvalidLine)))
    (g_e_InvalidText : PySem.W.nsIn K mainGlobals "InvalidText" = some (some (.ref C_InvalidText)))
    (g_e_InvalidSigns : PySem.W.nsIn K mainGlobals "InvalidSigns" = some (some (.ref C_InvalidSigns)))
    (g_e_InvalidCount : PySem.W.nsIn K mainGlobals "InvalidCount" = some (some (.ref C_InvalidCount)))
    (g_e_InvalidLines : PySem.W.nsIn K mainGlobals "InvalidLines" = some (some (.ref C_InvalidLines)))
    (g_m_UnsaidError : PySem.W.nsIn K mainGlobals "UnsaidError" = some (some (.ref C_UnsaidError)))
    (g_g_MOST_LETTERS : PySem.W.nsIn K mainGlobals "MOST_LETTERS" = some (some (.int 8 t_MOST_LETTERS)))
    (g_g_MOST_SIGNS_texts : PySem.W.nsIn K mainGlobals "MOST_SIGNS_texts" = some (some (.int 40 t_MOST_SIGNS_texts)))
    (g_g_FIGURES : PySem.W.nsIn K mainGlobals "FIGURES" = some (some (.int 4 t_FIGURES)))
    (g_g_MOST_SIGNS_frames : PySem.W.nsIn K mainGlobals "MOST_SIGNS_frames" = some (some (.int 9999 t_MOST_SIGNS_frames)))
    (g_g_END : PySem.W.nsIn K mainGlobals "END" = some (some (.str "." t_END)))
    (g_m_Log : PySem.W.nsIn K mainGlobals "Log" = some (some (.ref C_Log)))
    (g_m_Disk : PySem.W.nsIn K mainGlobals "Disk" = some (some (.ref C_Disk)))
    (a_x_InvalidLine : PySem.W.findIn K (.ref C_InvalidLine) "__init__" = some (some (.ref f_x_InvalidLine)))
    (a_x_InvalidText : PySem.W.findIn K (.ref C_InvalidText) "__init__" = some (some (.ref f_x_InvalidText)))
    (a_x_InvalidSigns : PySem.W.findIn K (.ref C_InvalidSigns) "__init__" = some (some (.ref f_x_InvalidSigns)))
    (a_x_InvalidCount : PySem.W.findIn K (.ref C_InvalidCount) "__init__" = some (some (.ref f_x_InvalidCount)))
    (a_x_InvalidLines : PySem.W.findIn K (.ref C_InvalidLines) "__init__" = some (some (.ref f_x_InvalidLines)))
    (a_p_text : PySem.W.findIn K (.ref C_Disk) "text" = some (some (.ref p_p_text)))
    (a_p_synced : PySem.W.findIn K (.ref C_Disk) "synced" = some (some (.ref p_p_synced)))
    (a_p_lines : PySem.W.findIn K (.ref C_Log) "lines" = some (some (.ref p_p_lines)))
    (a_d_is_int : PySem.W.nsIn K mainGlobals "is_int" = some (some (.ref f_d_is_int)))
    (a_d_is_count : PySem.W.nsIn K mainGlobals "is_count" = some (some (.ref f_d_is_count)))
    (a_d_is_list : PySem.W.nsIn K mainGlobals "is_list" = some (some (.ref f_d_is_list)))
    (a_d_is_signs : PySem.W.nsIn K mainGlobals "is_signs" = some (some (.ref f_d_is_signs)))
    (a_d_is_numeral : PySem.W.nsIn K mainGlobals "is_numeral" = some (some (.ref f_d_is_numeral)))
    (a_d_is_cell : PySem.W.nsIn K mainGlobals "is_cell" = some (some (.ref f_d_is_cell)))
    (a_d_is_text : PySem.W.nsIn K mainGlobals "is_text" = some (some (.ref f_d_is_text)))
    (a_d_is_line : PySem.W.nsIn K mainGlobals "is_line" = some (some (.ref f_d_is_line)))
    (a_d_line_text : PySem.W.nsIn K mainGlobals "line_text" = some (some (.ref f_d_line_text)))
    (a_d_line_in : PySem.W.nsIn K mainGlobals "line_in" = some (some (.ref f_d_line_in)))
    (a_d_are_lines : PySem.W.nsIn K mainGlobals "are_lines" = some (some (.ref f_d_are_lines)))
    (a_d_framed : PySem.W.nsIn K mainGlobals "framed" = some (some (.ref f_d_framed)))
    (a_d_frames_in : PySem.W.nsIn K mainGlobals "frames_in" = some (some (.ref f_d_frames_in)))
    (a_d_frame_end : PySem.W.nsIn K mainGlobals "_frame_end" = some (some (.ref f_d_frame_end)))
    (a_d_Log_init : PySem.W.findIn K (.ref C_Log) "__init__" = some (some (.ref f_d_Log_init)))
    (a_d_Log___len__ : PySem.W.findIn K (.ref C_Log) "__len__" = some (some (.ref f_d_Log___len__)))
    (a_d_Log_put : PySem.W.findIn K (.ref C_Log) "put" = some (some (.ref f_d_Log_put)))
    (a_d_lines_on : PySem.W.nsIn K mainGlobals "lines_on" = some (some (.ref f_d_lines_on)))
    (a_d_frames_of : PySem.W.nsIn K mainGlobals "_frames_of" = some (some (.ref f_d_frames_of)))
    (a_d_Disk_init : PySem.W.findIn K (.ref C_Disk) "__init__" = some (some (.ref f_d_Disk_init)))
    (a_d_Disk_put : PySem.W.findIn K (.ref C_Disk) "put" = some (some (.ref f_d_Disk_put)))
    (a_d_Disk_sync : PySem.W.findIn K (.ref C_Disk) "sync" = some (some (.ref f_d_Disk_sync)))
    (a_d_Disk_trim : PySem.W.findIn K (.ref C_Disk) "trim" = some (some (.ref f_d_Disk_trim)))
    (a_d_Disk_fall : PySem.W.findIn K (.ref C_Disk) "fall" = some (some (.ref f_d_Disk_fall)))
    (a_d_Disk_lose : PySem.W.findIn K (.ref C_Disk) "lose" = some (some (.ref f_d_Disk_lose)))
    (a_d_Disk__leave : PySem.W.findIn K (.ref C_Disk) "_leave" = some (some (.ref f_d_Disk__leave)))
    (a_d_l_cell : PySem.W.nsIn K mainGlobals "_law_cell" = some (some (.ref f_d_l_cell)))
    (a_d_l_box : PySem.W.nsIn K mainGlobals "_law_box" = some (some (.ref f_d_l_box)))
    (a_d_l_take : PySem.W.nsIn K mainGlobals "_law_take" = some (some (.ref f_d_l_take)))
    (a_d_l_letters : PySem.W.nsIn K mainGlobals "_law_letters" = some (some (.ref f_d_l_letters)))
    (a_d_l_words : PySem.W.nsIn K mainGlobals "_law_words" = some (some (.ref f_d_l_words)))
    (a_d_l_line : PySem.W.nsIn K mainGlobals "_law_line" = some (some (.ref f_d_l_line)))
    (a_d_l_lines : PySem.W.nsIn K mainGlobals "_law_lines" = some (some (.ref f_d_l_lines)))
    (a_d_l_text : PySem.W.nsIn K mainGlobals "_law_text" = some (some (.ref f_d_l_text)))
    (a_d_l_frame : PySem.W.nsIn K mainGlobals "_law_frame" = some (some (.ref f_d_l_frame)))
    (a_d_l_file : PySem.W.nsIn K mainGlobals "_law_file" = some (some (.ref f_d_l_file)))
    (a_d_l_number : PySem.W.nsIn K mainGlobals "_law_number" = some (some (.ref f_d_l_number)))
    (a_d_l_read_line : PySem.W.nsIn K mainGlobals "_law_read_line" = some (some (.ref f_d_l_read_line)))
    (a_d_l_read : PySem.W.nsIn K mainGlobals "_law_read" = some (some (.ref f_d_l_read)))
    (a_d_l_near : PySem.W.nsIn K mainGlobals "_law_near" = some (some (.ref f_d_l_near)))
    (a_d_l_by_hand : PySem.W.nsIn K mainGlobals "_law_by_hand" = some (some (.ref f_d_l_by_hand)))
    (a_d_l_is : PySem.W.nsIn K mainGlobals "_law_is" = some (some (.ref f_d_l_is)))
    (a_d_l_open : PySem.W.nsIn K mainGlobals "_law_open" = some (some (.ref f_d_l_open)))
    (a_d_l_put : PySem.W.nsIn K mainGlobals "_law_put" = some (some (.ref f_d_l_put)))
    (a_d_l_spoilt : PySem.W.nsIn K mainGlobals "_law_spoilt" = some (some (.ref f_d_l_spoilt)))
    (a_d_l_odd : PySem.W.nsIn K mainGlobals "_law_odd" = some (some (.ref f_d_l_odd)))
    (a_d_l_refused : PySem.W.nsIn K mainGlobals "_law_refused" = some (some (.ref f_d_l_refused)))
    (a_d_l_places : PySem.W.nsIn K mainGlobals "_law_places" = some (some (.ref f_d_l_places)))
    (a_d_l_figures : PySem.W.nsIn K mainGlobals "_law_figures" = some (some (.ref f_d_l_figures)))
    (a_d_l_fallen : PySem.W.nsIn K mainGlobals "_law_fallen" = some (some (.ref f_d_l_fallen)))
    (a_d_l_pieces : PySem.W.nsIn K mainGlobals "_law_pieces" = some (some (.ref f_d_l_pieces)))
    (a_d_l_many_right : PySem.W.nsIn K mainGlobals "_law_many_right" = some (some (.ref f_d_l_many_right)))
    (a_d_l_right : PySem.W.nsIn K mainGlobals "_law_right" = some (some (.ref f_d_l_right)))
    (a_d_law : PySem.W.nsIn K mainGlobals "law" = some (some (.ref f_d_law)))
    (rr_p_text : PySem.W.recIn K p_p_text "property" = some (.ref f_p_text :: re_p_text))
    (rr_p_synced : PySem.W.recIn K p_p_synced "property" = some (.ref f_p_synced :: re_p_synced))
    (rr_p_lines : PySem.W.recIn K p_p_lines "property" = some (.ref f_p_lines :: re_p_lines))
    (l_x_InvalidLine : K.lookup f_x_InvalidLine = some ⟨oc_x_InvalidLine, od_x_InvalidLine, .func (PySem.W.fnOf "__init__" "InvalidLine.__init__" (defArgs s_InvalidLine_init) (defBody s_InvalidLine_init) (defScope s_InvalidLine_init) .none kV_x_InvalidLine dc_x_InvalidLine pm_x_InvalidLine an_x_InvalidLine cd_x_InvalidLine ct_x_InvalidLine), sl_x_InvalidLine⟩)
    (l_x_InvalidText : K.lookup f_x_InvalidText = some ⟨oc_x_InvalidText, od_x_InvalidText, .func (PySem.W.fnOf "__init__" "InvalidText.__init__" (defArgs s_InvalidText_init) (defBody s_InvalidText_init) (defScope s_InvalidText_init) .none kV_x_InvalidText dc_x_InvalidText pm_x_InvalidText an_x_InvalidText cd_x_InvalidText ct_x_InvalidText), sl_x_InvalidText⟩)
    (l_x_InvalidSigns : K.lookup f_x_InvalidSigns = some ⟨oc_x_InvalidSigns, od_x_InvalidSigns, .func (PySem.W.fnOf "__init__" "InvalidSigns.__init__" (defArgs s_InvalidSigns_init) (defBody s_InvalidSigns_init) (defScope s_InvalidSigns_init) .none kV_x_InvalidSigns dc_x_InvalidSigns pm_x_InvalidSigns an_x_InvalidSigns cd_x_InvalidSigns ct_x_InvalidSigns), sl_x_InvalidSigns⟩)
    (l_x_InvalidCount : K.lookup f_x_InvalidCount = some ⟨oc_x_InvalidCount, od_x_InvalidCount, .func (PySem.W.fnOf "__init__" "InvalidCount.__init__" (defArgs s_InvalidCount_init) (defBody s_InvalidCount_init) (defScope s_InvalidCount_init) .none kV_x_InvalidCount dc_x_InvalidCount pm_x_InvalidCount an_x_InvalidCount cd_x_InvalidCount ct_x_InvalidCount), sl_x_InvalidCount⟩)
    (l_x_InvalidLines : K.lookup f_x_InvalidLines = some ⟨oc_x_InvalidLines, od_x_InvalidLines, .func (PySem.W.fnOf "__init__" "InvalidLines.__init__" (defArgs s_InvalidLines_init) (defBody s_InvalidLines_init) (defScope s_InvalidLines_init) .none kV_x_InvalidLines dc_x_InvalidLines pm_x_InvalidLines an_x_InvalidLines cd_x_InvalidLines ct_x_InvalidLines), sl_x_InvalidLines⟩)
    (l_p_text : K.lookup f_p_text = some ⟨oc_p_text, od_p_text, .func (PySem.W.fnOf "text" "Disk.text" (defArgs s_Disk_text) (defBody s_Disk_text) (defScope s_Disk_text) .none kV_p_text dc_p_text pm_p_text an_p_text cd_p_text ct_p_text), sl_p_text⟩)
    (l_p_synced : K.lookup f_p_synced = some ⟨oc_p_synced, od_p_synced, .func (PySem.W.fnOf "synced" "Disk.synced" (defArgs s_Disk_synced) (defBody s_Disk_synced) (defScope s_Disk_synced) .none kV_p_synced dc_p_synced pm_p_synced an_p_synced cd_p_synced ct_p_synced), sl_p_synced⟩)
    (l_p_lines : K.lookup f_p_lines = some ⟨oc_p_lines, od_p_lines, .func (PySem.W.fnOf "lines" "Log.lines" (defArgs s_Log_lines) (defBody s_Log_lines) (defScope s_Log_lines) .none kV_p_lines dc_p_lines pm_p_lines an_p_lines cd_p_lines ct_p_lines), sl_p_lines⟩)
    (l_d_is_int : K.lookup f_d_is_int = some ⟨oc_d_is_int, od_d_is_int, .func (PySem.W.fnOf "is_int" "is_int" (defArgs s_is_int) (defBody s_is_int) (defScope s_is_int) .none kV_d_is_int dc_d_is_int pm_d_is_int an_d_is_int cd_d_is_int ct_d_is_int), sl_d_is_int⟩)
    (l_d_is_count : K.lookup f_d_is_count = some ⟨oc_d_is_count, od_d_is_count, .func (PySem.W.fnOf "is_count" "is_count" (defArgs s_is_count) (defBody s_is_count) (defScope s_is_count) .none kV_d_is_count dc_d_is_count pm_d_is_count an_d_is_count cd_d_is_count ct_d_is_count), sl_d_is_count⟩)
    (l_d_is_list : K.lookup f_d_is_list = some ⟨oc_d_is_list, od_d_is_list, .func (PySem.W.fnOf "is_list" "is_list" (defArgs s_is_list) (defBody s_is_list) (defScope s_is_list) .none kV_d_is_list dc_d_is_list pm_d_is_list an_d_is_list cd_d_is_list ct_d_is_list), sl_d_is_list⟩)
    (l_d_is_signs : K.lookup f_d_is_signs = some ⟨oc_d_is_signs, od_d_is_signs, .func (PySem.W.fnOf "is_signs" "is_signs" (defArgs s_is_signs) (defBody s_is_signs) (defScope s_is_signs) .none kV_d_is_signs dc_d_is_signs pm_d_is_signs an_d_is_signs cd_d_is_signs ct_d_is_signs), sl_d_is_signs⟩)
    (l_d_is_numeral : K.lookup f_d_is_numeral = some ⟨oc_d_is_numeral, od_d_is_numeral, .func (PySem.W.fnOf "is_numeral" "is_numeral" (defArgs s_is_numeral) (defBody s_is_numeral) (defScope s_is_numeral) .none kV_d_is_numeral dc_d_is_numeral pm_d_is_numeral an_d_is_numeral cd_d_is_numeral ct_d_is_numeral), sl_d_is_numeral⟩)
    (l_d_is_cell : K.lookup f_d_is_cell = some ⟨oc_d_is_cell, od_d_is_cell, .func (PySem.W.fnOf "is_cell" "is_cell" (defArgs s_is_cell) (defBody s_is_cell) (defScope s_is_cell) .none kV_d_is_cell dc_d_is_cell pm_d_is_cell an_d_is_cell cd_d_is_cell ct_d_is_cell), sl_d_is_cell⟩)
    (l_d_is_text : K.lookup f_d_is_text = some ⟨oc_d_is_text, od_d_is_text, .func (PySem.W.fnOf "is_text" "is_text" (defArgs s_is_text) (defBody s_is_text) (defScope s_is_text) .none kV_d_is_text dc_d_is_text pm_d_is_text an_d_is_text cd_d_is_text ct_d_is_text), sl_d_is_text⟩)
    (l_d_is_line : K.lookup f_d_is_line = some ⟨oc_d_is_line, od_d_is_line, .func (PySem.W.fnOf "is_line" "is_line" (defArgs s_is_line) (defBody s_is_line) (defScope s_is_line) .none kV_d_is_line dc_d_is_line pm_d_is_line an_d_is_line cd_d_is_line ct_d_is_line), sl_d_is_line⟩)
    (l_d_line_text : K.lookup f_d_line_text = some ⟨oc_d_line_text, od_d_line_text, .func (PySem.W.fnOf "line_text" "line_text" (defArgs s_line_text) (defBody s_line_text) (defScope s_line_text) .none kV_d_line_text dc_d_line_text pm_d_line_text an_d_line_text cd_d_line_text ct_d_line_text), sl_d_line_text⟩)
    (l_d_line_in : K.lookup f_d_line_in = some ⟨oc_d_line_in, od_d_line_in, .func (PySem.W.fnOf "line_in" "line_in" (defArgs s_line_in) (defBody s_line_in) (defScope s_line_in) .none kV_d_line_in dc_d_line_in pm_d_line_in an_d_line_in cd_d_line_in ct_d_line_in), sl_d_line_in⟩)
    (l_d_are_lines : K.lookup f_d_are_lines = some ⟨oc_d_are_lines, od_d_are_lines, .func (PySem.W.fnOf "are_lines" "are_lines" (defArgs s_are_lines) (defBody s_are_lines) (defScope s_are_lines) .none kV_d_are_lines dc_d_are_lines pm_d_are_lines an_d_are_lines cd_d_are_lines ct_d_are_lines), sl_d_are_lines⟩)
    (l_d_framed : K.lookup f_d_framed = some ⟨oc_d_framed, od_d_framed, .func (PySem.W.fnOf "framed" "framed" (defArgs s_framed) (defBody s_framed) (defScope s_framed) .none kV_d_framed dc_d_framed pm_d_framed an_d_framed cd_d_framed ct_d_framed), sl_d_framed⟩)
    (l_d_frames_in : K.lookup f_d_frames_in = some ⟨oc_d_frames_in, od_d_frames_in, .func (PySem.W.fnOf "frames_in" "frames_in" (defArgs s_frames_in) (defBody s_frames_in) (defScope s_frames_in) .none kV_d_frames_in dc_d_frames_in pm_d_frames_in an_d_frames_in cd_d_frames_in ct_d_frames_in), sl_d_frames_in⟩)
    (l_d_frame_end : K.lookup f_d_frame_end = some ⟨oc_d_frame_end, od_d_frame_end, .func (PySem.W.fnOf "_frame_end" "_frame_end" (defArgs s_frame_end) (defBody s_frame_end) (defScope s_frame_end) .none kV_d_frame_end dc_d_frame_end pm_d_frame_end an_d_frame_end cd_d_frame_end ct_d_frame_end), sl_d_frame_end⟩)
    (l_d_Log_init : K.lookup f_d_Log_init = some ⟨oc_d_Log_init, od_d_Log_init, .func (PySem.W.fnOf "__init__" "Log.__init__" (defArgs s_Log_init) (defBody s_Log_init) (defScope s_Log_init) .none kV_d_Log_init dc_d_Log_init pm_d_Log_init an_d_Log_init cd_d_Log_init ct_d_Log_init), sl_d_Log_init⟩)
    (l_d_Log___len__ : K.lookup f_d_Log___len__ = some ⟨oc_d_Log___len__, od_d_Log___len__, .func (PySem.W.fnOf "__len__" "Log.__len__" (defArgs s_Log___len__) (defBody s_Log___len__) (defScope s_Log___len__) .none kV_d_Log___len__ dc_d_Log___len__ pm_d_Log___len__ an_d_Log___len__ cd_d_Log___len__ ct_d_Log___len__), sl_d_Log___len__⟩)
    (l_d_Log_put : K.lookup f_d_Log_put = some ⟨oc_d_Log_put, od_d_Log_put, .func (PySem.W.fnOf "put" "Log.put" (defArgs s_Log_put) (defBody s_Log_put) (defScope s_Log_put) .none kV_d_Log_put dc_d_Log_put pm_d_Log_put an_d_Log_put cd_d_Log_put ct_d_Log_put), sl_d_Log_put⟩)
    (l_d_lines_on : K.lookup f_d_lines_on = some ⟨oc_d_lines_on, od_d_lines_on, .func (PySem.W.fnOf "lines_on" "lines_on" (defArgs s_lines_on) (defBody s_lines_on) (defScope s_lines_on) .none kV_d_lines_on dc_d_lines_on pm_d_lines_on an_d_lines_on cd_d_lines_on ct_d_lines_on), sl_d_lines_on⟩)
    (l_d_frames_of : K.lookup f_d_frames_of = some ⟨oc_d_frames_of, od_d_frames_of, .func (PySem.W.fnOf "_frames_of" "_frames_of" (defArgs s_frames_of) (defBody s_frames_of) (defScope s_frames_of) .none kV_d_frames_of dc_d_frames_of pm_d_frames_of an_d_frames_of cd_d_frames_of ct_d_frames_of), sl_d_frames_of⟩)
    (l_d_Disk_init : K.lookup f_d_Disk_init = some ⟨oc_d_Disk_init, od_d_Disk_init, .func (PySem.W.fnOf "__init__" "Disk.__init__" (defArgs s_Disk_init) (defBody s_Disk_init) (defScope s_Disk_init) .none kV_d_Disk_init dc_d_Disk_init pm_d_Disk_init an_d_Disk_init cd_d_Disk_init ct_d_Disk_init), sl_d_Disk_init⟩)
    (l_d_Disk_put : K.lookup f_d_Disk_put = some ⟨oc_d_Disk_put, od_d_Disk_put, .func (PySem.W.fnOf "put" "Disk.put" (defArgs s_Disk_put) (defBody s_Disk_put) (defScope s_Disk_put) .none kV_d_Disk_put dc_d_Disk_put pm_d_Disk_put an_d_Disk_put cd_d_Disk_put ct_d_Disk_put), sl_d_Disk_put⟩)
    (l_d_Disk_sync : K.lookup f_d_Disk_sync = some ⟨oc_d_Disk_sync, od_d_Disk_sync, .func (PySem.W.fnOf "sync" "Disk.sync" (defArgs s_Disk_sync) (defBody s_Disk_sync) (defScope s_Disk_sync) .none kV_d_Disk_sync dc_d_Disk_sync pm_d_Disk_sync an_d_Disk_sync cd_d_Disk_sync ct_d_Disk_sync), sl_d_Disk_sync⟩)
    (l_d_Disk_trim : K.lookup f_d_Disk_trim = some ⟨oc_d_Disk_trim, od_d_Disk_trim, .func (PySem.W.fnOf "trim" "Disk.trim" (defArgs s_Disk_trim) (defBody s_Disk_trim) (defScope s_Disk_trim) .none kV_d_Disk_trim dc_d_Disk_trim pm_d_Disk_trim an_d_Disk_trim cd_d_Disk_trim ct_d_Disk_trim), sl_d_Disk_trim⟩)
    (l_d_Disk_fall : K.lookup f_d_Disk_fall = some ⟨oc_d_Disk_fall, od_d_Disk_fall, .func (PySem.W.fnOf "fall" "Disk.fall" (defArgs s_Disk_fall) (defBody s_Disk_fall) (defScope s_Disk_fall) .none kV_d_Disk_fall dc_d_Disk_fall pm_d_Disk_fall an_d_Disk_fall cd_d_Disk_fall ct_d_Disk_fall), sl_d_Disk_fall⟩)
    (l_d_Disk_lose : K.lookup f_d_Disk_lose = some ⟨oc_d_Disk_lose, od_d_Disk_lose, .func (PySem.W.fnOf "lose" "Disk.lose" (defArgs s_Disk_lose) (defBody s_Disk_lose) (defScope s_Disk_lose) .none kV_d_Disk_lose dc_d_Disk_lose pm_d_Disk_lose an_d_Disk_lose cd_d_Disk_lose ct_d_Disk_lose), sl_d_Disk_lose⟩)
    (l_d_Disk__leave : K.lookup f_d_Disk__leave = some ⟨oc_d_Disk__leave, od_d_Disk__leave, .func (PySem.W.fnOf "_leave" "Disk._leave" (defArgs s_Disk__leave) (defBody s_Disk__leave) (defScope s_Disk__leave) .none kV_d_Disk__leave dc_d_Disk__leave pm_d_Disk__leave an_d_Disk__leave cd_d_Disk__leave ct_d_Disk__leave), sl_d_Disk__leave⟩)
    (l_d_l_cell : K.lookup f_d_l_cell = some ⟨oc_d_l_cell, od_d_l_cell, .func (PySem.W.fnOf "_law_cell" "_law_cell" (defArgs s_l_cell) (defBody s_l_cell) (defScope s_l_cell) .none kV_d_l_cell dc_d_l_cell pm_d_l_cell an_d_l_cell cd_d_l_cell ct_d_l_cell), sl_d_l_cell⟩)
    (l_d_l_box : K.lookup f_d_l_box = some ⟨oc_d_l_box, od_d_l_box, .func (PySem.W.fnOf "_law_box" "_law_box" (defArgs s_l_box) (defBody s_l_box) (defScope s_l_box) .none kV_d_l_box dc_d_l_box pm_d_l_box an_d_l_box cd_d_l_box ct_d_l_box), sl_d_l_box⟩)
    (l_d_l_take : K.lookup f_d_l_take = some ⟨oc_d_l_take, od_d_l_take, .func (PySem.W.fnOf "_law_take" "_law_take" (defArgs s_l_take) (defBody s_l_take) (defScope s_l_take) .none kV_d_l_take dc_d_l_take pm_d_l_take an_d_l_take cd_d_l_take ct_d_l_take), sl_d_l_take⟩)
    (l_d_l_letters : K.lookup f_d_l_letters = some ⟨oc_d_l_letters, od_d_l_letters, .func (PySem.W.fnOf "_law_letters" "_law_letters" (defArgs s_l_letters) (defBody s_l_letters) (defScope s_l_letters) .none kV_d_l_letters dc_d_l_letters pm_d_l_letters an_d_l_letters cd_d_l_letters ct_d_l_letters), sl_d_l_letters⟩)
    (l_d_l_words : K.lookup f_d_l_words = some ⟨oc_d_l_words, od_d_l_words, .func (PySem.W.fnOf "_law_words" "_law_words" (defArgs s_l_words) (defBody s_l_words) (defScope s_l_words) .none kV_d_l_words dc_d_l_words pm_d_l_words an_d_l_words cd_d_l_words ct_d_l_words), sl_d_l_words⟩)
    (l_d_l_line : K.lookup f_d_l_line = some ⟨oc_d_l_line, od_d_l_line, .func (PySem.W.fnOf "_law_line" "_law_line" (defArgs s_l_line) (defBody s_l_line) (defScope s_l_line) .none kV_d_l_line dc_d_l_line pm_d_l_line an_d_l_line cd_d_l_line ct_d_l_line), sl_d_l_line⟩)
    (l_d_l_lines : K.lookup f_d_l_lines = some ⟨oc_d_l_lines, od_d_l_lines, .func (PySem.W.fnOf "_law_lines" "_law_lines" (defArgs s_l_lines) (defBody s_l_lines) (defScope s_l_lines) .none kV_d_l_lines dc_d_l_lines pm_d_l_lines an_d_l_lines cd_d_l_lines ct_d_l_lines), sl_d_l_lines⟩)
    (l_d_l_text : K.lookup f_d_l_text = some ⟨oc_d_l_text, od_d_l_text, .func (PySem.W.fnOf "_law_text" "_law_text" (defArgs s_l_text) (defBody s_l_text) (defScope s_l_text) .none kV_d_l_text dc_d_l_text pm_d_l_text an_d_l_text cd_d_l_text ct_d_l_text), sl_d_l_text⟩)
    (l_d_l_frame : K.lookup f_d_l_frame = some ⟨oc_d_l_frame, od_d_l_frame, .func (PySem.W.fnOf "_law_frame" "_law_frame" (defArgs s_l_frame) (defBody s_l_frame) (defScope s_l_frame) .none kV_d_l_frame dc_d_l_frame pm_d_l_frame an_d_l_frame cd_d_l_frame ct_d_l_frame), sl_d_l_frame⟩)
    (l_d_l_file : K.lookup f_d_l_file = some ⟨oc_d_l_file, od_d_l_file, .func (PySem.W.fnOf "_law_file" "_law_file" (defArgs s_l_file) (defBody s_l_file) (defScope s_l_file) .none kV_d_l_file dc_d_l_file pm_d_l_file an_d_l_file cd_d_l_file ct_d_l_file), sl_d_l_file⟩)
    (l_d_l_number : K.lookup f_d_l_number = some ⟨oc_d_l_number, od_d_l_number, .func (PySem.W.fnOf "_law_number" "_law_number" (defArgs s_l_number) (defBody s_l_number) (defScope s_l_number) .none kV_d_l_number dc_d_l_number pm_d_l_number an_d_l_number cd_d_l_number ct_d_l_number), sl_d_l_number⟩)
    (l_d_l_read_line : K.lookup f_d_l_read_line = some ⟨oc_d_l_read_line, od_d_l_read_line, .func (PySem.W.fnOf "_law_read_line" "_law_read_line" (defArgs s_l_read_line) (defBody s_l_read_line) (defScope s_l_read_line) .none kV_d_l_read_line dc_d_l_read_line pm_d_l_read_line an_d_l_read_line cd_d_l_read_line ct_d_l_read_line), sl_d_l_read_line⟩)
    (l_d_l_read : K.lookup f_d_l_read = some ⟨oc_d_l_read, od_d_l_read, .func (PySem.W.fnOf "_law_read" "_law_read" (defArgs s_l_read) (defBody s_l_read) (defScope s_l_read) .none kV_d_l_read dc_d_l_read pm_d_l_read an_d_l_read cd_d_l_read ct_d_l_read), sl_d_l_read⟩)
    (l_d_l_near : K.lookup f_d_l_near = some ⟨oc_d_l_near, od_d_l_near, .func (PySem.W.fnOf "_law_near" "_law_near" (defArgs s_l_near) (defBody s_l_near) (defScope s_l_near) .none kV_d_l_near dc_d_l_near pm_d_l_near an_d_l_near cd_d_l_near ct_d_l_near), sl_d_l_near⟩)
    (l_d_l_by_hand : K.lookup f_d_l_by_hand = some ⟨oc_d_l_by_hand, od_d_l_by_hand, .func (PySem.W.fnOf "_law_by_hand" "_law_by_hand" (defArgs s_l_by_hand) (defBody s_l_by_hand) (defScope s_l_by_hand) .none kV_d_l_by_hand dc_d_l_by_hand pm_d_l_by_hand an_d_l_by_hand cd_d_l_by_hand ct_d_l_by_hand), sl_d_l_by_hand⟩)
    (l_d_l_is : K.lookup f_d_l_is = some ⟨oc_d_l_is, od_d_l_is, .func (PySem.W.fnOf "_law_is" "_law_is" (defArgs s_l_is) (defBody s_l_is) (defScope s_l_is) .none kV_d_l_is dc_d_l_is pm_d_l_is an_d_l_is cd_d_l_is ct_d_l_is), sl_d_l_is⟩)
    (l_d_l_open : K.lookup f_d_l_open = some ⟨oc_d_l_open, od_d_l_open, .func (PySem.W.fnOf "_law_open" "_law_open" (defArgs s_l_open) (defBody s_l_open) (defScope s_l_open) .none kV_d_l_open dc_d_l_open pm_d_l_open an_d_l_open cd_d_l_open ct_d_l_open), sl_d_l_open⟩)
    (l_d_l_put : K.lookup f_d_l_put = some ⟨oc_d_l_put, od_d_l_put, .func (PySem.W.fnOf "_law_put" "_law_put" (defArgs s_l_put) (defBody s_l_put) (defScope s_l_put) .none kV_d_l_put dc_d_l_put pm_d_l_put an_d_l_put cd_d_l_put ct_d_l_put), sl_d_l_put⟩)
    (l_d_l_spoilt : K.lookup f_d_l_spoilt = some ⟨oc_d_l_spoilt, od_d_l_spoilt, .func (PySem.W.fnOf "_law_spoilt" "_law_spoilt" (defArgs s_l_spoilt) (defBody s_l_spoilt) (defScope s_l_spoilt) .none kV_d_l_spoilt dc_d_l_spoilt pm_d_l_spoilt an_d_l_spoilt cd_d_l_spoilt ct_d_l_spoilt), sl_d_l_spoilt⟩)
    (l_d_l_odd : K.lookup f_d_l_odd = some ⟨oc_d_l_odd, od_d_l_odd, .func (PySem.W.fnOf "_law_odd" "_law_odd" (defArgs s_l_odd) (defBody s_l_odd) (defScope s_l_odd) .none kV_d_l_odd dc_d_l_odd pm_d_l_odd an_d_l_odd cd_d_l_odd ct_d_l_odd), sl_d_l_odd⟩)
    (l_d_l_refused : K.lookup f_d_l_refused = some ⟨oc_d_l_refused, od_d_l_refused, .func (PySem.W.fnOf "_law_refused" "_law_refused" (defArgs s_l_refused) (defBody s_l_refused) (defScope s_l_refused) .none kV_d_l_refused dc_d_l_refused pm_d_l_refused an_d_l_refused cd_d_l_refused ct_d_l_refused), sl_d_l_refused⟩)
    (l_d_l_places : K.lookup f_d_l_places = some ⟨oc_d_l_places, od_d_l_places, .func (PySem.W.fnOf "_law_places" "_law_places" (defArgs s_l_places) (defBody s_l_places) (defScope s_l_places) .none kV_d_l_places dc_d_l_places pm_d_l_places an_d_l_places cd_d_l_places ct_d_l_places), sl_d_l_places⟩)
    (l_d_l_figures : K.lookup f_d_l_figures = some ⟨oc_d_l_figures, od_d_l_figures, .func (PySem.W.fnOf "_law_figures" "_law_figures" (defArgs s_l_figures) (defBody s_l_figures) (defScope s_l_figures) .none kV_d_l_figures dc_d_l_figures pm_d_l_figures an_d_l_figures cd_d_l_figures ct_d_l_figures), sl_d_l_figures⟩)
    (l_d_l_fallen : K.lookup f_d_l_fallen = some ⟨oc_d_l_fallen, od_d_l_fallen, .func (PySem.W.fnOf "_law_fallen" "_law_fallen" (defArgs s_l_fallen) (defBody s_l_fallen) (defScope s_l_fallen) .none kV_d_l_fallen dc_d_l_fallen pm_d_l_fallen an_d_l_fallen cd_d_l_fallen ct_d_l_fallen), sl_d_l_fallen⟩)
    (l_d_l_pieces : K.lookup f_d_l_pieces = some ⟨oc_d_l_pieces, od_d_l_pieces, .func (PySem.W.fnOf "_law_pieces" "_law_pieces" (defArgs s_l_pieces) (defBody s_l_pieces) (defScope s_l_pieces) .none kV_d_l_pieces dc_d_l_pieces pm_d_l_pieces an_d_l_pieces cd_d_l_pieces ct_d_l_pieces), sl_d_l_pieces⟩)
    (l_d_l_many_right : K.lookup f_d_l_many_right = some ⟨oc_d_l_many_right, od_d_l_many_right, .func (PySem.W.fnOf "_law_many_right" "_law_many_right" (defArgs s_l_many_right) (defBody s_l_many_right) (defScope s_l_many_right) .none kV_d_l_many_right dc_d_l_many_right pm_d_l_many_right an_d_l_many_right cd_d_l_many_right ct_d_l_many_right), sl_d_l_many_right⟩)
    (l_d_l_right : K.lookup f_d_l_right = some ⟨oc_d_l_right, od_d_l_right, .func (PySem.W.fnOf "_law_right" "_law_right" (defArgs s_l_right) (defBody s_l_right) (defScope s_l_right) .none kV_d_l_right dc_d_l_right pm_d_l_right an_d_l_right cd_d_l_right ct_d_l_right), sl_d_l_right⟩)
    (l_d_law : K.lookup f_d_law = some ⟨oc_d_law, od_d_law, .func (PySem.W.fnOf "law" "law" (defArgs s_law) (defBody s_law) (defScope s_law) .none kV_d_law dc_d_law pm_d_law an_d_law cd_d_law ct_d_law), sl_d_law⟩)
    (xl_e_InvalidLine : K.lookup C_InvalidLine = some (excClassObj nm_e_InvalidLine q_e_InvalidLine C_InvalidLine N_e_InvalidLine bs_e_InvalidLine bm_e_InvalidLine true sn_e_InvalidLine sub_e_InvalidLine ab_e_InvalidLine col_e_InvalidLine dd_e_InvalidLine k0_e_InvalidLine k1_e_InvalidLine k2_e_InvalidLine k3_e_InvalidLine k5_e_InvalidLine "ValueError.__new__"))
    (xl_e_InvalidText : K.lookup C_InvalidText = some (excClassObj nm_e_InvalidText q_e_InvalidText C_InvalidText N_e_InvalidText bs_e_InvalidText bm_e_InvalidText true sn_e_InvalidText sub_e_InvalidText ab_e_InvalidText col_e_InvalidText dd_e_InvalidText k0_e_InvalidText k1_e_InvalidText k2_e_InvalidText k3_e_InvalidText k5_e_InvalidText "ValueError.__new__"))
    (xl_e_InvalidSigns : K.lookup C_InvalidSigns = some (excClassObj nm_e_InvalidSigns q_e_InvalidSigns C_InvalidSigns N_e_InvalidSigns bs_e_InvalidSigns bm_e_InvalidSigns true sn_e_InvalidSigns sub_e_InvalidSigns ab_e_InvalidSigns col_e_InvalidSigns dd_e_InvalidSigns k0_e_InvalidSigns k1_e_InvalidSigns k2_e_InvalidSigns k3_e_InvalidSigns k5_e_InvalidSigns "ValueError.__new__"))
    (xl_e_InvalidCount : K.lookup C_InvalidCount = some (excClassObj nm_e_InvalidCount q_e_InvalidCount C_InvalidCount N_e_InvalidCount bs_e_InvalidCount bm_e_InvalidCount true sn_e_InvalidCount sub_e_InvalidCount ab_e_InvalidCount col_e_InvalidCount dd_e_InvalidCount k0_e_InvalidCount k1_e_InvalidCount k2_e_InvalidCount k3_e_InvalidCount k5_e_InvalidCount "ValueError.__new__"))
    (xl_e_InvalidLines : K.lookup C_InvalidLines = some (excClassObj nm_e_InvalidLines q_e_InvalidLines C_InvalidLines N_e_InvalidLines bs_e_InvalidLines bm_e_InvalidLines true sn_e_InvalidLines sub_e_InvalidLines ab_e_InvalidLines col_e_InvalidLines dd_e_InvalidLines k0_e_InvalidLines k1_e_InvalidLines k2_e_InvalidLines k3_e_InvalidLines k5_e_InvalidLines "ValueError.__new__"))
    (c_x_InvalidLine : PySem.W.codeIn K cd_x_InvalidLine "InvalidLine.__init__" = true)
    (kp_x_InvalidLine : PySem.W.keepIn K (.ref f_x_InvalidLine) = true)
    (c_x_InvalidText : PySem.W.codeIn K cd_x_InvalidText "InvalidText.__init__" = true)
    (kp_x_InvalidText : PySem.W.keepIn K (.ref f_x_InvalidText) = true)
    (c_x_InvalidSigns : PySem.W.codeIn K cd_x_InvalidSigns "InvalidSigns.__init__" = true)
    (kp_x_InvalidSigns : PySem.W.keepIn K (.ref f_x_InvalidSigns) = true)
    (c_x_InvalidCount : PySem.W.codeIn K cd_x_InvalidCount "InvalidCount.__init__" = true)
    (kp_x_InvalidCount : PySem.W.keepIn K (.ref f_x_InvalidCount) = true)
    (c_x_InvalidLines : PySem.W.codeIn K cd_x_InvalidLines "InvalidLines.__init__" = true)
    (kp_x_InvalidLines : PySem.W.keepIn K (.ref f_x_InvalidLines) = true)
    (rv_e_InvalidLine : PySem.HandSPX.refsVE bm_e_InvalidLine = true)
    (sa_e_InvalidLine : PySem.W.findIn K (.ref C_InvalidLine) "__setattr__" = some (some (.builtin "object.__setattr__")))
    (eb_C_InvalidLine : PySem.W.subIn K (.ref C_InvalidLine) (.type "BaseException") = some true)
    (ty_C_InvalidLine : PySem.W.typeIn K (.ref C_InvalidLine) = some (.type "type"))
    (kc_C_InvalidLine : PySem.W.keepIn K (.ref C_InvalidLine) = true)
    (ti_e_InvalidLine : PySem.W.typeIn K (.ref f_x_InvalidLine) = some (.type "function"))
    (nf_e_InvalidLine : PySem.W.findIn K (.ref C_InvalidLine) "given" = some none)
    (ga_e_InvalidLine : PySem.W.findIn K (.ref C_InvalidLine) "__getattribute__" = some (some (.builtin "BaseException.__getattribute__")))
    (gt_e_InvalidLine : PySem.W.findIn K (.ref C_InvalidLine) "__getattr__" = some none)
    (hd_C_InvalidLine : PySem.W.hasDictIn K C_InvalidLine = true)
    (ncl_e_InvalidLine : PySem.W.findIn K (.ref C_InvalidLine) "__class__" = some (some (.builtin "object.__class__")))
    (nsp : PySem.W.specialIn K (.builtin "object.__class__") "__get__" = some (some (.builtin "getset_descriptor.__get__")))
    (ntk : PySem.W.takesIn K (.builtin "object.__class__") = some true)
    (nmo_e_InvalidLine : PySem.W.mroIn K C_InvalidLine (.type "object") = some true)
    (rv_e_InvalidText : PySem.HandSPX.refsVE bm_e_InvalidText = true)
    (sa_e_InvalidText : PySem.W.findIn K (.ref C_InvalidText) "__setattr__" = some (some (.builtin "object.__setattr__")))
    (eb_C_InvalidText : PySem.W.subIn K (.ref C_InvalidText) (.type "BaseException") = some true)
    (ty_C_InvalidText : PySem.W.typeIn K (.ref C_InvalidText) = some (.type "type"))
    (kc_C_InvalidText : PySem.W.keepIn K (.ref C_InvalidText) = true)
    (ti_e_InvalidText : PySem.W.typeIn K (.ref f_x_InvalidText) = some (.type "function"))
    (nf_e_InvalidText : PySem.W.findIn K (.ref C_InvalidText) "given" = some none)
    (ga_e_InvalidText : PySem.W.findIn K (.ref C_InvalidText) "__getattribute__" = some (some (.builtin "BaseException.__getattribute__")))
    (gt_e_InvalidText : PySem.W.findIn K (.ref C_InvalidText) "__getattr__" = some none)
    (hd_C_InvalidText : PySem.W.hasDictIn K C_InvalidText = true)
    (ncl_e_InvalidText : PySem.W.findIn K (.ref C_InvalidText) "__class__" = some (some (.builtin "object.__class__")))
    (nmo_e_InvalidText : PySem.W.mroIn K C_InvalidText (.type "object") = some true)
    (rv_e_InvalidSigns : PySem.HandSPX.refsVE bm_e_InvalidSigns = true)
    (sa_e_InvalidSigns : PySem.W.findIn K (.ref C_InvalidSigns) "__setattr__" = some (some (.builtin "object.__setattr__")))
    (eb_C_InvalidSigns : PySem.W.subIn K (.ref C_InvalidSigns) (.type "BaseException") = some true)
    (ty_C_InvalidSigns : PySem.W.typeIn K (.ref C_InvalidSigns) = some (.type "type"))
    (kc_C_InvalidSigns : PySem.W.keepIn K (.ref C_InvalidSigns) = true)
    (ti_e_InvalidSigns : PySem.W.typeIn K (.ref f_x_InvalidSigns) = some (.type "function"))
    (nf_e_InvalidSigns : PySem.W.findIn K (.ref C_InvalidSigns) "given" = some none)
    (ga_e_InvalidSigns : PySem.W.findIn K (.ref C_InvalidSigns) "__getattribute__" = some (some (.builtin "BaseException.__getattribute__")))
    (gt_e_InvalidSigns : PySem.W.findIn K (.ref C_InvalidSigns) "__getattr__" = some none)
    (hd_C_InvalidSigns : PySem.W.hasDictIn K C_InvalidSigns = true)
    (ncl_e_InvalidSigns : PySem.W.findIn K (.ref C_InvalidSigns) "__class__" = some (some (.builtin "object.__class__")))
    (nmo_e_InvalidSigns : PySem.W.mroIn K C_InvalidSigns (.type "object") = some true)
    (rv_e_InvalidCount : PySem.HandSPX.refsVE bm_e_InvalidCount = true)
    (sa_e_InvalidCount : PySem.W.findIn K (.ref C_InvalidCount) "__setattr__" = some (some (.builtin "object.__setattr__")))
    (eb_C_InvalidCount : PySem.W.subIn K (.ref C_InvalidCount) (.type "BaseException") = some true)
    (ty_C_InvalidCount : PySem.W.typeIn K (.ref C_InvalidCount) = some (.type "type"))
    (kc_C_InvalidCount : PySem.W.keepIn K (.ref C_InvalidCount) = true)
    (ti_e_InvalidCount : PySem.W.typeIn K (.ref f_x_InvalidCount) = some (.type "function"))
    (nf_e_InvalidCount : PySem.W.findIn K (.ref C_InvalidCount) "given" = some none)
    (ga_e_InvalidCount : PySem.W.findIn K (.ref C_InvalidCount) "__getattribute__" = some (some (.builtin "BaseException.__getattribute__")))
    (gt_e_InvalidCount : PySem.W.findIn K (.ref C_InvalidCount) "__getattr__" = some none)
    (hd_C_InvalidCount : PySem.W.hasDictIn K C_InvalidCount = true)
    (ncl_e_InvalidCount : PySem.W.findIn K (.ref C_InvalidCount) "__class__" = some (some (.builtin "object.__class__")))
    (nmo_e_InvalidCount : PySem.W.mroIn K C_InvalidCount (.type "object") = some true)
    (rv_e_InvalidLines : PySem.HandSPX.refsVE bm_e_InvalidLines = true)
    (sa_e_InvalidLines : PySem.W.findIn K (.ref C_InvalidLines) "__setattr__" = some (some (.builtin "object.__setattr__")))
    (eb_C_InvalidLines : PySem.W.subIn K (.ref C_InvalidLines) (.type "BaseException") = some true)
    (ty_C_InvalidLines : PySem.W.typeIn K (.ref C_InvalidLines) = some (.type "type"))
    (kc_C_InvalidLines : PySem.W.keepIn K (.ref C_InvalidLines) = true)
    (ti_e_InvalidLines : PySem.W.typeIn K (.ref f_x_InvalidLines) = some (.type "function"))
    (nf_e_InvalidLines : PySem.W.findIn K (.ref C_InvalidLines) "given" = some none)
    (ga_e_InvalidLines : PySem.W.findIn K (.ref C_InvalidLines) "__getattribute__" = some (some (.builtin "BaseException.__getattribute__")))
    (gt_e_InvalidLines : PySem.W.findIn K (.ref C_InvalidLines) "__getattr__" = some none)
    (hd_C_InvalidLines : PySem.W.hasDictIn K C_InvalidLines = true)
    (ncl_e_InvalidLines : PySem.W.findIn K (.ref C_InvalidLines) "__class__" = some (some (.builtin "object.__class__")))
    (nmo_e_InvalidLines : PySem.W.mroIn K C_InvalidLines (.type "object") = some true)
    (su_C_InvalidLines_C_InvalidLines : PySem.W.subIn K (.ref C_InvalidLines) (.ref C_InvalidLines) = some true)
    (su_C_InvalidLines_C_UnsaidError : PySem.W.subIn K (.ref C_InvalidLines) (.ref C_UnsaidError) = some true)
    (hd_C_UnsaidError : PySem.W.hasDictIn K C_UnsaidError = true)
    (ty_C_UnsaidError : PySem.W.typeIn K (.ref C_UnsaidError) = some (.type "type"))
    (pg_C_Log : PySem.W.plainGet K C_Log Str.empty = true)
    (hd_C_Log : PySem.W.hasDictIn K C_Log = true)
    (po_C_Log : PySem.W.plainOver K C_Log = true)
    (sa_C_Log : PySem.W.findIn K (.ref C_Log) "__setattr__" = some (some (.builtin "object.__setattr__")))
    (h_na_Log_disk_C_Log : PySem.W.findIn K (.ref C_Log) "disk" = some none)
    (h_na_Log_lines_C_Log : PySem.W.findIn K (.ref C_Log) "_lines" = some none)
    (pg_C_Disk : PySem.W.plainGet K C_Disk Str.empty = true)
    (hd_C_Disk : PySem.W.hasDictIn K C_Disk = true)
    (po_C_Disk : PySem.W.plainOver K C_Disk = true)
    (sa_C_Disk : PySem.W.findIn K (.ref C_Disk) "__setattr__" = some (some (.builtin "object.__setattr__")))
    (h_na_Disk_text_C_Disk : PySem.W.findIn K (.ref C_Disk) "_text" = some none)
    (h_na_Disk_synced_C_Disk : PySem.W.findIn K (.ref C_Disk) "_synced" = some none)
    (gg_p_text : PySem.W.specialIn K (.ref p_p_text) "__get__" = some (some (.builtin "property.__get__")))
    (tt_p_text : PySem.W.takesIn K (.ref p_p_text) = some true)
    (c_p_text : PySem.W.codeIn K cd_p_text "Disk.text" = true)
    (kp_p_text : PySem.W.keepIn K (.ref f_p_text) = true)
    (gg_p_synced : PySem.W.specialIn K (.ref p_p_synced) "__get__" = some (some (.builtin "property.__get__")))
    (tt_p_synced : PySem.W.takesIn K (.ref p_p_synced) = some true)
    (c_p_synced : PySem.W.codeIn K cd_p_synced "Disk.synced" = true)
    (kp_p_synced : PySem.W.keepIn K (.ref f_p_synced) = true)
    (gg_p_lines : PySem.W.specialIn K (.ref p_p_lines) "__get__" = some (some (.builtin "property.__get__")))
    (tt_p_lines : PySem.W.takesIn K (.ref p_p_lines) = some true)
    (c_p_lines : PySem.W.codeIn K cd_p_lines "Log.lines" = true)
    (kp_p_lines : PySem.W.keepIn K (.ref f_p_lines) = true)
    (z_n_abs : PySem.W.nsIn K mainGlobals "abs" = some none)
    (z_n_all : PySem.W.nsIn K mainGlobals "all" = some none)
    (z_n_bool : PySem.W.nsIn K mainGlobals "bool" = some none)
    (z_n_int : PySem.W.nsIn K mainGlobals "int" = some none)
    (z_n_isinstance : PySem.W.nsIn K mainGlobals "isinstance" = some none)
    (z_n_len : PySem.W.nsIn K mainGlobals "len" = some none)
    (z_n_list : PySem.W.nsIn K mainGlobals "list" = some none)
    (z_n_max : PySem.W.nsIn K mainGlobals "max" = some none)
    (z_n_min : PySem.W.nsIn K mainGlobals "min" = some none)
    (z_n_range : PySem.W.nsIn K mainGlobals "range" = some none)
    (z_n_repr : PySem.W.nsIn K mainGlobals "repr" = some none)
    (z_n_str : PySem.W.nsIn K mainGlobals "str" = some none)
    (z_n_sum : PySem.W.nsIn K mainGlobals "sum" = some none)
    (z_n_tuple : PySem.W.nsIn K mainGlobals "tuple" = some none)
    (c_d_is_int : PySem.W.codeIn K cd_d_is_int "is_int" = true)
    (kp_d_is_int : PySem.W.keepIn K (.ref f_d_is_int) = true)
    (c_d_is_count : PySem.W.codeIn K cd_d_is_count "is_count" = true)
    (kp_d_is_count : PySem.W.keepIn K (.ref f_d_is_count) = true)
    (c_d_is_list : PySem.W.codeIn K cd_d_is_list "is_list" = true)
    (kp_d_is_list : PySem.W.keepIn K (.ref f_d_is_list) = true)
    (c_d_is_signs : PySem.W.codeIn K cd_d_is_signs "is_signs" = true)
    (kp_d_is_signs : PySem.W.keepIn K (.ref f_d_is_signs) = true)
    (c_d_is_numeral : PySem.W.codeIn K cd_d_is_numeral "is_numeral" = true)
    (kp_d_is_numeral : PySem.W.keepIn K (.ref f_d_is_numeral) = true)
    (c_d_is_cell : PySem.W.codeIn K cd_d_is_cell "is_cell" = true)
    (kp_d_is_cell : PySem.W.keepIn K (.ref f_d_is_cell) = true)
    (c_d_is_text : PySem.W.codeIn K cd_d_is_text "is_text" = true)
    (kp_d_is_text : PySem.W.keepIn K (.ref f_d_is_text) = true)
    (c_d_is_line : PySem.W.codeIn K cd_d_is_line "is_line" = true)
    (kp_d_is_line : PySem.W.keepIn K (.ref f_d_is_line) = true)
    (c_d_line_text : PySem.W.codeIn K cd_d_line_text "line_text" = true)
    (kp_d_line_text : PySem.W.keepIn K (.ref f_d_line_text) = true)
    (c_d_line_in : PySem.W.codeIn K cd_d_line_in "line_in" = true)
    (kp_d_line_in : PySem.W.keepIn K (.ref f_d_line_in) = true)
    (c_d_are_lines : PySem.W.codeIn K cd_d_are_lines "are_lines" = true)
    (kp_d_are_lines : PySem.W.keepIn K (.ref f_d_are_lines) = true)
    (c_d_framed : PySem.W.codeIn K cd_d_framed "framed" = true)
    (kp_d_framed : PySem.W.keepIn K (.ref f_d_framed) = true)
    (c_d_frames_in : PySem.W.codeIn K cd_d_frames_in "frames_in" = true)
    (kp_d_frames_in : PySem.W.keepIn K (.ref f_d_frames_in) = true)
    (c_d_frame_end : PySem.W.codeIn K cd_d_frame_end "_frame_end" = true)
    (kp_d_frame_end : PySem.W.keepIn K (.ref f_d_frame_end) = true)
    (c_d_Log_init : PySem.W.codeIn K cd_d_Log_init "Log.__init__" = true)
    (kp_d_Log_init : PySem.W.keepIn K (.ref f_d_Log_init) = true)
    (mk_C_Log : PySem.W.makesIn K C_Log = true)
    (i_d_Log_init : PySem.W.isFn K (.ref f_d_Log_init) = true)
    (kc_C_Log : PySem.W.keepIn K (.ref C_Log) = true)
    (i_d_Log___len__ : PySem.W.isFn K (.ref f_d_Log___len__) = true)
    (c_d_Log___len__ : PySem.W.codeIn K cd_d_Log___len__ "Log.__len__" = true)
    (kp_d_Log___len__ : PySem.W.keepIn K (.ref f_d_Log___len__) = true)
    (i_d_Log_put : PySem.W.isFn K (.ref f_d_Log_put) = true)
    (c_d_Log_put : PySem.W.codeIn K cd_d_Log_put "Log.put" = true)
    (kp_d_Log_put : PySem.W.keepIn K (.ref f_d_Log_put) = true)
    (c_d_lines_on : PySem.W.codeIn K cd_d_lines_on "lines_on" = true)
    (kp_d_lines_on : PySem.W.keepIn K (.ref f_d_lines_on) = true)
    (c_d_frames_of : PySem.W.codeIn K cd_d_frames_of "_frames_of" = true)
    (kp_d_frames_of : PySem.W.keepIn K (.ref f_d_frames_of) = true)
    (c_d_Disk_init : PySem.W.codeIn K cd_d_Disk_init "Disk.__init__" = true)
    (kp_d_Disk_init : PySem.W.keepIn K (.ref f_d_Disk_init) = true)
    (mk_C_Disk : PySem.W.makesIn K C_Disk = true)
    (i_d_Disk_init : PySem.W.isFn K (.ref f_d_Disk_init) = true)
    (kc_C_Disk : PySem.W.keepIn K (.ref C_Disk) = true)
    (i_d_Disk_put : PySem.W.isFn K (.ref f_d_Disk_put) = true)
    (c_d_Disk_put : PySem.W.codeIn K cd_d_Disk_put "Disk.put" = true)
    (kp_d_Disk_put : PySem.W.keepIn K (.ref f_d_Disk_put) = true)
    (i_d_Disk_sync : PySem.W.isFn K (.ref f_d_Disk_sync) = true)
    (c_d_Disk_sync : PySem.W.codeIn K cd_d_Disk_sync "Disk.sync" = true)
    (kp_d_Disk_sync : PySem.W.keepIn K (.ref f_d_Disk_sync) = true)
    (i_d_Disk_trim : PySem.W.isFn K (.ref f_d_Disk_trim) = true)
    (c_d_Disk_trim : PySem.W.codeIn K cd_d_Disk_trim "Disk.trim" = true)
    (kp_d_Disk_trim : PySem.W.keepIn K (.ref f_d_Disk_trim) = true)
    (i_d_Disk_fall : PySem.W.isFn K (.ref f_d_Disk_fall) = true)
    (c_d_Disk_fall : PySem.W.codeIn K cd_d_Disk_fall "Disk.fall" = true)
    (kp_d_Disk_fall : PySem.W.keepIn K (.ref f_d_Disk_fall) = true)
    (i_d_Disk_lose : PySem.W.isFn K (.ref f_d_Disk_lose) = true)
    (c_d_Disk_lose : PySem.W.codeIn K cd_d_Disk_lose "Disk.lose" = true)
    (kp_d_Disk_lose : PySem.W.keepIn K (.ref f_d_Disk_lose) = true)
    (i_d_Disk__leave : PySem.W.isFn K (.ref f_d_Disk__leave) = true)
    (c_d_Disk__leave : PySem.W.codeIn K cd_d_Disk__leave "Disk._leave" = true)
    (kp_d_Disk__leave : PySem.W.keepIn K (.ref f_d_Disk__leave) = true)
    (c_d_l_cell : PySem.W.codeIn K cd_d_l_cell "_law_cell" = true)
    (kp_d_l_cell : PySem.W.keepIn K (.ref f_d_l_cell) = true)
    (c_d_l_box : PySem.W.codeIn K cd_d_l_box "_law_box" = true)
    (kp_d_l_box : PySem.W.keepIn K (.ref f_d_l_box) = true)
    (c_d_l_take : PySem.W.codeIn K cd_d_l_take "_law_take" = true)
    (kp_d_l_take : PySem.W.keepIn K (.ref f_d_l_take) = true)
    (c_d_l_letters : PySem.W.codeIn K cd_d_l_letters "_law_letters" = true)
    (kp_d_l_letters : PySem.W.keepIn K (.ref f_d_l_letters) = true)
    (c_d_l_words : PySem.W.codeIn K cd_d_l_words "_law_words" = true)
    (kp_d_l_words : PySem.W.keepIn K (.ref f_d_l_words) = true)
    (c_d_l_line : PySem.W.codeIn K cd_d_l_line "_law_line" = true)
    (kp_d_l_line : PySem.W.keepIn K (.ref f_d_l_line) = true)
    (c_d_l_lines : PySem.W.codeIn K cd_d_l_lines "_law_lines" = true)
    (kp_d_l_lines : PySem.W.keepIn K (.ref f_d_l_lines) = true)
    (c_d_l_text : PySem.W.codeIn K cd_d_l_text "_law_text" = true)
    (kp_d_l_text : PySem.W.keepIn K (.ref f_d_l_text) = true)
    (c_d_l_frame : PySem.W.codeIn K cd_d_l_frame "_law_frame" = true)
    (kp_d_l_frame : PySem.W.keepIn K (.ref f_d_l_frame) = true)
    (c_d_l_file : PySem.W.codeIn K cd_d_l_file "_law_file" = true)
    (kp_d_l_file : PySem.W.keepIn K (.ref f_d_l_file) = true)
    (c_d_l_number : PySem.W.codeIn K cd_d_l_number "_law_number" = true)
    (kp_d_l_number : PySem.W.keepIn K (.ref f_d_l_number) = true)
    (c_d_l_read_line : PySem.W.codeIn K cd_d_l_read_line "_law_read_line" = true)
    (kp_d_l_read_line : PySem.W.keepIn K (.ref f_d_l_read_line) = true)
    (c_d_l_read : PySem.W.codeIn K cd_d_l_read "_law_read" = true)
    (kp_d_l_read : PySem.W.keepIn K (.ref f_d_l_read) = true)
    (c_d_l_near : PySem.W.codeIn K cd_d_l_near "_law_near" = true)
    (kp_d_l_near : PySem.W.keepIn K (.ref f_d_l_near) = true)
    (c_d_l_by_hand : PySem.W.codeIn K cd_d_l_by_hand "_law_by_hand" = true)
    (kp_d_l_by_hand : PySem.W.keepIn K (.ref f_d_l_by_hand) = true)
    (c_d_l_is : PySem.W.codeIn K cd_d_l_is "_law_is" = true)
    (kp_d_l_is : PySem.W.keepIn K (.ref f_d_l_is) = true)
    (c_d_l_open : PySem.W.codeIn K cd_d_l_open "_law_open" = true)
    (kp_d_l_open : PySem.W.keepIn K (.ref f_d_l_open) = true)
    (c_d_l_put : PySem.W.codeIn K cd_d_l_put "_law_put" = true)
    (kp_d_l_put : PySem.W.keepIn K (.ref f_d_l_put) = true)
    (c_d_l_spoilt : PySem.W.codeIn K cd_d_l_spoilt "_law_spoilt" = true)
    (kp_d_l_spoilt : PySem.W.keepIn K (.ref f_d_l_spoilt) = true)
    (c_d_l_odd : PySem.W.codeIn K cd_d_l_odd "_law_odd" = true)
    (kp_d_l_odd : PySem.W.keepIn K (.ref f_d_l_odd) = true)
    (c_d_l_refused : PySem.W.codeIn K cd_d_l_refused "_law_refused" = true)
    (kp_d_l_refused : PySem.W.keepIn K (.ref f_d_l_refused) = true)
    (c_d_l_places : PySem.W.codeIn K cd_d_l_places "_law_places" = true)
    (kp_d_l_places : PySem.W.keepIn K (.ref f_d_l_places) = true)
    (c_d_l_figures : PySem.W.codeIn K cd_d_l_figures "_law_figures" = true)
    (kp_d_l_figures : PySem.W.keepIn K (.ref f_d_l_figures) = true)
    (c_d_l_fallen : PySem.W.codeIn K cd_d_l_fallen "_law_fallen" = true)
    (kp_d_l_fallen : PySem.W.keepIn K (.ref f_d_l_fallen) = true)
    (c_d_l_pieces : PySem.W.codeIn K cd_d_l_pieces "_law_pieces" = true)
    (kp_d_l_pieces : PySem.W.keepIn K (.ref f_d_l_pieces) = true)
    (c_d_l_many_right : PySem.W.codeIn K cd_d_l_many_right "_law_many_right" = true)
    (kp_d_l_many_right : PySem.W.keepIn K (.ref f_d_l_many_right) = true)
    (c_d_l_right : PySem.W.codeIn K cd_d_l_right "_law_right" = true)
    (kp_d_l_right : PySem.W.keepIn K (.ref f_d_l_right) = true)
    (c_d_law : PySem.W.codeIn K cd_d_law "law" = true)
    (kp_d_law : PySem.W.keepIn K (.ref f_d_law) = true) :
    ∃ fd : FuncData, (∀ (s : Shared) (v : Value), BindsTo s fd ⟨[v], []⟩ [("script", v)]) ∧ ∀ base : Heap, K.In base → base.Ns mainGlobals mg → FnG P w K mg base 11 fa fd ["script"] (spLaw K) := by
  have e := hfa.symm.trans (mg_of X G a_d_law)
  cases e
  have F_x_InvalidLine := fun_mk (st := s_InvalidLine_init) l_x_InvalidLine c_x_InvalidLine kp_x_InvalidLine
  have b_x_InvalidLine := F_x_InvalidLine.binds (ps := ["self", "given"]) fun _ _ _ _ _ _ us hl => match us, hl with | [_, _], _ => rfl
  have F_x_InvalidText := fun_mk (st := s_InvalidText_init) l_x_InvalidText c_x_InvalidText kp_x_InvalidText
  have b_x_InvalidText := F_x_InvalidText.binds (ps := ["self", "given"]) fun _ _ _ _ _ _ us hl => match us, hl with | [_, _], _ => rfl
  have F_x_InvalidSigns := fun_mk (st := s_InvalidSigns_init) l_x_InvalidSigns c_x_InvalidSigns kp_x_InvalidSigns
  have b_x_InvalidSigns := F_x_InvalidSigns.binds (ps := ["self", "given"]) fun _ _ _ _ _ _ us hl => match us, hl with | [_, _], _ => rfl
  have F_x_InvalidCount := fun_mk (st := s_InvalidCount_init) l_x_InvalidCount c_x_InvalidCount kp_x_InvalidCount
  have b_x_InvalidCount := F_x_InvalidCount.binds (ps := ["self", "given"]) fun _ _ _ _ _ _ us hl => match us, hl with | [_, _], _ => rfl
  have F_x_InvalidLines := fun_mk (st := s_InvalidLines_init) l_x_InvalidLines c_x_InvalidLines kp_x_InvalidLines
  have b_x_InvalidLines := F_x_InvalidLines.binds (ps := ["self", "given"]) fun _ _ _ _ _ _ us hl => match us, hl with | [_, _], _ => rfl
  have F_p_text := fun_mk (st := s_Disk_text) l_p_text c_p_text kp_p_text
  have b_p_text := F_p_text.binds (ps := ["self"]) fun _ _ _ _ _ _ us hl => match us, hl with | [_], _ => rfl
  have F_p_synced := fun_mk (st := s_Disk_synced) l_p_synced c_p_synced kp_p_synced
  have b_p_synced := F_p_synced.binds (ps := ["self"]) fun _ _ _ _ _ _ us hl => match us, hl with | [_], _ => rfl
  have F_p_lines := fun_mk (st := s_Log_lines) l_p_lines c_p_lines kp_p_lines
  have b_p_lines := F_p_lines.binds (ps := ["self"]) fun _ _ _ _ _ _ us hl => match us, hl with | [_], _ => rfl
  have F_d_is_int := fun_mk (st := s_is_int) l_d_is_int c_d_is_int kp_d_is_int
  have F_d_is_count := fun_mk (st := s_is_count) l_d_is_count c_d_is_count kp_d_is_count
  have F_d_is_list := fun_mk (st := s_is_list) l_d_is_list c_d_is_list kp_d_is_list
  have F_d_is_signs := fun_mk (st := s_is_signs) l_d_is_signs c_d_is_signs kp_d_is_signs
  have F_d_is_numeral := fun_mk (st := s_is_numeral) l_d_is_numeral c_d_is_numeral kp_d_is_numeral
  have F_d_is_cell := fun_mk (st := s_is_cell) l_d_is_cell c_d_is_cell kp_d_is_cell
  have F_d_is_text := fun_mk (st := s_is_text) l_d_is_text c_d_is_text kp_d_is_text
  have F_d_is_line := fun_mk (st := s_is_line) l_d_is_line c_d_is_line kp_d_is_line
  have F_d_line_text := fun_mk (st := s_line_text) l_d_line_text c_d_line_text kp_d_line_text
  have F_d_line_in := fun_mk (st := s_line_in) l_d_line_in c_d_line_in kp_d_line_in
  have F_d_are_lines := fun_mk (st := s_are_lines) l_d_are_lines c_d_are_lines kp_d_are_lines
  have F_d_framed := fun_mk (st := s_framed) l_d_framed c_d_framed kp_d_framed
  have F_d_frames_in := fun_mk (st := s_frames_in) l_d_frames_in c_d_frames_in kp_d_frames_in
  have F_d_frame_end := fun_mk (st := s_frame_end) l_d_frame_end c_d_frame_end kp_d_frame_end
  have F_d_Log_init := fun_mk (st := s_Log_init) l_d_Log_init c_d_Log_init kp_d_Log_init
  have b_d_Log_init := F_d_Log_init.binds (ps := ["self", "disk"]) fun _ _ _ _ _ _ us hl => match us, hl with | [_, _], _ => rfl
  have F_d_Log___len__ := fun_mk (st := s_Log___len__) l_d_Log___len__ c_d_Log___len__ kp_d_Log___len__
  have F_d_Log_put := fun_mk (st := s_Log_put) l_d_Log_put c_d_Log_put kp_d_Log_put
  have F_d_lines_on := fun_mk (st := s_lines_on) l_d_lines_on c_d_lines_on kp_d_lines_on
  have F_d_frames_of := fun_mk (st := s_frames_of) l_d_frames_of c_d_frames_of kp_d_frames_of
  have F_d_Disk_init := fun_mk (st := s_Disk_init) l_d_Disk_init c_d_Disk_init kp_d_Disk_init
  have b_d_Disk_init := F_d_Disk_init.binds (ps := ["self"]) fun _ _ _ _ _ _ us hl => match us, hl with | [_], _ => rfl
  have F_d_Disk_put := fun_mk (st := s_Disk_put) l_d_Disk_put c_d_Disk_put kp_d_Disk_put
  have F_d_Disk_sync := fun_mk (st := s_Disk_sync) l_d_Disk_sync c_d_Disk_sync kp_d_Disk_sync
  have F_d_Disk_trim := fun_mk (st := s_Disk_trim) l_d_Disk_trim c_d_Disk_trim kp_d_Disk_trim
  have F_d_Disk_fall := fun_mk (st := s_Disk_fall) l_d_Disk_fall c_d_Disk_fall kp_d_Disk_fall
  have F_d_Disk_lose := fun_mk (st := s_Disk_lose) l_d_Disk_lose c_d_Disk_lose kp_d_Disk_lose
  have F_d_Disk__leave := fun_mk (st := s_Disk__leave) l_d_Disk__leave c_d_Disk__leave kp_d_Disk__leave
  have F_d_l_cell := fun_mk (st := s_l_cell) l_d_l_cell c_d_l_cell kp_d_l_cell
  have F_d_l_box := fun_mk (st := s_l_box) l_d_l_box c_d_l_box kp_d_l_box
  have F_d_l_take := fun_mk (st := s_l_take) l_d_l_take c_d_l_take kp_d_l_take
  have F_d_l_letters := fun_mk (st := s_l_letters) l_d_l_letters c_d_l_letters kp_d_l_letters
  have F_d_l_words := fun_mk (st := s_l_words) l_d_l_words c_d_l_words kp_d_l_words
  have F_d_l_line := fun_mk (st := s_l_line) l_d_l_line c_d_l_line kp_d_l_line
  have F_d_l_lines := fun_mk (st := s_l_lines) l_d_l_lines c_d_l_lines kp_d_l_lines
  have F_d_l_text := fun_mk (st := s_l_text) l_d_l_text c_d_l_text kp_d_l_text
  have F_d_l_frame := fun_mk (st := s_l_frame) l_d_l_frame c_d_l_frame kp_d_l_frame
  have F_d_l_file := fun_mk (st := s_l_file) l_d_l_file c_d_l_file kp_d_l_file
  have F_d_l_number := fun_mk (st := s_l_number) l_d_l_number c_d_l_number kp_d_l_number
  have F_d_l_read_line := fun_mk (st := s_l_read_line) l_d_l_read_line c_d_l_read_line kp_d_l_read_line
  have F_d_l_read := fun_mk (st := s_l_read) l_d_l_read c_d_l_read kp_d_l_read
  have F_d_l_near := fun_mk (st := s_l_near) l_d_l_near c_d_l_near kp_d_l_near
  have F_d_l_by_hand := fun_mk (st := s_l_by_hand) l_d_l_by_hand c_d_l_by_hand kp_d_l_by_hand
  have F_d_l_is := fun_mk (st := s_l_is) l_d_l_is c_d_l_is kp_d_l_is
  have F_d_l_open := fun_mk (st := s_l_open) l_d_l_open c_d_l_open kp_d_l_open
  have F_d_l_put := fun_mk (st := s_l_put) l_d_l_put c_d_l_put kp_d_l_put
  have F_d_l_spoilt := fun_mk (st := s_l_spoilt) l_d_l_spoilt c_d_l_spoilt kp_d_l_spoilt
  have F_d_l_odd := fun_mk (st := s_l_odd) l_d_l_odd c_d_l_odd kp_d_l_odd
  have F_d_l_refused := fun_mk (st := s_l_refused) l_d_l_refused c_d_l_refused kp_d_l_refused
  have F_d_l_places := fun_mk (st := s_l_places) l_d_l_places c_d_l_places kp_d_l_places
  have F_d_l_figures := fun_mk (st := s_l_figures) l_d_l_figures c_d_l_figures kp_d_l_figures
  have F_d_l_fallen := fun_mk (st := s_l_fallen) l_d_l_fallen c_d_l_fallen kp_d_l_fallen
  have F_d_l_pieces := fun_mk (st := s_l_pieces) l_d_l_pieces c_d_l_pieces kp_d_l_pieces
  have F_d_l_many_right := fun_mk (st := s_l_many_right) l_d_l_many_right c_d_l_many_right kp_d_l_many_right
  have F_d_l_right := fun_mk (st := s_l_right) l_d_l_right c_d_l_right kp_d_l_right
  have F_d_law := fun_mk (st := s_law) l_d_law c_d_law kp_d_law
  let T : Tx K mg := {
    C_InvalidLine := C_InvalidLine,
    C_InvalidText := C_InvalidText,
    C_InvalidSigns := C_InvalidSigns,
    C_InvalidCount := C_InvalidCount,
    C_InvalidLines := C_InvalidLines,
    C_UnsaidError := C_UnsaidError,
    x_InvalidLine := ⟨f_x_InvalidLine, _, F_x_InvalidLine, b_x_InvalidLine, fun us ws h1 h2 => match us, ws, h1, h2 with | [_], [_], _, _ => rfl⟩,
    x_InvalidText := ⟨f_x_InvalidText, _, F_x_InvalidText, b_x_InvalidText, fun us ws h1 h2 => match us, ws, h1, h2 with | [_], [_], _, _ => rfl⟩,
    x_InvalidSigns := ⟨f_x_InvalidSigns, _, F_x_InvalidSigns, b_x_InvalidSigns, fun us ws h1 h2 => match us, ws, h1, h2 with | [_], [_], _, _ => rfl⟩,
    x_InvalidCount := ⟨f_x_InvalidCount, _, F_x_InvalidCount, b_x_InvalidCount, fun us ws h1 h2 => match us, ws, h1, h2 with | [_], [_], _, _ => rfl⟩,
    x_InvalidLines := ⟨f_x_InvalidLines, _, F_x_InvalidLines, b_x_InvalidLines, fun us ws h1 h2 => match us, ws, h1, h2 with | [_], [_], _, _ => rfl⟩,
    e_InvalidLine := ⟨mg_of X G g_e_InvalidLine, ⟨⟨_, _, _, _, _, _, _, _, _, _, _, _, _, _, _, xl_e_InvalidLine, rv_e_InvalidLine⟩, sa_e_InvalidLine, eb_C_InvalidLine, ty_C_InvalidLine, kc_C_InvalidLine⟩, a_x_InvalidLine, ti_e_InvalidLine, nf_e_InvalidLine, ⟨ga_e_InvalidLine, gt_e_InvalidLine, eb_C_InvalidLine, hd_C_InvalidLine, ncl_e_InvalidLine, nsp, ntk, nmo_e_InvalidLine⟩⟩,
    e_InvalidText := ⟨mg_of X G g_e_InvalidText, ⟨⟨_, _, _, _, _, _, _, _, _, _, _, _, _, _, _, xl_e_InvalidText, rv_e_InvalidText⟩, sa_e_InvalidText, eb_C_InvalidText, ty_C_InvalidText, kc_C_InvalidText⟩, a_x_InvalidText, ti_e_InvalidText, nf_e_InvalidText, ⟨ga_e_InvalidText, gt_e_InvalidText, eb_C_InvalidText, hd_C_InvalidText, ncl_e_InvalidText, nsp, ntk, nmo_e_InvalidText⟩⟩,
    e_InvalidSigns := ⟨mg_of X G g_e_InvalidSigns, ⟨⟨_, _, _, _, _, _, _, _, _, _, _, _, _, _, _, xl_e_InvalidSigns, rv_e_InvalidSigns⟩, sa_e_InvalidSigns, eb_C_InvalidSigns, ty_C_InvalidSigns, kc_C_InvalidSigns⟩, a_x_InvalidSigns, ti_e_InvalidSigns, nf_e_InvalidSigns, ⟨ga_e_InvalidSigns, gt_e_InvalidSigns, eb_C_InvalidSigns, hd_C_InvalidSigns, ncl_e_InvalidSigns, nsp, ntk, nmo_e_InvalidSigns⟩⟩,
    e_InvalidCount := ⟨mg_of X G g_e_InvalidCount, ⟨⟨_, _, _, _, _, _, _, _, _, _, _, _, _, _, _, xl_e_InvalidCount, rv_e_InvalidCount⟩, sa_e_InvalidCount, eb_C_InvalidCount, ty_C_InvalidCount, kc_C_InvalidCount⟩, a_x_InvalidCount, ti_e_InvalidCount, nf_e_InvalidCount, ⟨ga_e_InvalidCount, gt_e_InvalidCount, eb_C_InvalidCount, hd_C_InvalidCount, ncl_e_InvalidCount, nsp, ntk, nmo_e_InvalidCount⟩⟩,
    e_InvalidLines := ⟨mg_of X G g_e_InvalidLines, ⟨⟨_, _, _, _, _, _, _, _, _, _, _, _, _, _, _, xl_e_InvalidLines, rv_e_InvalidLines⟩, sa_e_InvalidLines, eb_C_InvalidLines, ty_C_InvalidLines, kc_C_InvalidLines⟩, a_x_InvalidLines, ti_e_InvalidLines, nf_e_InvalidLines, ⟨ga_e_InvalidLines, gt_e_InvalidLines, eb_C_InvalidLines, hd_C_InvalidLines, ncl_e_InvalidLines, nsp, ntk, nmo_e_InvalidLines⟩⟩,
    m_InvalidLine := mg_of X G g_e_InvalidLine,
    m_InvalidText := mg_of X G g_e_InvalidText,
    m_InvalidSigns := mg_of X G g_e_InvalidSigns,
    m_InvalidCount := mg_of X G g_e_InvalidCount,
    m_InvalidLines := mg_of X G g_e_InvalidLines,
    m_UnsaidError := mg_of X G g_m_UnsaidError,
    x_InvalidLines_InvalidLines := PySem.W.exm_ref eb_C_InvalidLines hd_C_InvalidLines ty_C_InvalidLines su_C_InvalidLines_C_InvalidLines,
    i_InvalidLines_UnsaidError := PySem.W.kit_ref hd_C_UnsaidError ty_C_UnsaidError su_C_InvalidLines_C_UnsaidError,
    t_MOST_LETTERS := t_MOST_LETTERS,
    g_MOST_LETTERS := mg_of X G g_g_MOST_LETTERS,
    t_MOST_SIGNS_texts := t_MOST_SIGNS_texts,
    g_MOST_SIGNS_texts := mg_of X G g_g_MOST_SIGNS_texts,
    t_FIGURES := t_FIGURES,
    g_FIGURES := mg_of X G g_g_FIGURES,
    t_MOST_SIGNS_frames := t_MOST_SIGNS_frames,
    g_MOST_SIGNS_frames := mg_of X G g_g_MOST_SIGNS_frames,
    t_END := t_END,
    g_END := mg_of X G g_g_END,
    C_Log := C_Log,
    cl_Log := ⟨pg_C_Log, hd_C_Log, po_C_Log, sa_C_Log⟩,
    m_Log := mg_of X G g_m_Log,
    na_Log_disk := h_na_Log_disk_C_Log,
    na_Log_lines := h_na_Log_lines_C_Log,
    C_Disk := C_Disk,
    cl_Disk := ⟨pg_C_Disk, hd_C_Disk, po_C_Disk, sa_C_Disk⟩,
    m_Disk := mg_of X G g_m_Disk,
    na_Disk_text := h_na_Disk_text_C_Disk,
    na_Disk_synced := h_na_Disk_synced_C_Disk,
    p_text := ⟨p_p_text, f_p_text, _, F_p_text, ⟨a_p_text, gg_p_text, tt_p_text, ⟨_, rr_p_text⟩⟩, b_p_text⟩,
    p_synced := ⟨p_p_synced, f_p_synced, _, F_p_synced, ⟨a_p_synced, gg_p_synced, tt_p_synced, ⟨_, rr_p_synced⟩⟩, b_p_synced⟩,
    p_lines := ⟨p_p_lines, f_p_lines, _, F_p_lines, ⟨a_p_lines, gg_p_lines, tt_p_lines, ⟨_, rr_p_lines⟩⟩, b_p_lines⟩,
    n_abs := mg_none_of X G z_n_abs,
    n_all := mg_none_of X G z_n_all,
    n_bool := mg_none_of X G z_n_bool,
    n_int := mg_none_of X G z_n_int,
    n_isinstance := mg_none_of X G z_n_isinstance,
    n_len := mg_none_of X G z_n_len,
    n_list := mg_none_of X G z_n_list,
    n_max := mg_none_of X G z_n_max,
    n_min := mg_none_of X G z_n_min,
    n_range := mg_none_of X G z_n_range,
    n_repr := mg_none_of X G z_n_repr,
    n_str := mg_none_of X G z_n_str,
    n_sum := mg_none_of X G z_n_sum,
    n_tuple := mg_none_of X G z_n_tuple,
    d_is_int := ⟨f_d_is_int, _, F_d_is_int, mg_of X G a_d_is_int, fun us hl => match us, hl with | [_], _ => rfl, fun us ws h1 h2 => match us, ws, h1, h2 with | [], [_], _, _ => rfl⟩,
    d_is_count := ⟨f_d_is_count, _, F_d_is_count, mg_of X G a_d_is_count, fun us hl => match us, hl with | [_], _ => rfl, fun us ws h1 h2 => match us, ws, h1, h2 with | [], [_], _, _ => rfl⟩,
    d_is_list := ⟨f_d_is_list, _, F_d_is_list, mg_of X G a_d_is_list, fun us hl => match us, hl with | [_], _ => rfl, fun us ws h1 h2 => match us, ws, h1, h2 with | [], [_], _, _ => rfl⟩,
    d_is_signs := ⟨f_d_is_signs, _, F_d_is_signs, mg_of X G a_d_is_signs, fun us hl => match us, hl with | [_], _ => rfl, fun us ws h1 h2 => match us, ws, h1, h2 with | [], [_], _, _ => rfl⟩,
    d_is_numeral := ⟨f_d_is_numeral, _, F_d_is_numeral, mg_of X G a_d_is_numeral, fun us hl => match us, hl with | [_], _ => rfl, fun us ws h1 h2 => match us, ws, h1, h2 with | [], [_], _, _ => rfl⟩,
    d_is_cell := ⟨f_d_is_cell, _, F_d_is_cell, mg_of X G a_d_is_cell, fun us hl => match us, hl with | [_], _ => rfl, fun us ws h1 h2 => match us, ws, h1, h2 with | [], [_], _, _ => rfl⟩,
    d_is_text := ⟨f_d_is_text, _, F_d_is_text, mg_of X G a_d_is_text, fun us hl => match us, hl with | [_], _ => rfl, fun us ws h1 h2 => match us, ws, h1, h2 with | [], [_], _, _ => rfl⟩,
    d_is_line := ⟨f_d_is_line, _, F_d_is_line, mg_of X G a_d_is_line, fun us hl => match us, hl with | [_], _ => rfl, fun us ws h1 h2 => match us, ws, h1, h2 with | [], [_], _, _ => rfl⟩,
    d_line_text := ⟨f_d_line_text, _, F_d_line_text, mg_of X G a_d_line_text, fun us hl => match us, hl with | [_], _ => rfl, fun us ws h1 h2 => match us, ws, h1, h2 with | [], [_], _, _ => rfl⟩,
    d_line_in := ⟨f_d_line_in, _, F_d_line_in, mg_of X G a_d_line_in, fun us hl => match us, hl with | [_], _ => rfl, fun us ws h1 h2 => match us, ws, h1, h2 with | [], [_], _, _ => rfl⟩,
    d_are_lines := ⟨f_d_are_lines, _, F_d_are_lines, mg_of X G a_d_are_lines, fun us hl => match us, hl with | [_], _ => rfl, fun us ws h1 h2 => match us, ws, h1, h2 with | [], [_], _, _ => rfl⟩,
    d_framed := ⟨f_d_framed, _, F_d_framed, mg_of X G a_d_framed, fun us hl => match us, hl with | [_], _ => rfl, fun us ws h1 h2 => match us, ws, h1, h2 with | [], [_], _, _ => rfl⟩,
    d_frames_in := ⟨f_d_frames_in, _, F_d_frames_in, mg_of X G a_d_frames_in, fun us hl => match us, hl with | [_], _ => rfl, fun us ws h1 h2 => match us, ws, h1, h2 with | [], [_], _, _ => rfl⟩,
    d_frame_end := ⟨f_d_frame_end, _, F_d_frame_end, mg_of X G a_d_frame_end, fun us hl => match us, hl with | [_, _], _ => rfl, fun us ws h1 h2 => match us, ws, h1, h2 with | [], [_, _], _, _ => rfl⟩,
    d_Log_init := ⟨f_d_Log_init, _, F_d_Log_init, b_d_Log_init, fun us ws h1 h2 => match us, ws, h1, h2 with | [_], [_], _, _ => rfl⟩,
    k_Log := ⟨mk_C_Log, a_d_Log_init, i_d_Log_init, kc_C_Log⟩,
    d_Log___len__ := ⟨f_d_Log___len__, _, F_d_Log___len__, ⟨a_d_Log___len__, i_d_Log___len__, kp_d_Log___len__⟩, fun us hl => match us, hl with | [_], _ => rfl, fun us ws h1 h2 => match us, ws, h1, h2 with | [_], [], _, _ => rfl⟩,
    d_Log_put := ⟨f_d_Log_put, _, F_d_Log_put, ⟨a_d_Log_put, i_d_Log_put, kp_d_Log_put⟩, fun us hl => match us, hl with | [_, _], _ => rfl, fun us ws h1 h2 => match us, ws, h1, h2 with | [_], [_], _, _ => rfl⟩,
    d_lines_on := ⟨f_d_lines_on, _, F_d_lines_on, mg_of X G a_d_lines_on, fun us hl => match us, hl with | [_], _ => rfl, fun us ws h1 h2 => match us, ws, h1, h2 with | [], [_], _, _ => rfl⟩,
    d_frames_of := ⟨f_d_frames_of, _, F_d_frames_of, mg_of X G a_d_frames_of, fun us hl => match us, hl with | [_], _ => rfl, fun us ws h1 h2 => match us, ws, h1, h2 with | [], [_], _, _ => rfl⟩,
    d_Disk_init := ⟨f_d_Disk_init, _, F_d_Disk_init, b_d_Disk_init, fun us ws h1 h2 => match us, ws, h1, h2 with | [_], [], _, _ => rfl⟩,
    k_Disk := ⟨mk_C_Disk, a_d_Disk_init, i_d_Disk_init, kc_C_Disk⟩,
    d_Disk_put := ⟨f_d_Disk_put, _, F_d_Disk_put, ⟨a_d_Disk_put, i_d_Disk_put, kp_d_Disk_put⟩, fun us hl => match us, hl with | [_, _], _ => rfl, fun us ws h1 h2 => match us, ws, h1, h2 with | [_], [_], _, _ => rfl⟩,
    d_Disk_sync := ⟨f_d_Disk_sync, _, F_d_Disk_sync, ⟨a_d_Disk_sync, i_d_Disk_sync, kp_d_Disk_sync⟩, fun us hl => match us, hl with | [_], _ => rfl, fun us ws h1 h2 => match us, ws, h1, h2 with | [_], [], _, _ => rfl⟩,
    d_Disk_trim := ⟨f_d_Disk_trim, _, F_d_Disk_trim, ⟨a_d_Disk_trim, i_d_Disk_trim, kp_d_Disk_trim⟩, fun us hl => match us, hl with | [_, _], _ => rfl, fun us ws h1 h2 => match us, ws, h1, h2 with | [_], [_], _, _ => rfl⟩,
    d_Disk_fall := ⟨f_d_Disk_fall, _, F_d_Disk_fall, ⟨a_d_Disk_fall, i_d_Disk_fall, kp_d_Disk_fall⟩, fun us hl => match us, hl with | [_, _], _ => rfl, fun us ws h1 h2 => match us, ws, h1, h2 with | [_], [_], _, _ => rfl⟩,
    d_Disk_lose := ⟨f_d_Disk_lose, _, F_d_Disk_lose, ⟨a_d_Disk_lose, i_d_Disk_lose, kp_d_Disk_lose⟩, fun us hl => match us, hl with | [_, _], _ => rfl, fun us ws h1 h2 => match us, ws, h1, h2 with | [_], [_], _, _ => rfl⟩,
    d_Disk__leave := ⟨f_d_Disk__leave, _, F_d_Disk__leave, ⟨a_d_Disk__leave, i_d_Disk__leave, kp_d_Disk__leave⟩, fun us hl => match us, hl with | [_, _], _ => rfl, fun us ws h1 h2 => match us, ws, h1, h2 with | [_], [_], _, _ => rfl⟩,
    d_l_cell := ⟨f_d_l_cell, _, F_d_l_cell, mg_of X G a_d_l_cell, fun us hl => match us, hl with | [_, _], _ => rfl, fun us ws h1 h2 => match us, ws, h1, h2 with | [], [_, _], _, _ => rfl⟩,
    d_l_box := ⟨f_d_l_box, _, F_d_l_box, mg_of X G a_d_l_box, fun us hl => match us, hl with | [_], _ => rfl, fun us ws h1 h2 => match us, ws, h1, h2 with | [], [_], _, _ => rfl⟩,
    d_l_take := ⟨f_d_l_take, _, F_d_l_take, mg_of X G a_d_l_take, fun us hl => match us, hl with | [_, _], _ => rfl, fun us ws h1 h2 => match us, ws, h1, h2 with | [], [_, _], _, _ => rfl⟩,
    d_l_letters := ⟨f_d_l_letters, _, F_d_l_letters, mg_of X G a_d_l_letters, fun us hl => match us, hl with | [_], _ => rfl, fun us ws h1 h2 => match us, ws, h1, h2 with | [], [_], _, _ => rfl⟩,
    d_l_words := ⟨f_d_l_words, _, F_d_l_words, mg_of X G a_d_l_words, fun us hl => match us, hl with | [_], _ => rfl, fun us ws h1 h2 => match us, ws, h1, h2 with | [], [_], _, _ => rfl⟩,
    d_l_line := ⟨f_d_l_line, _, F_d_l_line, mg_of X G a_d_l_line, fun us hl => match us, hl with | [_, _], _ => rfl, fun us ws h1 h2 => match us, ws, h1, h2 with | [], [_, _], _, _ => rfl⟩,
    d_l_lines := ⟨f_d_l_lines, _, F_d_l_lines, mg_of X G a_d_l_lines, fun us hl => match us, hl with | [_, _], _ => rfl, fun us ws h1 h2 => match us, ws, h1, h2 with | [], [_, _], _, _ => rfl⟩,
    d_l_text := ⟨f_d_l_text, _, F_d_l_text, mg_of X G a_d_l_text, fun us hl => match us, hl with | [_], _ => rfl, fun us ws h1 h2 => match us, ws, h1, h2 with | [], [_], _, _ => rfl⟩,
    d_l_frame := ⟨f_d_l_frame, _, F_d_l_frame, mg_of X G a_d_l_frame, fun us hl => match us, hl with | [_], _ => rfl, fun us ws h1 h2 => match us, ws, h1, h2 with | [], [_], _, _ => rfl⟩,
    d_l_file := ⟨f_d_l_file, _, F_d_l_file, mg_of X G a_d_l_file, fun us hl => match us, hl with | [_], _ => rfl, fun us ws h1 h2 => match us, ws, h1, h2 with | [], [_], _, _ => rfl⟩,
    d_l_number := ⟨f_d_l_number, _, F_d_l_number, mg_of X G a_d_l_number, fun us hl => match us, hl with | [_], _ => rfl, fun us ws h1 h2 => match us, ws, h1, h2 with | [], [_], _, _ => rfl⟩,
    d_l_read_line := ⟨f_d_l_read_line, _, F_d_l_read_line, mg_of X G a_d_l_read_line, fun us hl => match us, hl with | [_], _ => rfl, fun us ws h1 h2 => match us, ws, h1, h2 with | [], [_], _, _ => rfl⟩,
    d_l_read := ⟨f_d_l_read, _, F_d_l_read, mg_of X G a_d_l_read, fun us hl => match us, hl with | [_], _ => rfl, fun us ws h1 h2 => match us, ws, h1, h2 with | [], [_], _, _ => rfl⟩,
    d_l_near := ⟨f_d_l_near, _, F_d_l_near, mg_of X G a_d_l_near, fun us hl => match us, hl with | [_, _], _ => rfl, fun us ws h1 h2 => match us, ws, h1, h2 with | [], [_, _], _, _ => rfl⟩,
    d_l_by_hand := ⟨f_d_l_by_hand, _, F_d_l_by_hand, mg_of X G a_d_l_by_hand, fun us hl => match us, hl with | [_], _ => rfl, fun us ws h1 h2 => match us, ws, h1, h2 with | [], [_], _, _ => rfl⟩,
    d_l_is := ⟨f_d_l_is, _, F_d_l_is, mg_of X G a_d_l_is, fun us hl => match us, hl with | [_, _, _], _ => rfl, fun us ws h1 h2 => match us, ws, h1, h2 with | [], [_, _, _], _, _ => rfl⟩,
    d_l_open := ⟨f_d_l_open, _, F_d_l_open, mg_of X G a_d_l_open, fun us hl => match us, hl with | [_, _, _, _], _ => rfl, fun us ws h1 h2 => match us, ws, h1, h2 with | [], [_, _, _, _], _, _ => rfl⟩,
    d_l_put := ⟨f_d_l_put, _, F_d_l_put, mg_of X G a_d_l_put, fun us hl => match us, hl with | [_, _, _, _], _ => rfl, fun us ws h1 h2 => match us, ws, h1, h2 with | [], [_, _, _, _], _, _ => rfl⟩,
    d_l_spoilt := ⟨f_d_l_spoilt, _, F_d_l_spoilt, mg_of X G a_d_l_spoilt, fun us hl => match us, hl with | [_, _], _ => rfl, fun us ws h1 h2 => match us, ws, h1, h2 with | [], [_, _], _, _ => rfl⟩,
    d_l_odd := ⟨f_d_l_odd, _, F_d_l_odd, mg_of X G a_d_l_odd, fun us hl => match us, hl with | [_, _], _ => rfl, fun us ws h1 h2 => match us, ws, h1, h2 with | [], [_, _], _, _ => rfl⟩,
    d_l_refused := ⟨f_d_l_refused, _, F_d_l_refused, mg_of X G a_d_l_refused, fun us hl => match us, hl with | [_, _, _], _ => rfl, fun us ws h1 h2 => match us, ws, h1, h2 with | [], [_, _, _], _, _ => rfl⟩,
    d_l_places := ⟨f_d_l_places, _, F_d_l_places, mg_of X G a_d_l_places, fun us hl => match us, hl with | [_, _], _ => rfl, fun us ws h1 h2 => match us, ws, h1, h2 with | [], [_, _], _, _ => rfl⟩,
    d_l_figures := ⟨f_d_l_figures, _, F_d_l_figures, mg_of X G a_d_l_figures, fun us hl => match us, hl with | [_], _ => rfl, fun us ws h1 h2 => match us, ws, h1, h2 with | [], [_], _, _ => rfl⟩,
    d_l_fallen := ⟨f_d_l_fallen, _, F_d_l_fallen, mg_of X G a_d_l_fallen, fun us hl => match us, hl with | [_, _, _, _], _ => rfl, fun us ws h1 h2 => match us, ws, h1, h2 with | [], [_, _, _, _], _, _ => rfl⟩,
    d_l_pieces := ⟨f_d_l_pieces, _, F_d_l_pieces, mg_of X G a_d_l_pieces, fun us hl => match us, hl with | [_, _, _, _, _], _ => rfl, fun us ws h1 h2 => match us, ws, h1, h2 with | [], [_, _, _, _, _], _, _ => rfl⟩,
    d_l_many_right := ⟨f_d_l_many_right, _, F_d_l_many_right, mg_of X G a_d_l_many_right, fun us hl => match us, hl with | [_], _ => rfl, fun us ws h1 h2 => match us, ws, h1, h2 with | [], [_], _, _ => rfl⟩,
    d_l_right := ⟨f_d_l_right, _, F_d_l_right, mg_of X G a_d_l_right, fun us hl => match us, hl with | [_], _ => rfl, fun us ws h1 h2 => match us, ws, h1, h2 with | [], [_], _, _ => rfl⟩,
    d_law := ⟨fa, _, F_d_law, mg_of X G a_d_law, fun us hl => match us, hl with | [_], _ => rfl, fun us ws h1 h2 => match us, ws, h1, h2 with | [], [_], _, _ => rfl⟩ }
  exact ⟨_, fun s v => .of_eq rfl, fun base _ _ => ok_law T⟩
end K06

open PySem PySem.W PyProof.Rows
set_option maxRecDepth 100000 in
set_option maxHeartbeats 0 in
theorem PySem.Challenge.cw_neverunsaid_k06_whole_logs_behind_falls_holds : PySem.Challenge.rw_neverunsaid_k06_whole_logs_behind_falls.Holds := by
  w_on; o_law; k_head; (case hw => w_witness2)
  k_fill
  refine Nv.walkG (l := PySem.Challenge.rw_neverunsaid_k06_whole_logs_behind_falls) (n := 63) (k := 11) (x := "script") (sp := K06.spLaw) rfl (by decide) rfl ⟨rfl, by decide, by decide⟩ (fun w h Y => PySem.W.kIn_of Y) ?F ?S
  case F =>
    intro w mg fa h KX G hmg
    refine' K06.all_mk KX G hmg ?g_e_InvalidLine ?g_e_InvalidText ?g_e_InvalidSigns ?g_e_InvalidCount ?g_e_InvalidLines ?g_m_UnsaidError ?g_g_MOST_LETTERS ?g_g_MOST_SIGNS_texts ?g_g_FIGURES ?g_g_MOST_SIGNS_frames ?g_g_END ?g_m_Log ?g_m_Disk ?a_x_InvalidLine ?a_x_InvalidText ?a_x_InvalidSigns ?a_x_InvalidCount ?a_x_InvalidLines ?a_p_text ?a_p_synced ?a_p_lines ?a_d_is_int ?a_d_is_count ?a_d_is_list ?a_d_is_signs ?a_d_is_numeral ?a_d_is_cell ?a_d_is_text ?a_d_is_line ?a_d_line_text ?a_d_line_in ?a_d_are_lines ?a_d_framed ?a_d_frames_in ?a_d_frame_end ?a_d_Log_init ?a_d_Log___len__ ?a_d_Log_put ?a_d_lines_on ?a_d_frames_of ?a_d_Disk_init ?a_d_Disk_put ?a_d_Disk_sync ?a_d_Disk_trim ?a_d_Disk_fall ?a_d_Disk_lose ?a_d_Disk__leave ?a_d_l_cell ?a_d_l_box ?a_d_l_take ?a_d_l_letters ?a_d_l_words ?a_d_l_line ?a_d_l_lines ?a_d_l_text ?a_d_l_frame ?a_d_l_file ?a_d_l_number ?a_d_l_read_line ?a_d_l_read ?a_d_l_near ?a_d_l_by_hand ?a_d_l_is ?a_d_l_open ?a_d_l_put ?a_d_l_spoilt ?a_d_l_odd ?a_d_l_refused ?a_d_l_places ?a_d_l_figures ?a_d_l_fallen ?a_d_l_pieces ?a_d_l_many_right ?a_d_l_right ?a_d_law ?rr_p_text ?rr_p_synced ?rr_p_lines ?l_x_InvalidLine ?l_x_InvalidText ?l_x_InvalidSigns ?l_x_InvalidCount ?l_x_InvalidLines ?l_p_text ?l_p_synced ?l_p_lines ?l_d_is_int ?l_d_is_count ?l_d_is_list ?l_d_is_signs ?l_d_is_numeral ?l_d_is_cell ?l_d_is_text ?l_d_is_line ?l_d_line_text ?l_d_line_in ?l_d_are_lines ?l_d_framed ?l_d_frames_in ?l_d_frame_end ?l_d_Log_init ?l_d_Log___len__ ?l_d_Log_put ?l_d_lines_on ?l_d_frames_of ?l_d_Disk_init ?l_d_Disk_put ?l_d_Disk_sync ?l_d_Disk_trim ?l_d_Disk_fall ?l_d_Disk_lose ?l_d_Disk__leave ?l_d_l_cell ?l_d_l_box ?l_d_l_take ?l_d_l_letters ?l_d_l_words ?l_d_l_line ?l_d_l_lines ?l_d_l_text ?l_d_l_frame ?l_d_l_file ?l_d_l_number ?l_d_l_read_line ?l_d_l_read ?l_d_l_near ?l_d_l_by_hand ?l_d_l_is ?l_d_l_open ?l_d_l_put ?l_d_l_spoilt ?l_d_l_odd ?l_d_l_refused ?l_d_l_places ?l_d_l_figures ?l_d_l_fallen ?l_d_l_pieces ?l_d_l_many_right ?l_d_l_right ?l_d_law ?xl_e_InvalidLine ?xl_e_InvalidText ?xl_e_InvalidSigns ?xl_e_InvalidCount ?xl_e_InvalidLines ?c_x_InvalidLine ?kp_x_InvalidLine ?c_x_InvalidText ?kp_x_InvalidText ?c_x_InvalidSigns ?kp_x_InvalidSigns ?c_x_InvalidCount ?kp_x_InvalidCount ?c_x_InvalidLines ?kp_x_InvalidLines ?rv_e_InvalidLine ?sa_e_InvalidLine ?eb_C_InvalidLine ?ty_C_InvalidLine ?kc_C_InvalidLine ?ti_e_InvalidLine ?nf_e_InvalidLine ?ga_e_InvalidLine ?gt_e_InvalidLine ?hd_C_InvalidLine ?ncl_e_InvalidLine ?nsp ?ntk ?nmo_e_InvalidLine ?rv_e_InvalidText ?sa_e_InvalidText ?eb_C_InvalidText ?ty_C_InvalidText ?kc_C_InvalidText ?ti_e_InvalidText ?nf_e_InvalidText ?ga_e_InvalidText ?gt_e_InvalidText ?hd_C_InvalidText ?ncl_e_InvalidText ?nmo_e_InvalidText ?rv_e_InvalidSigns ?sa_e_InvalidSigns ?eb_C_InvalidSigns ?ty_C_InvalidSigns ?kc_C_InvalidSigns ?ti_e_InvalidSigns ?nf_e_InvalidSigns ?ga_e_InvalidSigns ?gt_e_InvalidSigns ?hd_C_InvalidSigns ?ncl_e_InvalidSigns ?nmo_e_InvalidSigns ?rv_e_InvalidCount ?sa_e_InvalidCount ?eb_C_InvalidCount ?ty_C_InvalidCount ?kc_C_InvalidCount ?ti_e_InvalidCount ?nf_e_InvalidCount ?ga_e_InvalidCount ?gt_e_InvalidCount ?hd_C_InvalidCount ?ncl_e_InvalidCount ?nmo_e_InvalidCount ?rv_e_InvalidLines ?sa_e_InvalidLines ?eb_C_InvalidLines ?ty_C_InvalidLines ?kc_C_InvalidLines ?ti_e_InvalidLines ?nf_e_InvalidLines ?ga_e_InvalidLines ?gt_e_InvalidLines ?hd_C_InvalidLines ?ncl_e_InvalidLines ?nmo_e_InvalidLines ?su_C_InvalidLines_C_InvalidLines ?su_C_InvalidLines_C_UnsaidError ?hd_C_UnsaidError ?ty_C_UnsaidError ?pg_C_Log ?hd_C_Log ?po_C_Log ?sa_C_Log ?h_na_Log_disk_C_Log ?h_na_Log_lines_C_Log ?pg_C_Disk ?hd_C_Disk ?po_C_Disk ?sa_C_Disk ?h_na_Disk_text_C_Disk ?h_na_Disk_synced_C_Disk ?gg_p_text ?tt_p_text ?c_p_text ?kp_p_text ?gg_p_synced ?tt_p_synced ?c_p_synced ?kp_p_synced ?gg_p_lines ?tt_p_lines ?c_p_lines ?kp_p_lines ?z_n_abs ?z_n_all ?z_n_bool ?z_n_int ?z_n_isinstance ?z_n_len ?z_n_list ?z_n_max ?z_n_min ?z_n_range ?z_n_repr ?z_n_str ?z_n_sum ?z_n_tuple ?c_d_is_int ?kp_d_is_int ?c_d_is_count ?kp_d_is_count ?c_d_is_list ?kp_d_is_list ?c_d_is_signs ?kp_d_is_signs ?c_d_is_numeral ?kp_d_is_numeral ?c_d_is_cell ?kp_d_is_cell ?c_d_is_text ?kp_d_is_text ?c_d_is_line ?kp_d_is_line ?c_d_line_text ?kp_d_line_text ?c_d_line_in ?kp_d_line_in ?c_d_are_lines ?kp_d_are_lines ?c_d_framed ?kp_d_framed ?c_d_frames_in ?kp_d_frames_in ?c_d_frame_end ?kp_d_frame_end ?c_d_Log_init ?kp_d_Log_init ?mk_C_Log ?i_d_Log_init ?kc_C_Log ?i_d_Log___len__ ?c_d_Log___len__ ?kp_d_Log___len__ ?i_d_Log_put ?c_d_Log_put ?kp_d_Log_put ?c_d_lines_on ?kp_d_lines_on ?c_d_frames_of ?kp_d_frames_of ?c_d_Disk_init ?kp_d_Disk_init ?mk_C_Disk ?i_d_Disk_init ?kc_C_Disk ?i_d_Disk_put ?c_d_Disk_put ?kp_d_Disk_put ?i_d_Disk_sync ?c_d_Disk_sync ?kp_d_Disk_sync ?i_d_Disk_trim ?c_d_Disk_trim ?kp_d_Disk_trim ?i_d_Disk_fall ?c_d_Disk_fall ?kp_d_Disk_fall ?i_d_Disk_lose ?c_d_Disk_lose ?kp_d_Disk_lose ?i_d_Disk__leave ?c_d_Disk__leave ?kp_d_Disk__leave ?c_d_l_cell ?kp_d_l_cell ?c_d_l_box ?kp_d_l_box ?c_d_l_take ?kp_d_l_take ?c_d_l_letters ?kp_d_l_letters ?c_d_l_words ?kp_d_l_words ?c_d_l_line ?kp_d_l_line ?c_d_l_lines ?kp_d_l_lines ?c_d_l_text ?kp_d_l_text ?c_d_l_frame ?kp_d_l_frame ?c_d_l_file ?kp_d_l_file ?c_d_l_number ?kp_d_l_number ?c_d_l_read_line ?kp_d_l_read_line ?c_d_l_read ?kp_d_l_read ?c_d_l_near ?kp_d_l_near ?c_d_l_by_hand ?kp_d_l_by_hand ?c_d_l_is ?kp_d_l_is ?c_d_l_open ?kp_d_l_open ?c_d_l_put ?kp_d_l_put ?c_d_l_spoilt ?kp_d_l_spoilt ?c_d_l_odd ?kp_d_l_odd ?c_d_l_refused ?kp_d_l_refused ?c_d_l_places ?kp_d_l_places ?c_d_l_figures ?kp_d_l_figures ?c_d_l_fallen ?kp_d_l_fallen ?c_d_l_pieces ?kp_d_l_pieces ?c_d_l_many_right ?kp_d_l_many_right ?c_d_l_right ?kp_d_l_right ?c_d_law ?kp_d_law
    (case g_e_InvalidLine => k_is)
    (case g_e_InvalidText => k_is)
    (case g_e_InvalidSigns => k_is)
    (case g_e_InvalidCount => k_is)
    (case g_e_InvalidLines => k_is)
    (case g_m_UnsaidError => k_is)
    (case g_g_MOST_LETTERS => k_is)
    (case g_g_MOST_SIGNS_texts => k_is)
    (case g_g_FIGURES => k_is)
    (case g_g_MOST_SIGNS_frames => k_is)
    (case g_g_END => k_is)
    (case g_m_Log => k_is)
    (case g_m_Disk => k_is)
    (case a_x_InvalidLine => k_is)
    (case a_x_InvalidText => k_is)
    (case a_x_InvalidSigns => k_is)
    (case a_x_InvalidCount => k_is)
    (case a_x_InvalidLines => k_is)
    (case a_p_text => k_is)
    (case a_p_synced => k_is)
    (case a_p_lines => k_is)
    (case a_d_is_int => k_is)
    (case a_d_is_count => k_is)
    (case a_d_is_list => k_is)
    (case a_d_is_signs => k_is)
    (case a_d_is_numeral => k_is)
    (case a_d_is_cell => k_is)
    (case a_d_is_text => k_is)
    (case a_d_is_line => k_is)
    (case a_d_line_text => k_is)
    (case a_d_line_in => k_is)
    (case a_d_are_lines => k_is)
    (case a_d_framed => k_is)
    (case a_d_frames_in => k_is)
    (case a_d_frame_end => k_is)
    (case a_d_Log_init => k_is)
    (case a_d_Log___len__ => k_is)
    (case a_d_Log_put => k_is)
    (case a_d_lines_on => k_is)
    (case a_d_frames_of => k_is)
    (case a_d_Disk_init => k_is)
    (case a_d_Disk_put => k_is)
    (case a_d_Disk_sync => k_is)
    (case a_d_Disk_trim => k_is)
    (case a_d_Disk_fall => k_is)
    (case a_d_Disk_lose => k_is)
    (case a_d_Disk__leave => k_is)
    (case a_d_l_cell => k_is)
    (case a_d_l_box => k_is)
    (case a_d_l_take => k_is)
    (case a_d_l_letters => k_is)
    (case a_d_l_words => k_is)
    (case a_d_l_line => k_is)
    (case a_d_l_lines => k_is)
    (case a_d_l_text => k_is)
    (case a_d_l_frame => k_is)
    (case a_d_l_file => k_is)
    (case a_d_l_number => k_is)
    (case a_d_l_read_line => k_is)
    (case a_d_l_read => k_is)
    (case a_d_l_near => k_is)
    (case a_d_l_by_hand => k_is)
    (case a_d_l_is => k_is)
    (case a_d_l_open => k_is)
    (case a_d_l_put => k_is)
    (case a_d_l_spoilt => k_is)
    (case a_d_l_odd => k_is)
    (case a_d_l_refused => k_is)
    (case a_d_l_places => k_is)
    (case a_d_l_figures => k_is)
    (case a_d_l_fallen => k_is)
    (case a_d_l_pieces => k_is)
    (case a_d_l_many_right => k_is)
    (case a_d_l_right => k_is)
    (case a_d_law => k_is)
    (case rr_p_text => k_is)
    (case rr_p_synced => k_is)
    (case rr_p_lines => k_is)
    (case l_x_InvalidLine => k_is)
    (case l_x_InvalidText => k_is)
    (case l_x_InvalidSigns => k_is)
    (case l_x_InvalidCount => k_is)
    (case l_x_InvalidLines => k_is)
    (case l_p_text => k_is)
    (case l_p_synced => k_is)
    (case l_p_lines => k_is)
    (case l_d_is_int => k_is)
    (case l_d_is_count => k_is)
    (case l_d_is_list => k_is)
    (case l_d_is_signs => k_is)
    (case l_d_is_numeral => k_is)
    (case l_d_is_cell => k_is)
    (case l_d_is_text => k_is)
    (case l_d_is_line => k_is)
    (case l_d_line_text => k_is)
    (case l_d_line_in => k_is)
    (case l_d_are_lines => k_is)
    (case l_d_framed => k_is)
    (case l_d_frames_in => k_is)
    (case l_d_frame_end => k_is)
    (case l_d_Log_init => k_is)
    (case l_d_Log___len__ => k_is)
    (case l_d_Log_put => k_is)
    (case l_d_lines_on => k_is)
    (case l_d_frames_of => k_is)
    (case l_d_Disk_init => k_is)
    (case l_d_Disk_put => k_is)
    (case l_d_Disk_sync => k_is)
    (case l_d_Disk_trim => k_is)
    (case l_d_Disk_fall => k_is)
    (case l_d_Disk_lose => k_is)
    (case l_d_Disk__leave => k_is)
    (case l_d_l_cell => k_is)
    (case l_d_l_box => k_is)
    (case l_d_l_take => k_is)
    (case l_d_l_letters => k_is)
    (case l_d_l_words => k_is)
    (case l_d_l_line => k_is)
    (case l_d_l_lines => k_is)
    (case l_d_l_text => k_is)
    (case l_d_l_frame => k_is)
    (case l_d_l_file => k_is)
    (case l_d_l_number => k_is)
    (case l_d_l_read_line => k_is)
    (case l_d_l_read => k_is)
    (case l_d_l_near => k_is)
    (case l_d_l_by_hand => k_is)
    (case l_d_l_is => k_is)
    (case l_d_l_open => k_is)
    (case l_d_l_put => k_is)
    (case l_d_l_spoilt => k_is)
    (case l_d_l_odd => k_is)
    (case l_d_l_refused => k_is)
    (case l_d_l_places => k_is)
    (case l_d_l_figures => k_is)
    (case l_d_l_fallen => k_is)
    (case l_d_l_pieces => k_is)
    (case l_d_l_many_right => k_is)
    (case l_d_l_right => k_is)
    (case l_d_law => k_is)
    (case xl_e_InvalidLine => k_is)
    (case xl_e_InvalidText => k_is)
    (case xl_e_InvalidSigns => k_is)
    (case xl_e_InvalidCount => k_is)
    (case xl_e_InvalidLines => k_is)
    (case c_x_InvalidLine => k_is)
    (case kp_x_InvalidLine => k_is)
    (case c_x_InvalidText => k_is)
    (case kp_x_InvalidText => k_is)
    (case c_x_InvalidSigns => k_is)
    (case kp_x_InvalidSigns => k_is)
    (case c_x_InvalidCount => k_is)
    (case kp_x_InvalidCount => k_is)
    (case c_x_InvalidLines => k_is)
    (case kp_x_InvalidLines => k_is)
    (case rv_e_InvalidLine => decide +kernel)
    (case sa_e_InvalidLine => k_is)
    (case eb_C_InvalidLine => k_is)
    (case ty_C_InvalidLine => k_is)
    (case kc_C_InvalidLine => k_is)
    (case ti_e_InvalidLine => k_is)
    (case nf_e_InvalidLine => k_is)
    (case ga_e_InvalidLine => k_is)
    (case gt_e_InvalidLine => k_is)
    (case hd_C_InvalidLine => k_is)
    (case ncl_e_InvalidLine => k_is)
    (case nsp => k_is)
    (case ntk => k_is)
    (case nmo_e_InvalidLine => k_is)
    (case rv_e_InvalidText => decide +kernel)
    (case sa_e_InvalidText => k_is)
    (case eb_C_InvalidText => k_is)
    (case ty_C_InvalidText => k_is)
    (case kc_C_InvalidText => k_is)
    (case ti_e_InvalidText => k_is)
    (case nf_e_InvalidText => k_is)
    (case ga_e_InvalidText => k_is)
    (case gt_e_InvalidText => k_is)
    (case hd_C_InvalidText => k_is)
    (case ncl_e_InvalidText => k_is)
    (case nmo_e_InvalidText => k_is)
    (case rv_e_InvalidSigns => decide +kernel)
    (case sa_e_InvalidSigns => k_is)
    (case eb_C_InvalidSigns => k_is)
    (case ty_C_InvalidSigns => k_is)
    (case kc_C_InvalidSigns => k_is)
    (case ti_e_InvalidSigns => k_is)
    (case nf_e_InvalidSigns => k_is)
    (case ga_e_InvalidSigns => k_is)
    (case gt_e_InvalidSigns => k_is)
    (case hd_C_InvalidSigns => k_is)
    (case ncl_e_InvalidSigns => k_is)
    (case nmo_e_InvalidSigns => k_is)
    (case rv_e_InvalidCount => decide +kernel)
    (case sa_e_InvalidCount => k_is)
    (case eb_C_InvalidCount => k_is)
    (case ty_C_InvalidCount => k_is)
    (case kc_C_InvalidCount => k_is)
    (case ti_e_InvalidCount => k_is)
    (case nf_e_InvalidCount => k_is)
    (case ga_e_InvalidCount => k_is)
    (case gt_e_InvalidCount => k_is)
    (case hd_C_InvalidCount => k_is)
    (case ncl_e_InvalidCount => k_is)
    (case nmo_e_InvalidCount => k_is)
    (case rv_e_InvalidLines => decide +kernel)
    (case sa_e_InvalidLines => k_is)
    (case eb_C_InvalidLines => k_is)
    (case ty_C_InvalidLines => k_is)
    (case kc_C_InvalidLines => k_is)
    (case ti_e_InvalidLines => k_is)
    (case nf_e_InvalidLines => k_is)
    (case ga_e_InvalidLines => k_is)
    (case gt_e_InvalidLines => k_is)
    (case hd_C_InvalidLines => k_is)
    (case ncl_e_InvalidLines => k_is)
    (case nmo_e_InvalidLines => k_is)
    (case su_C_InvalidLines_C_InvalidLines => k_is)
    (case su_C_InvalidLines_C_UnsaidError => k_is)
    (case hd_C_UnsaidError => k_is)
    (case ty_C_UnsaidError => k_is)
    (case pg_C_Log => k_is)
    (case hd_C_Log => k_is)
    (case po_C_Log => k_is)
    (case sa_C_Log => k_is)
    (case h_na_Log_disk_C_Log => k_is)
    (case h_na_Log_lines_C_Log => k_is)
    (case pg_C_Disk => k_is)
    (case hd_C_Disk => k_is)
    (case po_C_Disk => k_is)
    (case sa_C_Disk => k_is)
    (case h_na_Disk_text_C_Disk => k_is)
    (case h_na_Disk_synced_C_Disk => k_is)
    (case gg_p_text => k_is)
    (case tt_p_text => k_is)
    (case c_p_text => k_is)
    (case kp_p_text => k_is)
    (case gg_p_synced => k_is)
    (case tt_p_synced => k_is)
    (case c_p_synced => k_is)
    (case kp_p_synced => k_is)
    (case gg_p_lines => k_is)
    (case tt_p_lines => k_is)
    (case c_p_lines => k_is)
    (case kp_p_lines => k_is)
    (case z_n_abs => k_is)
    (case z_n_all => k_is)
    (case z_n_bool => k_is)
    (case z_n_int => k_is)
    (case z_n_isinstance => k_is)
    (case z_n_len => k_is)
    (case z_n_list => k_is)
    (case z_n_max => k_is)
    (case z_n_min => k_is)
    (case z_n_range => k_is)
    (case z_n_repr => k_is)
    (case z_n_str => k_is)
    (case z_n_sum => k_is)
    (case z_n_tuple => k_is)
    (case c_d_is_int => k_is)
    (case kp_d_is_int => k_is)
    (case c_d_is_count => k_is)
    (case kp_d_is_count => k_is)
    (case c_d_is_list => k_is)
    (case kp_d_is_list => k_is)
    (case c_d_is_signs => k_is)
    (case kp_d_is_signs => k_is)
    (case c_d_is_numeral => k_is)
    (case kp_d_is_numeral => k_is)
    (case c_d_is_cell => k_is)
    (case kp_d_is_cell => k_is)
    (case c_d_is_text => k_is)
    (case kp_d_is_text => k_is)
    (case c_d_is_line => k_is)
    (case kp_d_is_line => k_is)
    (case c_d_line_text => k_is)
    (case kp_d_line_text => k_is)
    (case c_d_line_in => k_is)
    (case kp_d_line_in => k_is)
    (case c_d_are_lines => k_is)
    (case kp_d_are_lines => k_is)
    (case c_d_framed => k_is)
    (case kp_d_framed => k_is)
    (case c_d_frames_in => k_is)
    (case kp_d_frames_in => k_is)
    (case c_d_frame_end => k_is)
    (case kp_d_frame_end => k_is)
    (case c_d_Log_init => k_is)
    (case kp_d_Log_init => k_is)
    (case mk_C_Log => k_is)
    (case i_d_Log_init => k_is)
    (case kc_C_Log => k_is)
    (case i_d_Log___len__ => k_is)
    (case c_d_Log___len__ => k_is)
    (case kp_d_Log___len__ => k_is)
    (case i_d_Log_put => k_is)
    (case c_d_Log_put => k_is)
    (case kp_d_Log_put => k_is)
    (case c_d_lines_on => k_is)
    (case kp_d_lines_on => k_is)
    (case c_d_frames_of => k_is)
    (case kp_d_frames_of => k_is)
    (case c_d_Disk_init => k_is)
    (case kp_d_Disk_init => k_is)
    (case mk_C_Disk => k_is)
    (case i_d_Disk_init => k_is)
    (case kc_C_Disk => k_is)
    (case i_d_Disk_put => k_is)
    (case c_d_Disk_put => k_is)
    (case kp_d_Disk_put => k_is)
    (case i_d_Disk_sync => k_is)
    (case c_d_Disk_sync => k_is)
    (case kp_d_Disk_sync => k_is)
    (case i_d_Disk_trim => k_is)
    (case c_d_Disk_trim => k_is)
    (case kp_d_Disk_trim => k_is)
    (case i_d_Disk_fall => k_is)
    (case c_d_Disk_fall => k_is)
    (case kp_d_Disk_fall => k_is)
    (case i_d_Disk_lose => k_is)
    (case c_d_Disk_lose => k_is)
    (case kp_d_Disk_lose => k_is)
    (case i_d_Disk__leave => k_is)
    (case c_d_Disk__leave => k_is)
    (case kp_d_Disk__leave => k_is)
    (case c_d_l_cell => k_is)
    (case kp_d_l_cell => k_is)
    (case c_d_l_box => k_is)
    (case kp_d_l_box => k_is)
    (case c_d_l_take => k_is)
    (case kp_d_l_take => k_is)
    (case c_d_l_letters => k_is)
    (case kp_d_l_letters => k_is)
    (case c_d_l_words => k_is)
    (case kp_d_l_words => k_is)
    (case c_d_l_line => k_is)
    (case kp_d_l_line => k_is)
    (case c_d_l_lines => k_is)
    (case kp_d_l_lines => k_is)
    (case c_d_l_text => k_is)
    (case kp_d_l_text => k_is)
    (case c_d_l_frame => k_is)
    (case kp_d_l_frame => k_is)
    (case c_d_l_file => k_is)
    (case kp_d_l_file => k_is)
    (case c_d_l_number => k_is)
    (case kp_d_l_number => k_is)
    (case c_d_l_read_line => k_is)
    (case kp_d_l_read_line => k_is)
    (case c_d_l_read => k_is)
    (case kp_d_l_read => k_is)
    (case c_d_l_near => k_is)
    (case kp_d_l_near => k_is)
    (case c_d_l_by_hand => k_is)
    (case kp_d_l_by_hand => k_is)
    (case c_d_l_is => k_is)
    (case kp_d_l_is => k_is)
    (case c_d_l_open => k_is)
    (case kp_d_l_open => k_is)
    (case c_d_l_put => k_is)
    (case kp_d_l_put => k_is)
    (case c_d_l_spoilt => k_is)
    (case kp_d_l_spoilt => k_is)
    (case c_d_l_odd => k_is)
    (case kp_d_l_odd => k_is)
    (case c_d_l_refused => k_is)
    (case kp_d_l_refused => k_is)
    (case c_d_l_places => k_is)
    (case kp_d_l_places => k_is)
    (case c_d_l_figures => k_is)
    (case kp_d_l_figures => k_is)
    (case c_d_l_fallen => k_is)
    (case kp_d_l_fallen => k_is)
    (case c_d_l_pieces => k_is)
    (case kp_d_l_pieces => k_is)
    (case c_d_l_many_right => k_is)
    (case kp_d_l_many_right => k_is)
    (case c_d_l_right => k_is)
    (case kp_d_l_right => k_is)
    (case c_d_law => k_is)
    (case kp_d_law => k_is)
  case S => exact fun K H a ns hl hS => ⟨a, ns, rfl, hS, hl, fun _ => rfl⟩
