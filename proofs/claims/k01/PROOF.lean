import PyProof.Rows.All
import Wide.All
import OpenK.AllK
import Wide.FinOn
import HandS.ForMost
import HandS.ForExc
import HandS.IsInst
import HandS.StrMore
import HandS.Style
import HandS.Property
import HandS.Flow
import HandS.TryMany
import HandS.ExcInit
import HandS.ExcIs
import HandS.ExcField
import HandS.Defaults
import HandS.Wide
import HandS.Walk
import HandS.FStr
import HandS.Conv
import HandS.SortInts
import HandS.More
import PyProof.CallFns
import PyProof.FString3
import PyProof.Rows.StrIntSpec
import PyProof.P3Eq
import HandS.HotCalls
import PyProof.InstEq
import HandS.Small
import PyProof.Rows.StrSplitMax
import PyProof.StrLawsIn
import PyProof.FitsReplace
import PyProof.ReprRoads
import HandS.StrSplit
import HandS.Codes
import PyProof.StrLawsChain
import PySem.Challenge.RW_neverunsaid_k01_lines_and_texts
set_option Elab.async false
set_option linter.all false
set_option maxRecDepth 100000
set_option maxHeartbeats 4000000
namespace Nv
open PySem PySem.Spec PyProof.Rows L2

/-- a def's promise where no repr is under way -/
structure FnG (P : Program) (w : World) (K : PySem.W.Frag) (mg : Str → Option Value) (base : Heap) (k : Nat)
    (f : Addr) (fd : FuncData) (ps : List Str) (sp : Sp) : Prop where
  len : ∀ vs H Q E, sp vs H Q E → vs.length = ps.length
  run : ∀ (A : Around) (outer : List Env) (s : Shared) (H : Hp) (args : Args) (us : List Value) (vs : List V) (Q : VK) (E : XK),
    A.guards = some [] → Room k A → Env0 P w K mg base A outer s H → BindsTo s fd args (ps.zip us) → Vals vs us →
    sp vs H Q E → codeAny (model P w) A (.call (.ref f) args) (CR (L2.CX P w) outer P w H s Q E) s

section
variable {P : Program} {w : World} {K : PySem.W.Frag} {mg : Str → Option Value} {base : Heap} {k : Nat}
    {f : Addr} {fd : FuncData} {ps : List Str} {sp : Sp}
theorem FnG.mono {j : Nat} (F : FnG P w K mg base j f fd ps sp) (h : j ≤ k) : FnG P w K mg base k f fd ps sp :=
  ⟨F.len, fun A o s H a us vs Q E hg hr => F.run A o s H a us vs Q E hg (hr.mono h)⟩
theorem FnG.imp {sp' : Sp} (F : FnG P w K mg base k f fd ps sp) (h : ∀ vs H Q E, sp' vs H Q E → sp vs H Q E) :
    FnG P w K mg base k f fd ps sp' :=
  ⟨fun vs H Q E z => F.len vs H Q E (h _ _ _ _ z),
    fun A o s H a us vs Q E hg hr he hb hv hs => F.run A o s H a us vs Q E hg hr he hb hv (h _ _ _ _ hs)⟩
/-- a def by its body -/
theorem okG {x qual : Str} {st : Stmt} {N : List Str} (F : Fun K x qual st f fd) (S : FnScope N ps (defScope st))
    (len : ∀ vs H Q E, sp vs H Q E → vs.length = ps.length)
    (body : ∀ (cdv : Value) (A : Around) (outer : List Env) (s : Shared) (H : Hp) (vs : List V) (Q : VK) (E : XK),
      A.guards = some [] → Room k (A.deeper (envOfC qual (defScope st) s.heap.objs.size f cdv)) → sp vs H Q E →
      ∃ t, PSs (cxOf (L2.CX P w) P w K mg base N qual (defScope st) f cdv A outer s H E) (defBody st) t ∧
        t { nx := fun _ H' => Q .non H', rt := Q } (start N vs) H) :
    FnG P w K mg base (k + 1) f fd ps sp := by
  obtain ⟨oc, od, kV, doc, pm, an, cdv, ct, osl, rfl, lk, hcd⟩ := F.ex
  refine ⟨len, ?_⟩
  intro A outer s H args us vs Q E hg hr e0 hb r hsp
  have hl := len _ _ _ _ hsp
  have stays : ∀ b o, base.get? b = some o → s.heap.get? b = some o := fun b o e => (e0.bs b o e).1
  have KX : K.In s.heap := e0.mod.kin.keeps stays
  have kinds : ∀ y ∈ ps.zip us, (defScope st).names.lookup y.1 = some .local ∨
      ((defScope st).names.lookup y.1 = some .cell ∧
        ((cellsFrom (s.heap.objs.size + 1) (defScope st).names []).lookup y.1).isSome = true) := by
    intro y hy
    rcases S.par y.1 (List.of_mem_zip (a := y.1) (b := y.2) hy).1 with q | q
    · exact Or.inl q
    · exact Or.inr ⟨q, PySem.W.cellsFrom_some _ _ _ (Or.inl q)⟩
  refine codeAny_call_function hr.depth (KX _ _ lk) rfl S.co S.gen rfl (PySem.W.codeRec_of KX hcd) (hb _ _ _ _ ?_)
  refine wpAny_newFunctionEnv_cells S.kind kinds ?_
  intro env he s1 x
  subst he
  refine ⟨(e0.mod.nolimit.keeps stays).keeps x.toInCall.keep, codeAny_func ?_⟩
  obtain ⟨t, ht, hq⟩ := body cdv A outer s H vs Q E hg (hr.deeper _) hsp
  have I := inv_start (CX := L2.CX P w) (E := E) S hr.hd e0 hl r x
  refine wpAny_mono (ht.run [] s1 (start N vs) H _ I hq) ?_ (fun _ _ z => z)
  intro fl s' hs
  have fin : ∀ {σ' : L2.St} {H' : Hp} {v : V} {u : Value},
      Inv (cxOf (L2.CX P w) P w K mg base N qual (defScope st) f cdv A outer s H E) [] σ' H' s' → RelV v u → Q v H' →
      CE outer P w H s Q u s' := fun {σ' H' v u} J rv q => ⟨v, H', J.os, J.bare, J.base, J.hok, rv, q⟩
  cases fl with
  | next => obtain ⟨_, _, J, q⟩ := hs; exact fin (v := V.non) (u := Value.none) J rfl q
  | ret u => obtain ⟨_, _, _, J, rv, q⟩ := hs; exact fin J rv q
  | brk => obtain ⟨_, _, _, q⟩ := hs; exact q.elim
  | cont => obtain ⟨_, _, _, q⟩ := hs; exact q.elim
end

/-! calls -/
section
variable {X : Cx} {W : WX} {k : Nat} {f C : Addr} {fd : FuncData} {ps ks : List Str} {sp : Sp} {x m : Str}
    {p pos apos : Pos} {e o : Expr} {es : List Expr} {kws : List Keyword} {ta : TE} {t tk' : TA}
theorem runG {pins : List (Addr × Obj)} {σ : L2.St} {H : Hp} {s : Shared} {Q : VK} {us us2 : List Value} {vs : List V} {kw : List (Str × Value)}
    (F : FnG X.prog X.w X.K X.mg X.base k f fd ps sp) (tk : Takes X W) (hG : X.A.guards = some []) (hr : Room k X.A)
    (hb : BindsTo s fd ⟨us, kw⟩ (ps.zip us2)) (I : Inv X pins σ H s) (r : Vals vs us2) (h : sp vs H Q (WE W σ)) :
    wpAny (model X.prog X.w) X.A (call (.ref f) us kw) (EP X pins σ Q) X.xe s := by
  refine wpAny_call (codeAny_mono (F.run X.A X.stack s H ⟨us, kw⟩ us2 vs Q (WE W σ) hG hr I.env0 hb r h) ?_)
  intro r s' hq
  cases r with
  | error er => exact passAt tk σ pins H s er s' I hq
  | ok fl =>
    cases fl with
    | ret u => exact I.after hq
    | next => exact hq.elim
    | brk => exact hq.elim
    | cont => exact hq.elim
theorem lenG {us : List Value} {vs : List V} {H : Hp} {Q : VK} {E : XK} (F : FnG X.prog X.w X.K X.mg X.base k f fd ps sp)
    (r : Vals vs us) (h : sp vs H Q E) : us.length = ps.length := by
  rw [← r.length]
  exact F.len _ _ _ _ h
/-- all parameters are given by position -/
def Pos1 (fd : FuncData) (ps : List Str) : Prop := ∀ us : List Value, us.length = ps.length → bindArgs fd ⟨us, []⟩ = pure (ps.zip us)
/-- n parameters are given by position, those behind them by their names -/
def Kw1 (fd : FuncData) (ps ks : List Str) (n : Nat) : Prop :=
  ∀ us ws : List Value, us.length = n → ws.length = ks.length → bindArgs fd ⟨us, ks.zip ws⟩ = pure (ps.zip (us ++ ws))
/-- f(e, ..), also where it may raise -/
def tCG (sp : Sp) (W : WX) (t : TA) : TE := fun σ H Q => t σ H fun vs H1 => sp vs H1 Q (WE W σ)
theorem pe_cG (F : FnG X.prog X.w X.K X.mg X.base k f fd ps sp) (b : Pos1 fd ps) (tk : Takes X W) (hG : X.A.guards = some []) (hr : Room k X.A)
    (hm : X.mg x = some (.ref f)) (hk : PySem.W.keepIn X.K (.ref f) = true) (ha : PA X (e :: es) t) (hg : Gl X x := by rfl)
    (hdb : (x == ("__debug__" : Str)) = false := by decide) (he : starEach (e :: es) X.env = (false, eval e X.env) :: starEach es X.env := by rfl)
    (hpl : (backTo pos (starEach es X.env)).any (·.1) = false := by rfl) : PE X (.Call (.Name x p) (e :: es) [] pos) (tCG sp W t) := by
  constructor
  intro pins s σ H Q I h
  refine wpAny_Call_Name_kw (ld_glob I hg hm ?_ hdb)
  refine PySem.W.callWith_K (h₀ := X.base) I.ok.mod.kin hk (thn (ha.run pos pins s σ H _ I h) ?_) he hpl
  intro us s1 ⟨vs, H1, I1, r, q⟩
  exact ⟨I1.kIn, runG F tk hG hr (.of_eq (b _ (lenG F r q))) I1 r q⟩
theorem pe_cG0 (F : FnG X.prog X.w X.K X.mg X.base k f fd ps sp) (b : Pos1 fd ps) (tk : Takes X W) (hG : X.A.guards = some []) (hr : Room k X.A)
    (hm : X.mg x = some (.ref f)) (hk : PySem.W.keepIn X.K (.ref f) = true) (hg : Gl X x := by rfl)
    (hdb : (x == ("__debug__" : Str)) = false := by decide) : PE X (.Call (.Name x p) [] [] pos) (tCG sp W tNil) := by
  constructor
  intro pins s σ H Q I h
  refine wpAny_Call_Name_kw (ld_glob I hg hm ?_ hdb)
  exact PySem.W.callWith_K0 I.kIn hk (runG F tk hG hr (.of_eq (b [] (lenG F .nil h))) I .nil h)
/-- f(k = e, ..), keywords in the parameters' order -/
theorem pe_cGk (F : FnG X.prog X.w X.K X.mg X.base k f fd ps sp) (b : Kw1 fd ps ks 0) (hlen : ps.length = ks.length) (tk : Takes X W) (hG : X.A.guards = some []) (hr : Room k X.A)
    (hm : X.mg x = some (.ref f)) (hk : PySem.W.keepIn X.K (.ref f) = true) (ha : PK X kws t) (hg : Gl X x := by rfl)
    (hall : (backToKw pos (keywordEach kws X.env)).all (·.1.isSome) = true := by rfl) (hks : (backToKw pos (keywordEach kws X.env)).filterMap (·.1) = ks := by rfl)
    (hdb : (x == ("__debug__" : Str)) = false := by decide)
    (hpl : ((backTo pos (starEach [] X.env)).any (·.1) || (backToKw pos (keywordEach kws X.env)).any (·.1.isNone)) = false := by rfl) :
    PE X (.Call (.Name x p) [] kws pos) (tCG sp W t) := by
  constructor
  intro pins s σ H Q I h
  refine wpAny_Call_Name_kw (ld_glob I hg hm ?_ hdb)
  refine PySem.W.callWith_KW0 (h₀ := X.base) I.ok.mod.kin hk hall ?_ hpl
  refine thn (ha.run pos pins s σ H _ I h) ?_
  intro ws s2 ⟨zs, H2, I2, rz, q2⟩
  refine ⟨I2.kIn, ?_⟩
  rw [hks]
  exact runG F tk hG hr (.of_eq (b [] ws rfl ((lenG F rz q2).trans hlen))) I2 rz q2
/-- o.m(e, ..) -/
def tMG (C : Addr) (m : Str) (sp : Sp) (W : WX) (ta : TE) (t : TA) : TE := fun σ H Q => ta σ H fun x H1 => ∃ a dx fs, x = .ref a ∧ H1 a = some (.ins C dx fs) ∧
  fs.lookup m = none ∧ t σ H1 fun vs H2 => sp (x :: vs) H2 Q (WE W σ)
theorem pe_mG {pl : Sem Bool} (he : PE X o ta) (c : Cls X.K C) (hm : Meth X.K C m f) (F : FnG X.prog X.w X.K X.mg X.base k f fd ps sp) (b : Pos1 fd ps) (tk : Takes X W)
    (hG : X.A.guards = some []) (hr : Room k X.A) (ha : PA X (e :: es) t)
    (hst : starEach (e :: es) X.env = (false, eval e X.env) :: starEach es X.env := by rfl) (hpl : (backTo pos (starEach es X.env)).any (·.1) = false := by rfl)
    (ht : eval (.Call (.Attribute o m apos) (e :: es) [] pos) X.env = (do
      let ov ← eval o X.env
      standAt apos.atName
      let (f, first) ← holding [ov] (getMethod ov m pl)
      callWith pos f first (backTo pos (starEach (e :: es) X.env)) (backToKw pos (keywordEach [] X.env))) := by rfl) :
    PE X (.Call (.Attribute o m apos) (e :: es) [] pos) (tMG C m sp W ta t) := by
  constructor
  intro pins s σ H Q I h
  refine PySem.W.methodCall_KW (pl := pl) (thn (he.run pins s σ H _ I h) ?_) ht
  intro u s1 ⟨x, H1, I1, rx, a, dx, fs, ex, ea, l, q⟩
  subst ex
  obtain rfl : u = Value.ref a := rx
  refine getmeth_ok I1 ea c hm l ?_
  refine PySem.W.callWith_K (first := [.ref a]) (h₀ := X.base) I.ok.mod.kin hm.kp (thn (ha.run pos pins s1 σ H1 _ I1 q) ?_) hst hpl
  intro us s2 ⟨vs, H2, I2, r, q2⟩
  have r2 : Vals (V.ref a :: vs) (Value.ref a :: us) := .cons rfl r
  exact ⟨I2.kIn, runG (us := .ref a :: us) F tk hG hr (.of_eq (b _ (lenG F r2 q2))) I2 r2 q2⟩
theorem pe_mG0 {pl : Sem Bool} (he : PE X o ta) (c : Cls X.K C) (hm : Meth X.K C m f) (F : FnG X.prog X.w X.K X.mg X.base k f fd ps sp) (b : Pos1 fd ps) (tk : Takes X W)
    (hG : X.A.guards = some []) (hr : Room k X.A)
    (ht : eval (.Call (.Attribute o m apos) [] [] pos) X.env = (do
      let ov ← eval o X.env
      standAt apos.atName
      let (f, first) ← holding [ov] (getMethod ov m pl)
      callWith pos f first (backTo pos (starEach [] X.env)) (backToKw pos (keywordEach [] X.env))) := by rfl) :
    PE X (.Call (.Attribute o m apos) [] [] pos) (tMG C m sp W ta tNil) := by
  constructor
  intro pins s σ H Q I h
  refine PySem.W.methodCall_KW (pl := pl) (thn (he.run pins s σ H _ I h) ?_) ht
  intro u s1 ⟨x, H1, I1, rx, a, dx, fs, ex, ea, l, q⟩
  subst ex
  obtain rfl : u = Value.ref a := rx
  refine getmeth_ok I1 ea c hm l ?_
  have r2 : Vals [V.ref a] [Value.ref a] := .cons rfl .nil
  exact PySem.W.callWith_K0 (first := [.ref a]) I1.kIn hm.kp (runG (us := [.ref a]) F tk hG hr (.of_eq (b _ (lenG F r2 q))) I1 r2 q)
/-- o.m(k = e, ..) -/
theorem pe_mGk {pl : Sem Bool} (he : PE X o ta) (c : Cls X.K C) (hm : Meth X.K C m f) (F : FnG X.prog X.w X.K X.mg X.base k f fd ps sp) (b : Kw1 fd ps ks 1) (hlen : ps.length = ks.length + 1) (tk : Takes X W)
    (hG : X.A.guards = some []) (hr : Room k X.A) (ha : PK X kws t)
    (hall : (backToKw pos (keywordEach kws X.env)).all (·.1.isSome) = true := by rfl) (hks : (backToKw pos (keywordEach kws X.env)).filterMap (·.1) = ks := by rfl)
    (hpl : ((backTo pos (starEach [] X.env)).any (·.1) || (backToKw pos (keywordEach kws X.env)).any (·.1.isNone)) = false := by rfl)
    (ht : eval (.Call (.Attribute o m apos) [] kws pos) X.env = (do
      let ov ← eval o X.env
      standAt apos.atName
      let (f, first) ← holding [ov] (getMethod ov m pl)
      callWith pos f first (backTo pos (starEach [] X.env)) (backToKw pos (keywordEach kws X.env))) := by rfl) :
    PE X (.Call (.Attribute o m apos) [] kws pos) (tMG C m sp W ta t) := by
  constructor
  intro pins s σ H Q I h
  refine PySem.W.methodCall_KW (pl := pl) (thn (he.run pins s σ H _ I h) ?_) ht
  intro u s1 ⟨x, H1, I1, rx, a, dx, fs, ex, ea, l, q⟩
  subst ex
  obtain rfl : u = Value.ref a := rx
  refine getmeth_ok I1 ea c hm l ?_
  refine PySem.W.callWith_KW0 (first := [.ref a]) (h₀ := X.base) I.ok.mod.kin hm.kp hall ?_ hpl
  refine thn (ha.run pos pins s1 σ H1 _ I1 q) ?_
  intro ws s2 ⟨zs, H2, I2, rz, q2⟩
  refine ⟨I2.kIn, ?_⟩
  rw [hks]
  have r2 : Vals (V.ref a :: zs) (Value.ref a :: ws) := .cons rfl rz
  have hw : ws.length = ks.length := by
    have z := lenG F r2 q2
    rw [List.length_cons, hlen] at z
    omega
  exact runG (us := [.ref a]) F tk hG hr (.of_eq (b [.ref a] ws rfl hw)) I2 r2 q2
end
end Nv

namespace Nv
open PySem PySem.Spec PyProof.Rows L2

/-- the law's call, from an abstract heap that tracks the script alone or nothing -/
theorem law_from {P : Program} {w : World} {K : PySem.W.Frag} {mg mb : Str → Option Value} {k : Nat} {fa a : Addr} {fd : FuncData} {x : Str} {sp : Sp}
    {s₁ : Shared} {vs : List Value} {H : Hp}
    (KX : K.In s₁.heap) (hns : s₁.heap.Ns mainGlobals mg) (hb : s₁.heap.Ns builtinsNs mb) (hbb : ∀ x : Str, x ≠ "__name__" → mb x = bootBuiltins x)
    (hlim : s₁.heap.NoLimit) (hg : s₁.gens = #[]) (ha : s₁.heap.get? a = some { cls := .type "list", data := .seq vs.toArray }) (hr : Room k callerA)
    (F : ∀ base : Heap, K.In base → base.Ns mainGlobals mg → FnG P w K mg base k fa fd [x] sp) (hbind : ∀ (s : Shared) (u : Value), BindsTo s fd ⟨[u], []⟩ [(x, u)])
    (hok : HOk P w H s₁.heap) (only : ∀ b, H b = none ∨ (b = a ∧ K.lookup a = none ∧ ∃ o xs, H b = some (.frz o (.lst xs))))
    (hsp : sp [.ref a] H (fun v _ => v = .bl true) fun _ _ _ => False) :
    codeAny (model P w) callerA (.call (.ref fa) ⟨[.ref a], []⟩)
      (fun r s' => r = .ok (.ret (.bool true)) ∧ OldK s₁.heap s'.heap ∧ s'.os = s₁.os ∧ AllBare s'.gens) s₁ := by
  have notA : ∀ {b : Addr} {o : Obj} {es : Array DictEntry} {ep : Nat}, s₁.heap.get? b = some o → o.data = .dict es ep → H b = none := by
    intro b o es ep e d
    rcases only b with z | ⟨z, _, _⟩
    · exact z
    · subst z
      rw [ha] at e
      cases e
      cases (show Data.seq vs.toArray _ = Data.dict es ep from d)
  have nsKeep : ∀ {b : Addr} {m : Str → Option Value}, s₁.heap.Ns b m → (hidT s₁.heap H).Ns b m := by
    intro b m ⟨o, es, ep, e, d, r⟩
    exact ⟨o, es, ep, hidT_get e (notA e d), d, r⟩
  have kin : K.In (hidT s₁.heap H) := by
    intro b o e
    refine hidT_get (KX b o e) ?_
    rcases only b with z | ⟨z, z2, _⟩
    · exact z
    · rw [z, z2] at e
      cases e
  have lim : (hidT s₁.heap H).NoLimit := by
    obtain ⟨mc, h1, h2⟩ := hlim
    exact ⟨mc, nsKeep h1, h2⟩
  have md : Mod K mg (hidT s₁.heap H) := ⟨kin, nsKeep hns, ⟨mb, nsKeep hb, hbb⟩, lim⟩
  have noF : ∀ b : Addr, b ∉ frs [] := fun b z => by
    cases (show b ∈ ([] : List Addr) from z)
  have e0 : Env0 P w K mg (hidT s₁.heap H) callerA [] s₁ H :=
    ⟨rfl, md, fun b o e => of_hidT e, Nat.le_of_eq (hidT_size _ _), trivial, fun b z => absurd z (noF b), hok, .of_eq hg⟩
  refine codeAny_mono ((F _ kin (nsKeep hns)).run callerA [] s₁ H ⟨[.ref a], []⟩ [.ref a] [.ref a] _ _ rfl hr e0 (hbind s₁ (.ref a)) (.cons rfl .nil) hsp) ?_
  intro r s' h
  cases r with
  | error e =>
    obtain ⟨_, _, _, _, _, _, _, _, _, _, _, _, z⟩ := h
    exact z.elim
  | ok fl =>
    cases fl with
    | next => exact h.elim
    | brk => exact h.elim
    | cont => exact h.elim
    | ret u =>
      obtain ⟨v, H', os, bare, un, hok', rv, q⟩ := h
      have q1 : v = .bl true := q
      subst q1
      obtain rfl : u = Value.bool true := rv
      refine ⟨rfl, OldK.of_keep ?_, os, bare⟩
      intro b o e
      rcases only b with z | ⟨_, _, ob, xs, z⟩
      · exact un.keep b o e z (noF b) (fun z => by cases z)
      · have z2 := un.frzs b ob _ z
        have e1 := (hok b _ z).1
        have e2 := (hok' b _ z2).1
        rw [e] at e1
        cases e1
        exact e2

/-- the end of a law's row: its promise as a FnG -/
theorem walkG {l : PySem.W.OpenLaw} {n k : Nat} {q : Program} {loose : List Str} {XP : (Str → Option Value) → Heap → Prop} {YP : World → Heap → Prop}
    {d : DefRec} {K : Params → PySem.W.Frag} {sp : PySem.W.Frag → Sp} {x : Str}
    (hn : l.most = some n) (hn2 : n ≤ sizeLine) (hdf : d.params.defaults = []) (hr : Room k callerA)
    (hY : ∀ (w : World) (h : Heap), YP w h → (K w.params).In h)
    (F : ∀ (w : World) (mg : Str → Option Value) (fa : Addr) (h : Heap), (K w.params).In h → h.Ns mainGlobals mg → mg d.name = some (.ref fa) →
      ∃ fd : FuncData, (∀ (s : Shared) (u : Value), BindsTo s fd ⟨[u], []⟩ [(x, u)]) ∧
        ∀ base : Heap, (K w.params).In base → base.Ns mainGlobals mg → FnG l.prog w (K w.params) mg base k fa fd [x] (sp (K w.params)))
    (hsp : ∀ (K : PySem.W.Frag) (H : Hp) (a : Addr) (ns : List Int), ns.length ≤ n → SqL K H a (ns.map V.int) → sp K [.ref a] H (fun v _ => v = .bl true) fun _ _ _ => False) :
    PySem.W.WalkO q loose XP YP l.row.toRowW d [] (fun f vs => PySem.call f vs) := by
  refine Att.attach_call hn hdf ?_
  intro w s₀ s₁ mg mb fa o pm cd doc a vs ns G Y ho hd hcd hmg hobj hints hlen hg
  have KX := hY w _ Y
  obtain ⟨fd, hb, hF⟩ := F w mg fa _ KX G.T.g hmg
  have rv := vals_ints hints
  have lv := hints.length
  have hlz : ns.length ≤ sizeLine := Nat.le_trans hlen hn2
  cases hk : (K w.params).lookup a with
  | some ob =>
    have e := KX a ob hk
    rw [hobj] at e
    cases e
    refine law_from (H := fun _ => none) KX G.T.g G.T.b G.T.builtins G.T.nolimit hg hobj hr hF hb (fun b u z => by cases z) (fun _ => .inl rfl) (hsp _ _ a ns hlen ?_)
    exact .inr ⟨_, vs.toArray, _, hk, rfl, rfl, rfl, by rw [List.size_toArray, lv]; exact hlz, by simpa using rv⟩
  | none =>
    have at1 : ∀ (o : HO) , (fun b => if b = a then some o else none : Hp) a = some o := fun o => if_pos rfl
    refine law_from (H := fun b => if b = a then some (.frz { cls := .type "list", data := .seq vs.toArray } (.lst (ns.map V.int))) else none)
      KX G.T.g G.T.b G.T.builtins G.T.nolimit hg hobj hr hF hb ?_ ?_ (hsp _ _ a ns hlen (.inl (.inr ⟨_, at1 _⟩)))
    · intro b u z
      by_cases h : b = a
      · subst h
        rw [at1] at z
        cases z
        exact ⟨hobj, by rw [List.length_map]; exact hlz, vs, _, rv, hobj⟩
      · have z2 := (if_neg h).symm.trans z
        cases z2
    · intro b
      by_cases h : b = a
      · exact .inr ⟨h, hk, _, _, if_pos h⟩
      · exact .inl (if_neg h)
end Nv

namespace Nv
open PySem PySem.Spec PyProof.Rows L2

/-! data that stands in the heap, dicts too -/
def keyD : Key → PyData
  | .inl i => .int i
  | .inr x => .str x
mutual
inductive DV (H : Hp) : V → PyData → Prop
  | non : DV H .non .none
  | bl (b : Bool) : DV H (.bl b) (.bool b)
  | int (i : Int) : DV H (.int i) (.int i)
  | str (x : Str) : DV H (.str x) (.str x)
  | lst {a : Addr} {xs : List V} {ds : List PyData} : H a = some (.lst xs) → a ≠ sysModules → DVs H xs ds → DV H (.ref a) (.list ds)
  | tup {a : Addr} {xs : List V} {ds : List PyData} : H a = some (.tup xs) → DVs H xs ds → DV H (.ref a) (.tuple ds)
  | dct {a : Addr} {kvs : List (Key × V)} {ds : List (PyData × PyData)} : H a = some (.dK kvs) → DVk H kvs ds → DV H (.ref a) (.dict ds)
inductive DVs (H : Hp) : List V → List PyData → Prop
  | nil : DVs H [] []
  | cons {v : V} {vs : List V} {d : PyData} {ds : List PyData} : DV H v d → DVs H vs ds → DVs H (v :: vs) (d :: ds)
inductive DVk (H : Hp) : List (Key × V) → List (PyData × PyData) → Prop
  | nil : DVk H [] []
  | cons {k : Key} {v : V} {vs : List (Key × V)} {d : PyData} {ds : List (PyData × PyData)} : DV H v d → DVk H vs ds → DVk H ((k, v) :: vs) ((keyD k, d) :: ds)
end
mutual
theorem DV.mono {H H' : Hp} (e : ∀ a o, H a = some o → H' a = some o) : ∀ {v : V} {d : PyData}, DV H v d → DV H' v d
  | _, _, .non => .non
  | _, _, .bl b => .bl b
  | _, _, .int i => .int i
  | _, _, .str x => .str x
  | _, _, .lst h n r => .lst (e _ _ h) n (DVs.mono e r)
  | _, _, .tup h r => .tup (e _ _ h) (DVs.mono e r)
  | _, _, .dct h r => .dct (e _ _ h) (DVk.mono e r)
theorem DVs.mono {H H' : Hp} (e : ∀ a o, H a = some o → H' a = some o) : ∀ {vs : List V} {ds : List PyData}, DVs H vs ds → DVs H' vs ds
  | _, _, .nil => .nil
  | _, _, .cons h r => .cons (DV.mono e h) (DVs.mono e r)
theorem DVk.mono {H H' : Hp} (e : ∀ a o, H a = some o → H' a = some o) : ∀ {vs : List (Key × V)} {ds : List (PyData × PyData)}, DVk H vs ds → DVk H' vs ds
  | _, _, .nil => .nil
  | _, _, .cons h r => .cons (DV.mono e h) (DVk.mono e r)
end

section
variable {X : Cx} {pins : List (Addr × Obj)} {σ : L2.St} {H : Hp} {s : Shared}
theorem readsKey {w : World} {h : Heap} {k : Key} {v : Value} (e : keyIs k v = true) : Reads h v (keyD k) [] := by
  rcases keyIs_shape e with ⟨i, t, rfl, rfl⟩ | ⟨x, t, rfl, rfl⟩
  · exact .int i t
  · exact .str x t
mutual
theorem DV.reads (I : Inv X pins σ H s) : ∀ {v : V} {d : PyData} {u : Value}, DV H v d → RelV v u → ∃ as, Reads s.heap u d as ∧ sysModules ∉ as
  | _, _, u, .non, r => by
    cases (show u = Value.none from r)
    exact ⟨[], .none, by simp⟩
  | _, _, u, .bl b, r => by
    cases (show u = Value.bool b from r)
    exact ⟨[], .bool b, by simp⟩
  | _, _, u, .int i, r => by
    obtain ⟨t, rfl⟩ := (show ∃ t, u = Value.int i t from r)
    exact ⟨[], .int i t, by simp⟩
  | _, _, u, .str x, r => by
    obtain ⟨t, rfl⟩ := (show ∃ t, u = Value.str x t from r)
    exact ⟨[], .str x t, by simp⟩
  | _, _, u, @DV.lst _ a xs ds h n q, r => by
    cases (show u = Value.ref a from r)
    obtain ⟨_, its, m, rv, e⟩ := (show ObjOk X.prog X.w H s.heap a (.lst xs) from I.hok a _ h)
    obtain ⟨as, ra, na⟩ := DVs.reads I q rv
    refine ⟨a :: as, .list e rfl rfl ra, fun z => ?_⟩
    rcases List.mem_cons.mp z with z | z
    · exact n z.symm
    · exact na z
  | _, _, u, @DV.tup _ a xs ds h q, r => by
    cases (show u = Value.ref a from r)
    obtain ⟨_, its, rv, o, e1, e2, m, e3⟩ := (show ObjOk X.prog X.w H s.heap a (.tup xs) from I.hok a _ h)
    obtain ⟨as, ra, na⟩ := DVs.reads I q rv
    exact ⟨as, .tuple e1 e2 e3 ra, na⟩
  | _, _, u, @DV.dct _ a kvs ds h q, r => by
    cases (show u = Value.ref a from r)
    obtain ⟨_, ns, vs, rel, o, es, ep, e1, e2, e3, _, pr, _⟩ := (show ObjOk X.prog X.w H s.heap a (.dK kvs) from I.hok a _ h)
    obtain ⟨as, bs, k1, k2, n1, n2⟩ := DVk.reads I q rel pr
    refine ⟨a :: as ++ bs, .dict e1 e2.1 e3 k1 k2, fun z => ?_⟩
    have na : a ≠ sysModules := fun z => by
      rw [z] at ns
      simp at ns
    rcases List.mem_cons.mp z with z | z
    · exact na z.symm
    · rcases List.mem_append.mp z with z | z
      · exact n1 z
      · exact n2 z
theorem DVs.reads (I : Inv X pins σ H s) : ∀ {vs : List V} {ds : List PyData} {us : List Value}, DVs H vs ds → Vals vs us → ∃ as, ReadsAll s.heap us ds as ∧ sysModules ∉ as
  | _, _, _, .nil, .nil => ⟨[], .nil, by simp⟩
  | _, _, _, .cons h q, .cons r t => by
    obtain ⟨as, r1, n1⟩ := DV.reads I h r
    obtain ⟨bs, r2, n2⟩ := DVs.reads I q t
    exact ⟨as ++ bs, .cons r1 r2, fun z => (List.mem_append.mp z).elim n1 n2⟩
theorem DVk.reads (I : Inv X pins σ H s) : ∀ {kvs : List (Key × V)} {ds : List (PyData × PyData)} {vs : List (Key × Value)} {es : List DictEntry}, DVk H kvs ds → KV kvs vs → Pairs (mixKind X.prog X.w) es vs →
    ∃ as bs, ReadsAll s.heap (es.map (fun x => x.key)) (ds.map (fun x => x.1)) as ∧ ReadsAll s.heap (es.map (fun x => x.val)) (ds.map (fun x => x.2)) bs ∧ sysModules ∉ as ∧ sysModules ∉ bs
  | _, _, _, _, .nil, .nil, p => by
    cases p
    exact ⟨[], [], .nil, .nil, by simp, by simp⟩
  | _, _, _, _, .cons (k := k) h q, .cons r t, p => by
    cases p with
    | cons p1 p2 p3 =>
      obtain ⟨rk, rv⟩ := r
      rw [← rk, mixKind_is] at p1
      rw [← p2] at rv
      obtain ⟨as, r1, n1⟩ := DV.reads I h rv
      obtain ⟨bs, cs, r2, r3, n2, n3⟩ := DVk.reads I q t p3
      have rd := readsKey (w := X.w) (h := s.heap) p1
      exact ⟨[] ++ bs, as ++ cs, .cons rd r2, .cons r1 r3, by simpa using n2, fun z => (List.mem_append.mp z).elim n1 n3⟩
end

/-- repr(x), x a list, a tuple or a dict of data -/
def rRepr : List V → Hp → VK → Prop := fun xs H Q => ∃ (a : Addr) (d : PyData), xs = [.ref a] ∧ DV H (.ref a) d ∧ d.showable = true ∧ d.depth ≤ 60 ∧ d.shown.length ≤ sizeLine ∧ Q (.str d.shown) H
theorem call_repr (hG : X.A.guards = some []) (hu : X.A.units + 64 < cLine) : CallR X (.builtin "repr") rRepr := by
  intro pins s σ H xs us Q I r h
  obtain ⟨a, d, rfl, hd, hs, hp, hz, q⟩ := h
  cases r with
  | cons r1 r2 =>
    cases r2
    cases r1
    obtain ⟨as, rd, na⟩ := DV.reads I hd rfl
    exact repr_of_reads' rd hs (fun _ => na) hG (by omega) (fun _ _ e => e) (fun h' u tk k => ⟨.str d.shown, H, I.kept k, ⟨u, rfl⟩, q⟩) hz
end
end Nv

namespace PySem.W
open PySem PySem.Spec PySem.Calls PyProof.Rows
section
variable {prog : Program} {w : World} {A : Around} {E : Value → Shared → Prop} {s : Shared} {K : Frag} {x D : Addr} {ox : Obj} {od : Option Obj}
/-- what isinstance asks of the class D of an own exception -/
structure NvCls (K : Frag) (D : Addr) : Prop where
  ga : findIn K (.ref D) "__getattribute__" = some (some (.builtin "BaseException.__getattribute__"))
  gt : findIn K (.ref D) "__getattr__" = some none
  sub : subIn K (.ref D) (.type "BaseException") = some true
  dct : hasDictIn K D = true
  cl : findIn K (.ref D) "__class__" = some (some (.builtin "object.__class__"))
  sp : specialIn K (.builtin "object.__class__") "__get__" = some (some (.builtin "getset_descriptor.__get__"))
  tk : takesIn K (.builtin "object.__class__") = some true
  mo : mroIn K D (.type "object") = some true
theorem nv_find (c : NvCls K D) : findObj K D od "__class__" = some (.bind (.builtin "getset_descriptor.__get__") (.builtin "object.__class__")) := by
  have hs : (clsIn K D).isSome = true := by
    obtain ⟨cd, h, _⟩ := any_some c.dct
    rw [h]
    rfl
  cases od with
  | none => exact findObj_dataN hs c.cl c.sp c.tk
  | some o => exact findObj_data hs c.cl c.sp c.tk
theorem nv_class {Q : Option Value → Shared → Prop} (c : NvCls K D) (X : K.In s.heap) (I : InstAt s.heap x ox D od)
    (h : Q (some (.ref D)) { s with toks := s.toks + 1 }) : wpAny (model prog w) A (getAttr? (.ref x) "__class__") Q E s := by
  have e1 : (false && onTheHeap (Value.builtin "BaseException.__getattribute__")) = false := rfl
  have e2 : (Value.builtin "BaseException.__getattribute__" == Value.builtin "object.__getattribute__") = false := by decide +kernel
  have e3 : (onTheHeap (Value.ref D) && Value.builtin "BaseException.__getattribute__" == Value.builtin "object.__getattribute__") = false := by
    rw [e2]
    rfl
  obtain ⟨hp, g, d, t, os⟩ := s
  have T0 := I.type (M := model prog w)
  have T1 := looks_findIn (M := model prog w) X c.ga
  have T2 := looks_findIn (M := model prog w) X c.gt
  have T3 := looks_find (M := model prog w) X I (nv_find (od := od) c)
  have T4 : Looks (model prog w) hp (isInstance (.ref x) (.type "BaseException")) true := T0.andThen (looks_subIn X c.sub)
  unfold getAttr? getAttrBy? getAttrBy
  refine wpAny_bind (wpAny_mkText (wpAny_bind (wpAny_attempt ?_)))
  refine wpAny_holding (wpAny_bind (T0.at (wpAny_bind (T1.at ?_))))
  show wpAny _ _ (if (onTheHeap (Value.ref D) && Value.builtin "BaseException.__getattribute__" == Value.builtin "object.__getattribute__") = true then _ else _) _ _ _
  rw [e3, if_neg Bool.false_ne_true]
  unfold getAttrByItsOwn hookBefore
  refine wpAny_bind ?_
  rw [if_pos (show onTheHeap (Value.ref D) = true from rfl)]
  refine T2.at (wpAny_bind (wpAny_attempt (wpAny_holding ?_)))
  unfold callGetattribute
  rw [e1, if_neg Bool.false_ne_true]
  unfold boundAndCalled
  rw [PySem.F.excAttr_ValueError.ga.bind (.ref x)]
  refine wpAny_bind (wpAny_pure ?_)
  show wpAny _ _ (call (.builtin "BaseException.__getattribute__") [.ref x, .str "__class__" t]) _ _ _
  refine wpAny_call (codeAny_call_builtin PySem.F.excAttr_ValueError.ga.plain PySem.F.entry_bexc_ga ?_)
  refine @check_slot (model prog w) _ _ ⟨hp, g, d, t + 1, os⟩ "BaseException.__getattribute__" "BaseException" "__getattribute__" (.ref x)
    [.str "__class__" t] [] _ (by decide +kernel) (by decide +kernel) T4 (PySem.F.args_bexc_ga (.ref x) (.str "__class__" t)) ?_
  unfold Builtin.«object.__getattribute__»
  refine wpAny_bind (wpAny_of_eq (a := ((Value.ref x : Value), [Value.str "__class__" t])) (by first | rfl | (simp only [slotArgs]; rfl)) ?_)
  refine wpAny_bind (wpAny_pure (wpAny_bind (T0.at (wpAny_bind (T3.at ?_)))))
  show wpAny _ _ (holding [Value.builtin "object.__class__"] (call (.builtin "getset_descriptor.__get__") [.builtin "object.__class__", .ref x, .ref D]) >>= ret) _ _ _
  refine wpAny_bind (wpAny_holding (wpAny_call (class_get (s := ⟨hp, g, d, t + 1, os⟩) (ox := ox) (od := od) X I c.mo ?_)))
  refine wpAny_pure ?_
  show wpAny _ _ (handedOut (.ref D)) _ _ _
  rw [handedOut_of (v := .ref D) rfl]
  first
    | exact wpAny_pure (wpAny_pure h)
    | exact wpAny_pure h
    | exact wpAny_pure (wpAny_bind (wpAny_pure (wpAny_pure h)))
theorem nv_kit (c : NvCls K D) : KitX K (.ref x) (.ref D) (fun h => ∃ od, InstAt h x ox D od) := by
  obtain ⟨cdD, hcD, _⟩ := any_some c.dct
  refine ⟨fun _ _ _ ⟨_, I⟩ => I.type, fun _ _ X _ => ?_, fun h tp dd its n sl X htp => ?_, fun X ⟨_, I⟩ k => nv_class c X I k⟩
  · unfold clsIn at hcD
    split at hcD
    · rename_i ho
      intro A' Q' E' s' k q
      unfold isType loadHead
      exact wpAny_bind (wpAny_loadPart (k _ _ (X _ _ ho)) (wpAny_pure q))
    · cases hcD
  · cases q : (Value.ref D == Value.ref tp) with
    | false => rfl
    | true =>
      have e : D = tp := Value.ref.inj (beq_iff_eq.mp q)
      subst e
      unfold clsIn at hcD
      split at hcD
      · rename_i ho
        have z := (X _ _ ho).symm.trans htp
        cases z
      · cases hcD
end
end PySem.W
namespace Nv
open PySem PySem.Spec PyProof.Rows L2

/-- isinstance(e, c), e the exception that the suite holds, with a dict of its own or without -/
def rIsX (K : PySem.W.Frag) (cls : Value) (a : Addr) : List V → Hp → VK → Prop := fun xs H Q => ∃ (D : Addr) (c : V) (cv : Value) (b : Bool), xs = [.ref a, c] ∧ cls = .ref D ∧
  PySem.W.NvCls K D ∧ (∀ u, RelV c u → u = cv) ∧ PySem.W.kitOne K (.ref D) cv = some b ∧ (∀ dd, H dd = H dd) ∧ Q (.bl b) H
/-- the dict of the held exception, if it has one, stands in the heap -/
def XDict (H : Hp) (d : Option Addr) : Prop := ∀ dd, d = some dd → ∃ fs, H dd = some (.xd fs)
def rIsXd (K : PySem.W.Frag) (cls : Value) (d : Option Addr) (a : Addr) : List V → Hp → VK → Prop := fun xs H Q => ∃ (D : Addr) (c : V) (cv : Value) (b : Bool), xs = [.ref a, c] ∧ cls = .ref D ∧
  PySem.W.NvCls K D ∧ (∀ u, RelV c u → u = cv) ∧ PySem.W.kitOne K (.ref D) cv = some b ∧ XDict H d ∧ Q (.bl b) H
theorem call_isX {X : Cx} {a : Addr} {oe : Obj} {cls : Value} {d : Option Addr} {pn : List (Addr × Obj)} (hz : Zc cls d oe) (hf : ∃ vs, oe.data = .fields vs) :
    CallR (X.suite a ((a, oe) :: pn)) (.builtin "isinstance") (rIsXd X.K cls d a) := by
  intro pins s σ H xs us Q I r h
  obtain ⟨D, c, cv, b, rfl, rfl, C, hcv, e, hx, q⟩ := h
  cases r with
  | cons rx rr =>
    cases rr with
    | cons rt rr =>
      cases rr
      cases rx
      have ec := hcv _ rt
      subst ec
      obtain ⟨hget, _⟩ := I.pin (a, oe) (List.mem_append.mpr (.inl List.mem_cons_self))
      obtain ⟨vs, hv⟩ := hf
      have J : ∃ od, PySem.W.InstAt s.heap a oe D od := by
        have no : PySem.W.notCls oe = true := by
          unfold PySem.W.notCls
          rw [hv] <;> rfl
        cases d with
        | none => exact ⟨none, hget, hz.1, no, by rw [hz.2]; trivial⟩
        | some dd =>
          obtain ⟨fs, hd⟩ := hx dd rfl
          obtain ⟨mA, ⟨od, es, ep, ho, _⟩, _⟩ := (show ObjOk X.prog X.w H s.heap dd (.xd fs) from I.hok dd _ hd)
          exact ⟨some od, hget, hz.1, no, by rw [hz.2]; exact ho⟩
      exact PySem.W.kia_one (PySem.W.nv_kit C) I.kIn J e (fun z => nomatch z) fun tk => ⟨.bl b, H, I.kept (t' := tk) fun _ _ z => z, rfl, q⟩
end Nv

namespace Nv
open PySem PySem.Spec PyProof.Rows L2

/-- an except clause's class, the slot of its name, the reading of its suite -/
abbrev Cls3 := Value × Nat × (Addr → Value → Option Addr → TS)
/-- the ends behind a suite: its name is gone -/
def gone (i : Nat) (D : Ends) : Ends :=
  { nx := fun σ' H' => D.nx (σ'.set i none) H', rt := D.rt, bk := fun σ' H' => D.bk (σ'.set i none) H', ct := fun σ' H' => D.ct (σ'.set i none) H' }
def wAsN (K : PySem.W.Frag) (Wout : WX) (D : Ends) : List Cls3 → WX
  | [] => Wout
  | (c, i, ts) :: r => fun cls d σ H => ∃ b, PySem.W.exmOne K cls c = some b ∧
      (b = true → ∀ a, H a = none → ts a cls d (gone i D) (σ.set i (some (.ref a))) H) ∧ (b = false → wAsN K Wout D r cls d σ H)
inductive HdsAs (X : Cx) : List ExceptHandler → List Cls3 → Prop
  | nil : HdsAs X [] []
  | cons {x n : Str} {c : Value} {i : Nat} {ts : Addr → Value → Option Addr → TS} {b₀ : Stmt} {suite : List Stmt} {np pos' : Pos} {hds : List ExceptHandler} {l : List Cls3}
      (hi : X.N[i]? = some n) (hln : X.env.kindOf n = some .local) (hc : Names X x c)
      (hsu : ∀ (a : Addr) (oe : Obj) (cls : Value) (d : Option Addr) (pn : List (Addr × Obj)), Zc cls d oe → (∃ vs, oe.data = .fields vs) → PSs (X.suite a ((a, oe) :: pn)) (b₀ :: suite) (ts a cls d))
      (r : HdsAs X hds l) : HdsAs X (.ExceptHandler (some (.Name x np)) (some n) (b₀ :: suite) pos' :: hds) ((c, i, ts) :: l)

section
variable {X : Cx} {pins : List (Addr × Obj)} {σ : L2.St} {H : Hp}
theorem field_not_frame {B h : Heap} {l : List Env} {a : Addr} {o : Obj} {vs : Array Value} (ff : h.FunFrames B l) (e : h.get? a = some o) (dd : o.data = .fields vs) : a ∉ frs l := fun hm => by
  obtain ⟨_, o', e', hnf⟩ := ff.mem hm
  rw [e] at e'
  cases e'
  exact hnf _ dd
/-- the clauses, one behind another, at an exception that is on the ground -/
theorem clauses (hs : X.stack = X.env :: X.outer) (hf : X.env.frame = some X.env.locals) (hN : X.N.Nodup) {Wout : WX} (tk : Takes X Wout) {D : Ends} {sI s' : Shared} {a : Addr} {B h3 : Heap} {cls : Value} {d : Option Addr}
    (ok : X.Ok) (J : Inv X pins σ H sI) (nb : ∀ b o, sI.heap.get? b = some o → b ∉ frs X.stack → B.get? b = some o) (na : H a = none) (os : s'.os = sI.os) (ag : AllBare s'.gens)
    (up : sI.heap.UpToSlots s'.heap) (up3 : s'.heap.UpToSlots h3) (fl3 : HandSPX.FlyingZ B (X.env :: X.outer) a (Zc cls d) h3) :
    ∀ {hds : List ExceptHandler} {l : List Cls3}, HdsAs X hds l → wAsN X.K Wout D l cls d σ H → wpAny (model X.prog X.w) X.A (handleBy (.ref a) X.env hds) (SP X pins D) X.xe { s' with heap := h3 } := by
  have J3 : Inv X pins σ H { s' with heap := h3 } := J.landed nb fl3.1 (up.trans up3) os ag
  obtain ⟨oe3, vs3, he3, hz3, hd3⟩ := fl3.there
  have nfr := field_not_frame fl3.2.2.1 he3 hd3
  have nL : a ≠ X.env.locals := fun z => nfr (List.mem_filterMap.mpr ⟨X.env, List.mem_cons_self, by rw [hf, z]⟩)
  have nF : a ∉ X.fs := fun hm => by
    obtain ⟨e, he, q⟩ := List.mem_filterMap.mp hm
    exact nfr (List.mem_filterMap.mpr ⟨e, List.mem_cons_of_mem _ he, q⟩)
  have S3 := J3.suite he3 hd3 na nL nF
  intro hds l hk
  induction hk with
  | nil =>
    intro w
    refine wpAny_handleBy_nil ?_
    obtain ⟨_, _, _, oe, vs, T, oT, _, he, hz, hd, h1, _⟩ := id fl3
    unfold PySem.passOn
    refine wpAny_bind (wpAny_field he hd h1 ?_)
    rw [if_neg (show ¬ ((Value.ref T == Value.none) = true) from by simp)]
    have fin : wpAny (model X.prog X.w) X.A (setFlight (.ref a) X.env.frame) (fun _ s4 => wpAny (model X.prog X.w) X.A (throw (.ref a) : Sem Flow) (SP X pins D) X.xe s4) X.xe { s' with heap := h3 } := by
      rw [hf]
      refine HandSPX.setFlight_upZ fl3 ?_
      intro h4 hh4 up4
      refine wpAny_throw (tk _ _ ?_)
      exact ⟨a, B, sI, pins, σ, H, cls, d, rfl, J, nb, (up.trans up3).trans up4, .inr (.inr (by rw [hs]; exact hh4)), na, os, ag, w⟩
    first
      | exact wpAny_bind (wpAny_pure (wpAny_bind fin))
      | exact wpAny_bind fin
  | @cons x n c i ts b₀ suite np pos' hds2 l2 hi hln hc hsu r ih =>
    intro w
    obtain ⟨b, hb1, hyes, hno⟩ := w
    refine wpAny_handleBy_cons (codeAny_handlers_test ?_) (by intro q; cases q)
    have LT : PySem.W.Looks (model X.prog X.w) h3 (typeOf (.ref a)) cls := fun A Q E s k q => wpAny_typeOf_ref (k _ _ he3) (by rw [hz3.1]; exact q)
    have LM := PySem.W.exm_one (M := model X.prog X.w) (J3.kIn) LT hb1
    have test : ∀ {Q : Value → Shared → Prop} {E : Value → Shared → Prop}, Q c { s' with heap := h3 } →
        wpAny (model X.prog X.w) (X.A.mark (some (.ref a))) (eval (.Name x np) X.env) Q E { s' with heap := h3 } := by
      intro Q E q
      obtain ⟨hg, hdbg, hm | ⟨hm, hv, hnn⟩⟩ := hc
      · exact ld_glob (X := X.suite a ((a, oe3) :: (X.pn ++ pins))) S3 hg hm q hdbg
      · exact ld_blt (X := X.suite a ((a, oe3) :: (X.pn ++ pins))) S3 hg hm hv q hnn hdbg
    refine test (LM.here ?_)
    cases b with
    | false =>
      show wpAny _ X.A (handleBy (.ref a) X.env hds2) _ _ _
      exact ih (hno rfl)
    | true =>
      refine codeAny_handlers_suite_as ?_
      refine HandSPX.lands_againZ fl3 ?_
      intro h4 fl4 up4
      have J4 : Inv X pins σ H { s' with heap := h4 } := J.landed nb fl4.1 ((up.trans up3).trans up4) os ag
      obtain ⟨oe4, vs4, he4, hz4, hd4⟩ := fl4.there
      have S4 := J4.suite he4 hd4 na nL nF
      refine store_ok (X := X.suite a ((a, oe4) :: (X.pn ++ pins))) (v := .ref a) S4 hN hi (.inl hln) rfl ?_ (.inr hln)
      intro s5 S5
      refine wpAny_mono ((hsu a oe4 cls d (X.pn ++ pins) hz4 ⟨_, hd4⟩).run [] s5 _ H _ S5 (hyes rfl a na)) ?_ (fun _ _ z => z.elim)
      intro f s6 hsp
      have end_ : ∀ {σ6 : L2.St} {H6 : Hp} {Q : Shared → Prop}, Inv (X.suite a ((a, oe4) :: (X.pn ++ pins))) [] σ6 H6 s6 → (∀ s7, Inv X pins (σ6.set i none) H6 s7 → Q s7) →
          wpAny (model X.prog X.w) X.A (do bindName X.env n .none; unbindBehindTheSuite X.env n pos') (fun _ s7 => Q s7) X.xe s6 :=
        fun {σ6 H6 Q} S6 hq => gone_ok (S6.unsuite ok) hN hi hln hq
      cases f with
      | ret u =>
        obtain ⟨v6, σ6, H6, S6, r6, q6⟩ := hsp
        exact end_ S6 fun s7 J7 => ⟨_, _, _, J7, r6, q6⟩
      | next =>
        obtain ⟨σ6, H6, S6, q6⟩ := hsp
        exact end_ S6 fun s7 J7 => ⟨_, _, J7, q6⟩
      | brk =>
        obtain ⟨σ6, H6, S6, q6⟩ := hsp
        exact end_ S6 fun s7 J7 => ⟨_, _, J7, q6⟩
      | cont =>
        obtain ⟨σ6, H6, S6, q6⟩ := hsp
        exact end_ S6 fun s7 J7 => ⟨_, _, J7, q6⟩

/-- try: body / except x1 as n1: .. / except x2 as n2: .. -/
theorem ps_try_asN {body : List Stmt} {h₀ : ExceptHandler} {hds : List ExceptHandler} {l : List Cls3} {pos : Pos} {tb : WX → TS} {Wout : WX}
    (hs : X.stack = X.env :: X.outer) (hf : X.env.frame = some X.env.locals) (hN : X.N.Nodup) (tk : Takes X Wout)
    (hb : ∀ (W : WX) (pn : List (Addr × Obj)) (xe : Value → Shared → Prop), Takes (X.tr pn xe) W → PassesOwn (model X.prog X.w) X.A X.env xe → PSs (X.tr pn xe) body (tb W))
    (hh : HdsAs X (h₀ :: hds) l) : PS X (.Try body (h₀ :: hds) [] [] pos) (fun D σ H => tb (wAsN X.K Wout D l) D σ H) := by
  constructor
  intro pins s σ H D I h
  have ok := I.ok
  have hfr : X.A.frames = some (X.env :: X.outer) := by rw [ok.frames, hs]
  refine wpAny_Try_except ?_
  have run := (hb (wAsN X.K Wout D l) (X.pn ++ pins) (fun e s₁ => wpAny (model X.prog X.w) X.A (noteFrame e X.env)
    (fun _ s₂ => wpAny (model X.prog X.w) X.A (setFlight e none) (fun _ s₃ => wpAny (model X.prog X.w) X.A (handleBy e X.env (h₀ :: hds)) (SP X pins D) X.xe s₃) X.xe s₂) X.xe s₁) ?_ PassesOwn.looking).run [] s σ H D (I.toTry _) h
  · refine wpAny_mono run ?_ (fun e s1 he => he)
    intro f s1 hsp
    cases f with
    | next =>
      obtain ⟨σ', H', J', q⟩ := hsp
      exact wpAny_execs_nil ⟨σ', H', J'.ofTry ok, q⟩
    | brk =>
      obtain ⟨σ', H', J', q⟩ := hsp
      exact ⟨σ', H', J'.ofTry ok, q⟩
    | cont =>
      obtain ⟨σ', H', J', q⟩ := hsp
      exact ⟨σ', H', J'.ofTry ok, q⟩
    | ret u =>
      obtain ⟨v, σ', H', J', r, q⟩ := hsp
      exact ⟨v, σ', H', J'.ofTry ok, r, q⟩
  · intro u s' xx
    obtain ⟨a, B, sI, pins', σ', H', cls, d, rfl, J', nb, up, sky, na, os, ag, w⟩ := xx
    have J : Inv X pins σ' H' sI := J'.ofTry ok
    have sky' : Sky B (X.env :: X.outer) a (Zc cls d) X.env.locals s'.heap := by
      rw [← hs]
      exact sky
    show wpAny (model X.prog X.w) X.A (noteFrame (.ref a) X.env) _ _ _
    refine Sky.land Zc.steady hfr hf sky' ?_
    intro h3 fl3 up3
    exact clauses hs hf hN tk ok J nb na os ag up up3 fl3 hh w
end
end Nv

namespace Nv
open PySem PySem.Spec PyProof.Rows L2

/-! own errors with one attribute -/
def spXI (K : PySem.W.Frag) (f : Str) : Sp := fun vs H Q _ => ∃ (a C : Addr) (v : V), vs = [.ref a, v] ∧ OexC K C ∧ PySem.W.findIn K (.ref C) f = some none ∧
  H a = some (exo a C none) ∧ ∀ dx, H dx = none → dx ≠ a → Q .non (upd (upd H dx (exd dx [(f, v)])) a (exo a C (some dx)))
section
variable {P : Program} {w : World} {K : PySem.W.Frag} {mg : Str → Option Value} {base : Heap}
theorem ok_xi {qual f : Str} {st : Stmt} {fI : Addr} {fd : FuncData} {p1 p2 p3 p4 : Pos} (F : Fun K "__init__" qual st fI fd) (S : FnScope ["self", f] ["self", f] (defScope st))
    (hb : defBody st = [.Assign [.Attribute (.Name "self" p1) f p2] (.Name f p3) p4]) (hd : (f == ("__debug__" : Str)) = false) (hcd : (f == ("__classdict__" : Str)) = false) :
    FnOk P w K mg base CX0 1 fI fd ["self", f] (spXI K f) := by
  refine F.ok S (fun vs H Q E h => ?_) (fun cdv A outer s H vs Q E hr h => ?_)
  · obtain ⟨a, C, v, rfl, _⟩ := h
    rfl
  · obtain ⟨a, C, v, rfl, T, hn, he, q⟩ := h
    have v0 : Vis (defScope st) "self" := by
      rcases S.par "self" (by simp) with z | z
      · exact .inl z
      · exact .inr (.inl z)
    have v1 : Vis (defScope st) f := by
      rcases S.par f (by simp) with z | z
      · exact .inl z
      · exact .inr (.inl z)
    rw [hb]
    refine ⟨_, pss_one (ps_ost (pe_var (i := 0) rfl v0) (pe_var (i := 1) rfl v1 hd hcd) rfl), ?_⟩
    exact ⟨_, rfl, _, rfl, a, C, rfl, T, hn, .inl ⟨he, fun dx h1 h2 => q dx h1 h2⟩⟩
end
/-- what stands of an own error class with one attribute f: at C, its __init__ at fI -/
structure ErrT (K : PySem.W.Frag) (mg : Str → Option Value) (x f : Str) (C fI : Addr) : Prop where
  gC : mg x = some (.ref C)
  T : OexC K C
  iC : PySem.W.findIn K (.ref C) "__init__" = some (some (.ref fI))
  tI : PySem.W.typeIn K (.ref fI) = some (.type "function")
  noF : PySem.W.findIn K (.ref C) f = some none
  nv : PySem.W.NvCls K C
theorem ErrT.xf {K : PySem.W.Frag} {mg : Str → Option Value} {x f : Str} {C fI : Addr} (T : ErrT K mg x f C fI) : XfC K C := ⟨T.nv.ga, T.nv.gt, T.nv.sub, T.nv.dct⟩
section
variable {X : Cx} {W : WX} {e : Expr} {te : TE} {p pos pos2 : Pos} {x f : Str} {C fI : Addr} {fd : FuncData}
theorem pmk_imp {t t' : L2.St → Hp → XK → Prop} (h : PMk X e t) (i : ∀ σ H Q, t' σ H Q → t σ H Q) : PMk X e t' := fun pins s σ H Q I q => h pins s σ H Q I (i _ _ _ q)
/-- C(e): a new error -/
def tErr (C : Addr) (f : Str) (te : TE) : L2.St → Hp → XK → Prop := fun σ H Q => te σ H fun v H1 => ∀ d, H1 d = none → Q (.ref C) (some d) (upd H1 d (.xd [(f, v)]))
theorem exo_end {H1 : Hp} {a dx C : Addr} {f : Str} {v : V} (na : H1 a = none) (nd : dx ≠ a) : upd (del (upd (upd (upd H1 a (exo a C none)) dx (exd dx [(f, v)])) a (exo a C (some dx))) a) dx (.xd [(f, v)]) = upd H1 dx (.xd [(f, v)]) := by
  funext b
  by_cases h : b = dx
  · subst h
    rw [upd_same, upd_same]
  · rw [upd_ne h, upd_ne h]
    by_cases g : b = a
    · subst g
      rw [del_same, na]
    · rw [del_ne g, upd_ne g, upd_ne h, upd_ne g]
/-- one argument, its reading made monotone -/
theorem pa_any (he : PE X e te) (hs : starEach (e :: []) X.env = (false, eval e X.env) :: starEach [] X.env := by rfl) :
    PA X [e] (fun σ H Q => ∃ R : V → Hp → Prop, te σ H R ∧ ∀ v H1, R v H1 → Q [v] H1) := by
  constructor
  intro pos pins s σ H Q I ⟨R, h, k⟩
  have z := (pa_cons he pa_nil hs).run pos pins s σ H (fun vs H1 => ∃ v, vs = [v] ∧ R v H1) I
  have z2 : te σ H (fun v H1 => R v H1) := h
  have he2 : PE X e (fun σ' H' Q' => te σ' H' R ∧ ∀ v H1, R v H1 → Q' v H1) := by
    constructor
    intro pins s σ H Q I ⟨h1, h2⟩
    exact thn (he.run pins s σ H R I h1) fun u s1 ⟨v, H1, I1, r, q⟩ => ⟨v, H1, I1, r, h2 v H1 q⟩
  exact (pa_cons he2 pa_nil hs).run pos pins s σ H Q I ⟨h, fun v H1 q => k v H1 q⟩
theorem pmk_err (T : ErrT X.K X.mg x f C fI) (F : FnOk X.prog X.w X.K X.mg X.base CX0 1 fI fd ["self", f] (spXI X.K f)) (hb : Binds X.K fd ["self", f] []) (hr : Room 2 X.A) (he : PE X e te) (hg : Gl X x := by rfl)
    (hdb : (x == ("__debug__" : Str)) = false := by decide) (hs : starEach (e :: []) X.env = (false, eval e X.env) :: starEach [] X.env := by rfl) (hpl : (backTo pos (starEach [] X.env)).any (·.1) = false := by rfl) :
    PMk X (.Call (.Name x p) [e] [] pos) (tErr C f te) := by
  refine pmk_imp (pmk_oex (CX := CX0) (dvs := []) (ds := []) T.T T.iC T.tI F hr hb .nil pass0 hg T.gC (pa_any he hs) hdb hs hpl) ?_
  intro σ H Q h
  refine ⟨_, h, fun v H1 k => ⟨by show 1 ≤ 1000; decide, fun a na => ?_⟩⟩
  refine ⟨a, C, v, rfl, T.T, T.noF, upd_same, fun dx h1 h2 => ⟨rfl, dx, [(f, v)], upd_same, ?_, ?_, ?_⟩⟩
  · rw [upd_ne h2, upd_same]
  · rw [upd_ne h2] at h1
    exact h1
  · rw [exo_end na h2]
    rw [upd_ne h2] at h1
    exact k dx h1
/-- raise C(e) -/
def tRaise1 (C : Addr) (f : Str) (W : WX) (te : TE) : TS := fun _ σ H => tErr C f te σ H fun cls d H' => W cls d σ H'
theorem ps_err (hc : X.calm = true) (tk : Takes X W) (T : ErrT X.K X.mg x f C fI) (F : FnOk X.prog X.w X.K X.mg X.base CX0 1 fI fd ["self", f] (spXI X.K f)) (hb : Binds X.K fd ["self", f] []) (hr : Room 2 X.A) (he : PE X e te) (hg : Gl X x := by rfl)
    (hdb : (x == ("__debug__" : Str)) = false := by decide) (hs : starEach (e :: []) X.env = (false, eval e X.env) :: starEach [] X.env := by rfl) (hpl : (backTo pos (starEach [] X.env)).any (·.1) = false := by rfl) :
    PS X (.Raise (some (.Call (.Name x p) [e] [] pos)) none pos2) (tRaise1 C f W te) := ps_raise hc tk (pmk_err T F hb hr he hg hdb hs hpl)
end

/-! displays whose place is not that of sys.modules -/
section
variable {X : Cx} {es : List Expr} {t : TA} {pos : Pos}
def tLst1 (t : TA) : TE := fun σ H Q => t σ H fun xs H1 => xs.length ≤ sizeLine ∧ ∀ p, H1 p = none → p ≠ sysModules → Q (.ref p) (upd H1 p (.lst xs))
theorem pe_lst1 (h : PA X es t) : PE X (.List es pos) (tLst1 t) := by
  constructor
  intro pins s σ H Q I hq
  refine wpAny_List_spliced (thn (h.run pos pins s σ H _ I hq) ?_)
  intro us s1 ⟨xs, H1, I1, r, z, q⟩
  have hf : H1 s1.heap.objs.size = none := I1.hok.fresh (Nat.le_refl _)
  refine ⟨by rw [← r.length]; exact z, ?_⟩
  refine ⟨.ref s1.heap.objs.size, upd H1 s1.heap.objs.size (.lst xs), I1.laid (t' := s1.toks) (fun b u e => Heap.get?_push_of_some _ e) (Nat.le_refl _) ?_, rfl, q _ hf (Nat.ne_of_gt I1.big)⟩
  exact ⟨z, us, 0, r, Heap.get?_push_size _ rfl⟩
end
end Nv

namespace Nv
open PySem PySem.Spec PyProof.Rows L2

/-! a def, a method, an __init__ of the text as they stand behind the top -/
structure DefT (K : PySem.W.Frag) (mg : Str → Option Value) (x : Str) (st : Stmt) (ps : List Str) : Type where
  f : Addr
  fd : FuncData
  F : Fun K x x st f fd
  m : mg x = some (.ref f)
  b : Pos1 fd ps
  kb : Kw1 fd ps ps 0
structure MethT (K : PySem.W.Frag) (C : Addr) (x qual : Str) (st : Stmt) (ps : List Str) : Type where
  f : Addr
  fd : FuncData
  F : Fun K x qual st f fd
  me : Meth K C x f
  b : Pos1 fd ps
  kb : Kw1 fd ps ps.tail 1
structure InitT (K : PySem.W.Frag) (C : Addr) (qual : Str) (st : Stmt) (ps : List Str) : Type where
  f : Addr
  fd : FuncData
  F : Fun K "__init__" qual st f fd
  bi : Binds K fd ps []
structure PropT (K : PySem.W.Frag) (C : Addr) (x qual : Str) (st : Stmt) : Type where
  p : Addr
  g : Addr
  fd : FuncData
  F : Fun K x qual st g fd
  po : PropOf K C x p g
  bi : Binds K fd ["self"] []

/-- a body that lets nothing out -/
theorem okG0 {P : Program} {w : World} {K : PySem.W.Frag} {mg : Str → Option Value} {base : Heap} {k : Nat} {f : Addr} {fd : FuncData} {ps : List Str} {sp : Sp} {x qual : Str} {st : Stmt} {N : List Str}
    (F : Fun K x qual st f fd) (S : FnScope N ps (defScope st)) (len : ∀ vs H Q E, sp vs H Q E → vs.length = ps.length)
    (body : ∀ (cdv : Value) (A : Around) (outer : List Env) (s : Shared) (H : Hp) (vs : List V) (Q : VK) (E : XK),
      A.guards = some [] → Room k (A.deeper (envOfC qual (defScope st) s.heap.objs.size f cdv)) → sp vs H Q E →
      ∃ t, PSs (cxOf (L2.CX P w) P w K mg base N qual (defScope st) f cdv A outer s H E).nox (defBody st) t ∧
        t { nx := fun _ H' => Q .non H', rt := Q } (start N vs) H) : FnG P w K mg base (k + 1) f fd ps sp :=
  okG F S len fun cdv A outer s H vs Q E hg hr hsp => by
    obtain ⟨t, h, q⟩ := body cdv A outer s H vs Q E hg hr hsp
    exact ⟨t, h.nox, q⟩

/-! the kinds of data -/
def tyName : PyData → String
  | .none => "NoneType"
  | .bool _ => "bool"
  | .int _ => "int"
  | .str _ => "str"
  | .list _ => "list"
  | .tuple _ => "tuple"
  | .dict _ => "dict"
theorem DV.ty {K : PySem.W.Frag} {H : Hp} {v : V} {d : PyData} (h : DV H v d) : TyX K H v (.type (tyName d)) := by
  cases h with
  | non => exact .base .non
  | bl b => exact .base (.bl b)
  | int i => exact .base (.int i)
  | str x => exact .base (.str x)
  | lst e _ _ => exact .base (.lst e)
  | tup e _ => exact .base (.tup e)
  | dct e _ => exact .base (.dK e)
theorem r_isi {K : PySem.W.Frag} {H : Hp} {Q : VK} {v : V} {d : PyData} {T : String} {b : Bool} (h : DV H v d) (e : kitB (tyName d) T = some b) (q : Q (.bl b) H) : rIsi K [v, .ty T] H Q :=
  ⟨v, .ty T, _, _, b, rfl, .ty T, h.ty, kit_ty e, q⟩
def isI : PyData → Bool
  | .int _ => true
  | _ => false
def isB : PyData → Bool
  | .bool _ => true
  | _ => false
def isS : PyData → Bool
  | .str _ => true
  | _ => false
def isL : PyData → Bool
  | .list _ => true
  | _ => false
theorem kit_int (d : PyData) : kitB (tyName d) "int" = some (isI d || isB d) := by
  cases d with
  | none => exact (by decide +kernel : kitB "NoneType" "int" = some false)
  | bool b => exact (by decide +kernel : kitB "bool" "int" = some true)
  | int i => exact (by decide +kernel : kitB "int" "int" = some true)
  | str x => exact (by decide +kernel : kitB "str" "int" = some false)
  | list l => exact (by decide +kernel : kitB "list" "int" = some false)
  | tuple l => exact (by decide +kernel : kitB "tuple" "int" = some false)
  | dict l => exact (by decide +kernel : kitB "dict" "int" = some false)
theorem kit_bool (d : PyData) : kitB (tyName d) "bool" = some (isB d) := by
  cases d with
  | none => exact (by decide +kernel : kitB "NoneType" "bool" = some false)
  | bool b => exact (by decide +kernel : kitB "bool" "bool" = some true)
  | int i => exact (by decide +kernel : kitB "int" "bool" = some false)
  | str x => exact (by decide +kernel : kitB "str" "bool" = some false)
  | list l => exact (by decide +kernel : kitB "list" "bool" = some false)
  | tuple l => exact (by decide +kernel : kitB "tuple" "bool" = some false)
  | dict l => exact (by decide +kernel : kitB "dict" "bool" = some false)
theorem kit_str (d : PyData) : kitB (tyName d) "str" = some (isS d) := by
  cases d with
  | none => exact (by decide +kernel : kitB "NoneType" "str" = some false)
  | bool b => exact (by decide +kernel : kitB "bool" "str" = some false)
  | int i => exact (by decide +kernel : kitB "int" "str" = some false)
  | str x => exact (by decide +kernel : kitB "str" "str" = some true)
  | list l => exact (by decide +kernel : kitB "list" "str" = some false)
  | tuple l => exact (by decide +kernel : kitB "tuple" "str" = some false)
  | dict l => exact (by decide +kernel : kitB "dict" "str" = some false)
theorem kit_list (d : PyData) : kitB (tyName d) "list" = some (isL d) := by
  cases d with
  | none => exact (by decide +kernel : kitB "NoneType" "list" = some false)
  | bool b => exact (by decide +kernel : kitB "bool" "list" = some false)
  | int i => exact (by decide +kernel : kitB "int" "list" = some false)
  | str x => exact (by decide +kernel : kitB "str" "list" = some false)
  | list l => exact (by decide +kernel : kitB "list" "list" = some true)
  | tuple l => exact (by decide +kernel : kitB "tuple" "list" = some false)
  | dict l => exact (by decide +kernel : kitB "dict" "list" = some false)

/-! str * int -/
def rMulS : R2 := fun x y H Q => ∃ (z : Str) (k : Int), x = .str z ∧ y = .int k ∧ PySem.MulOk z k ∧ Q (.str (Txt.mul z k)) H
theorem op_mul_str {X : Cx} : OpR X (binaryOp .Mult) rMulS := by
  intro pins s σ H x y v u Q I rx ry h
  obtain ⟨z, k, rfl, rfl, hok, q⟩ := h
  obtain ⟨t, rfl⟩ := (show ∃ t, v = Value.str z t from rx)
  obtain ⟨t2, rfl⟩ := (show ∃ t, u = Value.int k t from ry)
  exact PySem.SB.mul hok fun t' tk => ⟨.str (Txt.mul z k), H, I.tok tk, ⟨t', rfl⟩, q⟩

/-! heaps -/
/-- all that was tracked stands as it was, but what stands at p -/
def Ext1 (p : Addr) (H H' : Hp) : Prop := ∀ a o, a ≠ p → H a = some o → H' a = some o
theorem Ext1.refl (p : Addr) (H : Hp) : Ext1 p H H := fun _ _ _ h => h
theorem Ext1.trans {p : Addr} {H H1 H2 : Hp} (a : Ext1 p H H1) (b : Ext1 p H1 H2) : Ext1 p H H2 := fun c o n h => b c o n (a c o n h)
theorem Same.ext1 {p : Addr} {H H' : Hp} (e : Same H H') : Ext1 p H H' := fun a o _ h => e a o h
theorem Same.new {H : Hp} {p : Addr} {o : HO} (n : H p = none) : Same H (upd H p o) := fun b u e => by
  rw [upd_ne (ne_of_none e n)]
  exact e
theorem Ext1.upd {p : Addr} {H : Hp} {o : HO} : Ext1 p H (upd H p o) := fun a u n h => by
  rw [upd_ne n]
  exact h
end Nv

namespace Nv
open PySem PySem.Spec PyProof.Rows L2

/-! what a step asks of the heap, kept whole -/
def rFld (K : PySem.W.Frag) (f : Str) : V → Hp → VK → Prop := fun x H Q => ∃ a C dx fs v, x = .ref a ∧ H a = some (.ins C dx fs) ∧ Cls K C ∧ NoAttr K C f ∧ fs.lookup f = some v ∧ Q v H
def rStF (K : PySem.W.Frag) (f : Str) : V → V → Hp → (Hp → Prop) → Prop := fun x y H R => ∃ a C dx fs, x = .ref a ∧ H a = some (.ins C dx fs) ∧ Cls K C ∧ NoAttr K C f ∧ fs.length < 1000 ∧ R (upd H a (.ins C dx (putF f y fs)))
def rMeth (C : Addr) (m : Str) : V → Hp → (Hp → Prop) → Prop := fun x H R => ∃ a dx fs, x = .ref a ∧ H a = some (.ins C dx fs) ∧ fs.lookup m = none ∧ R H
def rPrp (C : Addr) (sp : Sp) (dvs : List V) (E : XK) : V → Hp → VK → Prop := fun x H Q => ∃ a dx fs, x = .ref a ∧ H a = some (.ins C dx fs) ∧ sp (.ref a :: dvs) H Q E
/-- a new object's heap by a name of its own -/
theorem gen_new {H : Hp} {p : Addr} (o : HO) (h : H p = none) : ∃ H', upd H p o = H' ∧ Same H H' ∧ H' p = some o :=
  ⟨_, rfl, fun b u e => by rw [upd_ne (ne_of_none e h)]; exact e, upd_same⟩
def rXf (a : Addr) (cls : Value) (d : Option Addr) (C : Addr) (f : Str) : V → Hp → VK → Prop := fun x H Q => x = .ref a ∧ cls = .ref C ∧ ∃ (dd : Addr) (fs : List (Str × V)) (v : V), d = some dd ∧ H dd = some (.xd fs) ∧ fs.lookup f = some v ∧ Q v H
theorem e_xf {a : Addr} {cls : Value} {d : Option Addr} {C : Addr} {f : Str} {te : TE} {σ : L2.St} {H : Hp} {Q : VK} : tXf a cls d C f te σ H Q = te σ H (fun x H1 => rXf a cls d C f x H1 Q) := rfl
theorem r_xf {a dd C : Addr} {f : Str} {v : V} {H : Hp} {Q : VK} (h : H dd = some (.xd [(f, v)])) (q : Q v H) : rXf a (.ref C) (some dd) C f (.ref a) H Q :=
  ⟨rfl, rfl, dd, _, v, rfl, h, by simp [List.lookup], q⟩
theorem r_isX {K : PySem.W.Frag} {D U dd a : Addr} {f : Str} {v : V} {H : Hp} {Q : VK} {b : Bool} (n : PySem.W.NvCls K D) (k : PySem.W.kitOne K (.ref D) (.ref U) = some b) (h : H dd = some (.xd [(f, v)])) (q : Q (.bl b) H) :
    rIsXd K (.ref D) (some dd) a [.ref a, .ref U] H Q := ⟨D, .ref U, .ref U, b, rfl, rfl, n, fun u r => r, k, fun x e => by cases e; exact ⟨_, h⟩, q⟩
theorem e_wipe0 {σ : L2.St} : wipe σ [] = σ := rfl
theorem e_wipe1 {σ : L2.St} {v : Nat} {vs : List Nat} : wipe σ (v :: vs) = (wipe σ vs).set v none := rfl
theorem e_disp {trs : List (TE × TE)} {σ : L2.St} {H : Hp} {Q : VK} : tDisp trs σ H Q = ∀ p, H p = none → tPairs trs σ (upd H p (.dK [])) fun ps H2 => H2 p = some (.dK []) ∧ ∃ kvs : List (Key × V), ps = kvs.map (fun kv => (kV kv.1, kv.2)) ∧ kvs.length ≤ 15 ∧ Q (.ref p) (upd H2 p (.dK (mergeK [] kvs))) := rfl
theorem e_tyes {σ : L2.St} {H : Hp} {R : Bool → Hp → Prop} : tYes σ H R = R true H := rfl
def rP2 (k : V → V → Prop) (vs : List V) : Prop := ∃ v w, vs = [v, w] ∧ k v w
def rP3 (k : V → V → V → Prop) (vs : List V) : Prop := ∃ u v w, vs = [u, v, w] ∧ k u v w
theorem e_rP2 {k : V → V → Prop} {a b : V} : rP2 k [a, b] = k a b := propext ⟨fun ⟨_, _, e, h⟩ => by cases e; exact h, fun h => ⟨_, _, rfl, h⟩⟩
theorem e_rP3 {k : V → V → V → Prop} {a b c : V} : rP3 k [a, b, c] = k a b c := propext ⟨fun ⟨_, _, _, e, h⟩ => by cases e; exact h, fun h => ⟨_, _, _, rfl, h⟩⟩
def rUnp (K : PySem.W.Frag) (n : Nat) : V → Hp → (List V → Prop) → Prop := fun v H R => ∃ a xs, v = .ref a ∧ SqT K H a xs ∧ xs.length = n ∧ R xs
theorem r_fld {K : PySem.W.Frag} {f : Str} {a C dx : Addr} {fs : List (Str × V)} {v : V} {H : Hp} {Q : VK} (h : H a = some (.ins C dx fs)) (c : Cls K C) (n : NoAttr K C f) (l : fs.lookup f = some v) (q : Q v H) : rFld K f (.ref a) H Q :=
  ⟨a, C, dx, fs, v, rfl, h, c, n, l, q⟩
theorem r_stF {K : PySem.W.Frag} {f : Str} {a C dx : Addr} {fs : List (Str × V)} {y : V} {H : Hp} {R : Hp → Prop} (h : H a = some (.ins C dx fs)) (c : Cls K C) (n : NoAttr K C f) (l : fs.length < 1000) (q : R (upd H a (.ins C dx (putF f y fs)))) : rStF K f (.ref a) y H R :=
  ⟨a, C, dx, fs, rfl, h, c, n, l, q⟩
theorem r_meth {C a dx : Addr} {m : Str} {fs : List (Str × V)} {H : Hp} {R : Hp → Prop} (h : H a = some (.ins C dx fs)) (l : fs.lookup m = none) (q : R H) : rMeth C m (.ref a) H R := ⟨a, dx, fs, rfl, h, l, q⟩
theorem r_prp {C a dx : Addr} {sp : Sp} {dvs : List V} {E : XK} {fs : List (Str × V)} {H : Hp} {Q : VK} (h : H a = some (.ins C dx fs)) (q : sp (.ref a :: dvs) H Q E) : rPrp C sp dvs E (.ref a) H Q := ⟨a, dx, fs, rfl, h, q⟩
theorem r_unp {K : PySem.W.Frag} {n : Nat} {a : Addr} {xs : List V} {H : Hp} {R : List V → Prop} (h : SqT K H a xs) (l : xs.length = n) (q : R xs) : rUnp K n (.ref a) H R := ⟨a, xs, rfl, h, l, q⟩
theorem r_setL {p : Addr} {i : Int} {xs : List V} {j : Nat} {v : V} {H : Hp} {R : Hp → Prop} (h : H p = some (.lst xs)) (e : ixN xs.length i = some j) (q : R (upd H p (.lst (xs.set j v)))) : rSetL (.ref p) (.int i) v H R := ⟨p, xs, i, j, rfl, rfl, h, e, q⟩
/-! the readings, one step each, as equations -/
section
variable {σ : L2.St} {H : Hp} {Q : VK} {D : Ends} {t u : TS} {ta tb te tc : TE} {tt tu : TT} {tr : TA} {to th tl : TO} {i j l : Nat} {v x y : V} {r : R2} {K : PySem.W.Frag} {f : Str} {g : TG} {gs : TGs}
theorem e_seq : tSeq t u D σ H = t { D with nx := u D } σ H := rfl
theorem e_next : tNext D σ H = D.nx σ H := rfl
theorem e_asg : tAsg te g D σ H = te σ H (fun x H1 => g x σ H1 D.nx) := rfl
theorem e_gname {R : L2.St → Hp → Prop} : gName i v σ H R = R (σ.set i (some v)) H := rfl
theorem e_gtup {n : Nat} {R : L2.St → Hp → Prop} : gTup K n gs v σ H R = rUnp K n v H (fun xs => gs xs σ H R) := rfl
theorem e_gcons {a : V} {vs : List V} {R : L2.St → Hp → Prop} : gCons g gs (a :: vs) σ H R = g a σ H (fun σ' H' => gs vs σ' H' R) :=
  propext ⟨fun ⟨_, _, e, h⟩ => by cases e; exact h, fun h => ⟨_, _, rfl, h⟩⟩
theorem e_gnil {R : L2.St → Hp → Prop} : gNil [] σ H R = R σ H := propext ⟨fun h => h.2, fun h => ⟨rfl, h⟩⟩
theorem e_gsub {s : TSet} {R : L2.St → Hp → Prop} : gSub ta tb s v σ H R = ta σ H (fun o H1 => tb σ H1 fun i H2 => s o i v H2 fun H3 => R σ H3) := rfl
theorem e_ret : tRet te D σ H = te σ H D.rt := rfl
theorem e_retN : tRetN D σ H = D.rt .non H := rfl
theorem e_if : tIfS tt t u D σ H = tt σ H (fun b H1 => if b = true then t D σ H1 else u D σ H1) := rfl
theorem e_drop : tDrop te D σ H = te σ H (fun _ H1 => D.nx σ H1) := rfl
theorem e_par : tPar i j tr D σ H = tr σ H (fun vs H1 => rP2 (fun v w => D.nx ((σ.set i (some v)).set j (some w)) H1) vs) := rfl
theorem e_par3 : tPar3 i j l tr D σ H = tr σ H (fun vs H1 => rP3 (fun u v w => D.nx (((σ.set i (some u)).set j (some v)).set l (some w)) H1) vs) := rfl
theorem e_sfld : sFld K ta te f D σ H = te σ H (fun y H1 => ta σ H1 fun x H2 => rStF K f x y H2 fun H3 => D.nx σ H3) := rfl
theorem e_var : tVar i σ H Q = ∃ v, σ[i]? = some (some v) ∧ Q v H := rfl
theorem e_c : tC v σ H Q = Q v H := rfl
theorem e_op : tOp r ta tb σ H Q = ta σ H (fun x H1 => tb σ H1 fun y H2 => r x y H2 Q) := rfl
theorem e_un {ru : V → Hp → VK → Prop} : tUn ru ta σ H Q = ta σ H (fun x H1 => ru x H1 Q) := rfl
theorem e_ri {C : Int → Int → Prop} {g : Int → Int → V} {a b : Int} : rI C g (.int a) (.int b) H Q = (C a b ∧ Q (g a b) H) :=
  propext ⟨fun ⟨_, _, e1, e2, c, q⟩ => by cases e1; cases e2; exact ⟨c, q⟩, fun ⟨c, q⟩ => ⟨_, _, rfl, rfl, c, q⟩⟩
theorem e_ri0 {g : Int → Int → V} {a b : Int} : rI0 g (.int a) (.int b) H Q = Q (g a b) H :=
  propext ⟨fun ⟨_, _, e1, e2, q⟩ => by cases e1; cases e2; exact q, fun q => ⟨_, _, rfl, rfl, q⟩⟩
theorem e_ru {g : Int → V} {a : Int} : rU g (.int a) H Q = Q (g a) H :=
  propext ⟨fun ⟨_, e1, q⟩ => by cases e1; exact q, fun q => ⟨_, rfl, q⟩⟩
theorem e_eq : rEq x y H Q = (scal x y = true ∧ Q (.bl (decide (x = y))) H) := rfl
theorem e_ne : rNe x y H Q = (scal x y = true ∧ Q (.bl (!decide (x = y))) H) := rfl
theorem e_test {R : Bool → Hp → Prop} : tTest te σ H R = te σ H (fun x H' => ∃ k, x = .bl k ∧ R k H') := rfl
theorem e_B {R : Bool → Hp → Prop} : tB te σ H R = te σ H (fun x H1 => ∃ c, x = .bl c ∧ R c H1) := rfl
theorem e_and {R : Bool → Hp → Prop} : tAnd tt tu σ H R = tt σ H (fun c H1 => if c = true then tu σ H1 R else R false H1) := rfl
theorem e_or {R : Bool → Hp → Prop} : tOr tt tu σ H R = tt σ H (fun c H1 => if c = true then R true H1 else tu σ H1 R) := rfl
theorem e_not {R : Bool → Hp → Prop} : tNot tt σ H R = tt σ H (fun c H1 => R (!c) H1) := rfl
theorem e_andV : tAndV ta tb σ H Q = ta σ H (fun x H1 => ∃ c, x = .bl c ∧ if c = true then tb σ H1 Q else Q (.bl false) H1) := rfl
theorem e_orV : tOrV ta tb σ H Q = ta σ H (fun x H1 => ∃ c, x = .bl c ∧ if c = true then Q (.bl true) H1 else tb σ H1 Q) := rfl
theorem e_notV : tNotV ta σ H Q = ta σ H (fun x H1 => ∃ c, x = .bl c ∧ Q (.bl (!c)) H1) := rfl
theorem e_ifE : tIf tt ta tb σ H Q = tt σ H (fun c H1 => if c = true then ta σ H1 Q else tb σ H1 Q) := rfl
theorem e_cb {rc : List V → Hp → VK → Prop} : tCB rc tr σ H Q = tr σ H (fun vs H1 => rc vs H1 Q) := rfl
theorem e_nil {R : List V → Hp → Prop} : tNil σ H R = R [] H := rfl
theorem e_cons {R : List V → Hp → Prop} : tCons ta tr σ H R = ta σ H (fun x H1 => tr σ H1 fun xs H2 => R (x :: xs) H2) := rfl
theorem e_tup : tTup tr σ H Q = tr σ H (fun xs H1 => xs.length ≤ sizeLine ∧ ∀ p, H1 p = none → Q (.ref p) (upd H1 p (.tup xs))) := rfl
theorem e_lst1 : tLst1 tr σ H Q = tr σ H (fun xs H1 => xs.length ≤ sizeLine ∧ ∀ p, H1 p = none → p ≠ sysModules → Q (.ref p) (upd H1 p (.lst xs))) := rfl
theorem e_fld : tFld K ta f σ H Q = ta σ H (fun x H1 => rFld K f x H1 Q) := rfl
theorem e_slice {rs : V → Option Int → Option Int → Hp → VK → Prop} : L2.tSl rs te tl th σ H Q = te σ H (fun x H1 => tl σ H1 fun a H2 => th σ H2 fun b H3 => rs x a b H3 Q) := rfl
theorem e_nopart {R : Option Int → Hp → Prop} : tNoPart σ H R = R none H := rfl
theorem e_part {R : Option Int → Hp → Prop} : tPart te σ H R = te σ H (fun x H1 => ∃ i, x = .int i ∧ R (some i) H1) := rfl
theorem e_bm0 {T : String} {rm : V → List V → Hp → VK → Prop} : tBM0 K T rm te σ H Q = te σ H (fun x H1 => tyV K T x H1 ∧ rm x [] H1 Q) := rfl
theorem e_bm {T : String} {rm : V → List V → Hp → VK → Prop} : tBM K T rm te tr σ H Q = te σ H (fun x H1 => tyV K T x H1 ∧ tr σ H1 fun xs H2 => rm x xs H2 Q) := rfl
theorem e_m1 {rm : V → List V → Hp → VK → Prop} : tM1 rm ta te σ H Q = ta σ H (fun x H1 => (∃ a, x = .str a) ∧ te σ H1 fun y H2 => rm x [y] H2 Q) := rfl
theorem e_cg {sp : Sp} {W : WX} : tCG sp W tr σ H Q = tr σ H (fun vs H1 => sp vs H1 Q (WE W σ)) := rfl
theorem e_mg {C : Addr} {m : Str} {sp : Sp} {W : WX} : tMG C m sp W ta tr σ H Q = ta σ H (fun x H1 => rMeth C m x H1 fun H1' => tr σ H1' fun vs H2 => sp (x :: vs) H2 Q (WE W σ)) :=
  by
    unfold tMG rMeth
    rfl
theorem e_make {C : Addr} {sp : Sp} {dvs : List V} {E : XK} : tMake C sp dvs E tr σ H Q = tr σ H (fun vs H1 => ∀ x dx, H1 x = none → H1 dx = none → dx ≠ x →
  sp (.ref x :: (vs ++ dvs)) (upd (upd H1 dx (.own x)) x (.ins C dx [])) (fun v H2 => v = .non ∧ Q (.ref x) H2) E) := rfl
theorem e_prop {C : Addr} {sp : Sp} {dvs : List V} {E : XK} : tProp C sp dvs E ta σ H Q = ta σ H (fun x H1 => rPrp C sp dvs E x H1 Q) := rfl
theorem e_raise1 {C : Addr} {W : WX} : tRaise1 C f W te D σ H = te σ H (fun v H1 => ∀ d, H1 d = none → W (.ref C) (some d) σ (upd H1 d (.xd [(f, v)]))) := rfl
theorem e_chain {r' : R2} : tChain r r' ta tb tc σ H Q = ta σ H (fun x H1 => tb σ H1 fun y H2 => r x y H2 fun z H3 => ∃ k, z = .bl k ∧ (if k = true then tc σ H3 fun w' H4 => r' y w' H4 Q else Q (.bl false) H3)) := rfl
theorem e_mulS {z : Str} {k : Int} : rMulS (.str z) (.int k) H Q = (PySem.MulOk z k ∧ Q (.str (Txt.mul z k)) H) :=
  propext ⟨fun ⟨_, _, e1, e2, c, q⟩ => by cases e1; cases e2; exact ⟨c, q⟩, fun ⟨c, q⟩ => ⟨_, _, rfl, rfl, c, q⟩⟩
theorem e_slS {z : Str} {lo hi : Option Int} : rSlS (.str z) lo hi H Q = (z.length ≤ sizeLine ∧ Q (.str (cutS z lo hi)) H) :=
  propext ⟨fun ⟨_, e1, c, q⟩ => by cases e1; exact ⟨c, q⟩, fun ⟨c, q⟩ => ⟨_, rfl, c, q⟩⟩
theorem e_ixL {p : Addr} {i : Int} : rIxL K (.ref p) (.int i) H Q = ∃ xs v, SqL K H p xs ∧ atI xs i = some v ∧ Q v H :=
  propext ⟨fun ⟨_, xs, _, v, e1, e2, c, d, q⟩ => by cases e1; cases e2; exact ⟨xs, v, c, d, q⟩, fun ⟨xs, v, c, d, q⟩ => ⟨_, xs, _, v, rfl, rfl, c, d, q⟩⟩
theorem e_ixT {p : Addr} {i : Int} : rIxT K (.ref p) (.int i) H Q = ∃ xs v, SqT K H p xs ∧ atI xs i = some v ∧ Q v H :=
  propext ⟨fun ⟨_, xs, _, v, e1, e2, c, d, q⟩ => by cases e1; cases e2; exact ⟨xs, v, c, d, q⟩, fun ⟨xs, v, c, d, q⟩ => ⟨_, xs, _, v, rfl, rfl, c, d, q⟩⟩
theorem e_ixS {z : Str} {i : Int} : rIxS (.str z) (.int i) H Q = ∃ c, z.length ≤ sizeLine ∧ atI z.cps.toList i = some c ∧ Q (.str ⟨#[c]⟩) H :=
  propext ⟨fun ⟨_, _, c, e1, e2, d, a, q⟩ => by cases e1; cases e2; exact ⟨c, d, a, q⟩, fun ⟨c, d, a, q⟩ => ⟨_, _, c, rfl, rfl, d, a, q⟩⟩
theorem e_setL {p : Addr} {k : Int} {R : Hp → Prop} : rSetL (.ref p) (.int k) v H R = ∃ xs j, H p = some (.lst xs) ∧ ixN xs.length k = some j ∧ R (upd H p (.lst (xs.set j v))) :=
  propext ⟨fun ⟨_, xs, _, j, e1, e2, c, d, q⟩ => by cases e1; cases e2; exact ⟨xs, j, c, d, q⟩, fun ⟨xs, j, c, d, q⟩ => ⟨_, xs, _, j, rfl, rfl, c, d, q⟩⟩
theorem r_ixL {p : Addr} {i : Int} {xs : List V} {v : V} (h : SqL K H p xs) (e : atI xs i = some v) (q : Q v H) : rIxL K (.ref p) (.int i) H Q := ⟨_, xs, _, v, rfl, rfl, h, e, q⟩
theorem r_ixT {p : Addr} {i : Int} {xs : List V} {v : V} (h : SqT K H p xs) (e : atI xs i = some v) (q : Q v H) : rIxT K (.ref p) (.int i) H Q := ⟨_, xs, _, v, rfl, rfl, h, e, q⟩
end
theorem e_cxK {CX : CXT} {P : Program} {w : World} {mg : Str → Option Value} {base : Heap} {N : List Str} {qual : Str} {scope : Scope} {f : Addr} {cd : Value} {A : Around} {outer : List Env} {s : Shared} {H : Hp} {E : XK} {K : PySem.W.Frag} :
    (cxOf CX P w K mg base N qual scope f cd A outer s H E).K = K := rfl
theorem e_pt {R : Bool → Hp → Prop} {σ : L2.St} {H : Hp} {t : TT} {b : Bool} (h : t σ H R) : t σ H R := h
/-- int(n), n an int -/
theorem call_intI {X : Cx} : CallR X (.type "int") (fun xs H Q => ∃ i, xs = [.int i] ∧ Q (.int i) H) := by
  intro pins s σ H xs us Q I r h
  obtain ⟨i, e, q⟩ := h
  exact call_int1 pins s σ H xs us Q I r (.inl ⟨i, e, q⟩)
/-- σ at the entry -/
theorem start_def {N : List Str} {vs : List V} : L2.start N vs = vs.map some ++ List.replicate (N.length - vs.length) none := rfl
end Nv

namespace Nv
open PySem PySem.Spec PyProof.Rows L2

/-! {n:04d} -/
/-- the text of {i:04d} -/
def four (i : Int) : Str := ⟨(List.replicate (4 - (Nat.toDigits 10 i.natAbs).length) 48 ++ (Nat.toDigits 10 i.natAbs).map Char.toNat).toArray⟩
theorem four_len {i : Int} (h1 : i.natAbs < 10000) : (four i).length ≤ 4 := by
  have h := digits10_le (k := 4) (n := i.natAbs) (by decide) (by omega)
  show ((List.replicate (4 - (Nat.toDigits 10 i.natAbs).length) 48 ++ (Nat.toDigits 10 i.natAbs).map Char.toNat).toArray).size ≤ 4
  simp
  omega
theorem small_log {n : Nat} (h : n < 10000) : n.log2 < 1920 := by
  by_cases h0 : n = 0
  · subst h0
    decide
  · rw [Nat.log2_lt h0]
    exact Nat.lt_of_lt_of_le h (by
      have : (2 : Nat) ^ 14 ≤ 2 ^ 1920 := Nat.pow_le_pow_right (by decide) (by decide)
      omega)
def f4 : Builtin.Float.FormatSpec := { fill := 48, align := 61, width := some 4, type := some 100 }
theorem gives_four (i : Int) (t u : Tok) (h0 : 0 ≤ i) (h1 : i.natAbs < 10000) : Gives (Builtin.«int.__format__» ⟨[.int i t, .str "04d" u], []⟩) (.str (four i)) := by
  intro prog w A R s hq
  unfold Builtin.«int.__format__»
  simp only [selfAndOne, noKeywords, Builtin.Int.intOfSelf, asInt?, asStr?, List.isEmpty_nil, if_true, pure_bind, bind_pure, bind_assoc, show (Value.str "04d" u == Value.none) = false from rfl, Bool.false_eq_true, if_false,
    show ((Str.ofString "04d").length == 0) = false from by decide +kernel]
  refine wpAny_bind (wpAny_typeNameOf (T := "str") (typeIs_str _ _ _) (by decide) fun _ => ?_)
  rw [if_neg (by decide +kernel)]
  first | refine wpAny_bind (wpAny_typeNameOfCut_int ?_) | refine wpAny_bind (wpAny_typeNameOf_int ?_)
  obtain ⟨f, hp, hty, hpr, hz, hal, hw, hgr, hsg, hfi, hag⟩ : ∃ f, Builtin.Float.parseFormatSpec (Str.ofString "04d").cps.toList "int" 62 = .ok f ∧ f.type = some 100 ∧ f.precision = none ∧ f.noNeg0 = false ∧ f.alt = false ∧ f.width = some 4 ∧ f.grouping = none ∧ f.sign = none ∧ f.fill = 48 ∧ f.align = 61 :=
    ⟨f4, rfl, rfl, rfl, rfl, rfl, rfl, rfl, rfl, rfl, rfl⟩
  simp only [hp, hty, Option.getD_some]
  rw [if_pos (by decide)]
  show wpAny _ _ (if _ then _ else _) _ _ _
  rw [if_neg (by simp [hpr])]
  show wpAny _ _ (if _ then _ else _) _ _ _
  rw [if_neg (by simp [hz])]
  show wpAny _ _ (if _ then _ else _) _ _ _
  rw [if_neg (by decide)]
  show wpAny _ _ (do let r ← Builtin.overDigitLimit? i; _) _ _ _
  rw [PySem.overDigitLimit_small (small_log h1)]
  refine wpAny_bind (wpAny_pure ?_)
  show wpAny _ _ (if _ then _ else _) _ _ _
  rw [if_neg (by simp [hw])]
  show wpAny _ _ (retStr _) _ _ _
  have hd : ((Nat.toDigits 10 i.natAbs).map fun c => (if (100 : Nat) == 88 then c.toUpper else c).toNat).isEmpty = false := by
    have := tDigits_len_ge 10 i.natAbs
    cases h : Nat.toDigits 10 i.natAbs with
    | nil => rw [h] at this; simp at this
    | cons _ _ => rfl
  have hneg : decide (i < 0) = false := decide_eq_false (by omega)
  have key : ∀ X : Str, X = four i → wpAny (model prog w) A.in1 (retStr X) (fun fin s' => match fin with | .done f => R (.ok f) s' | .again c' => c'.quiet = true ∧ codeAny (model prog w) A c' R s') (fun e s' => R (.error e) s') s := by
    intro X e
    subst e
    exact (Gives.of_eq (t := retStr (four i)) (m := .str (four i)) rfl) prog w A R s hq
  refine key _ ?_
  simp only [hal, hneg, Bool.false_eq_true, if_false, show ((10 : Nat) == 10) = true by decide, if_true]
  clear hd hneg key hq
  generalize hD : ((Nat.toDigits 10 i.natAbs).map fun c => (if (100 : Nat) == 88 then c.toUpper else c).toNat) = D
  have hD2 : four i = ⟨(List.replicate (4 - D.length) 48 ++ D).toArray⟩ := by
    rw [← hD]
    unfold four
    simp
  rw [hD2]
  have hne : D.isEmpty = false := by
    rw [← hD]
    have := tDigits_len_ge 10 i.natAbs
    cases h : Nat.toDigits 10 i.natAbs with
    | nil => rw [h] at this; simp at this
    | cons _ _ => rfl
  clear hD hD2 hp
  obtain ⟨fill, align, sign, noNeg0, alt, width, grouping, precision, type⟩ := f
  simp only at hty hpr hz hal hw hgr hsg hfi hag
  subst hty hpr hz hal hw hgr hsg hfi hag
  cases D with
  | nil => cases hne
  | cons x r =>
  conv => lhs; whnf
  have c1 : ((48 : Nat) == 48 && (61 : Nat) == 61) = true := rfl
  simp only [List.replicate_zero, List.nil_append, List.append_nil, List.length_nil, c1, hne, Bool.false_eq_true, if_false, if_true, List.length_append, List.length_replicate]
  have e1 : (((4 : Nat) : Int) - (((0 : Nat) : Int) + ((0 : Nat) : Int) + ((0 : Nat) : Int))).toNat = 4 := by decide
  rw [e1]
  have e2 : (((4 : Nat) : Int) - (((0 : Nat) : Int) + ((0 : Nat) : Int) + ((0 : Nat) : Int)) - ((4 - (x :: r).length + (x :: r).length : Nat) : Int)).toNat = 0 := by omega
  rw [e2]
  rfl
theorem field_four {prog : Program} {w : World} {A : Around} {E : Value → Shared → Prop} {s : Shared} {i : Int} {t : Tok} {Q : Value → Shared → Prop} (h0 : 0 ≤ i) (h1 : i.natAbs < 10000)
    (h : Q (.str (four i) (s.toks + 1)) { s with toks := s.toks + 1 + 1 }) : wpAny (model prog w) A (formatField (.int i t) "04d") Q E s :=
  wpAny_formatField_spec (by decide +kernel) (fun s' => typeIs_int s' i t) F.slot_int_format F.entry_int_format F.args_int_format_2 (fun u => gives_four i t u h0 h1) h (by decide +kernel) (by have := four_len h1; have e : sizeLine = 16777216 := sizeLine_eq; omega)
def tF4 (te : TE) : TE := fun σ H Q => te σ H fun x H1 => ∃ i : Int, x = .int i ∧ 0 ≤ i ∧ i.natAbs < 10000 ∧ Q (.str (four i)) H1
theorem pe_fmt04 {X : Cx} {e : Expr} {te : TE} {k : Nat} {p1 p2 pos : Pos} (he : PE X e te) : PE X (.FormattedValue e (-1) (some (.JoinedStr [.Constant (.str "04d") k p1] p2)) pos) (tF4 te) := by
  refine ⟨fun pins s σ H Q I h => ?_⟩
  refine wpAny_FormattedValue_spec (thn (he.run pins s σ H _ I h) fun v s1 hv => ?_)
  obtain ⟨x, H1, I1, r1, i, rfl, h0, h1, q⟩ := hv
  obtain ⟨t, rfl⟩ := r1
  refine wpAny_JoinedStr_one ?_
  have z := (pe_str (X := X) (x := "04d") (j := k) (pos := p1)).run pins s1 σ H1 (fun v H2 => v = .str "04d" ∧ H2 = H1) I1 ⟨rfl, rfl⟩
  refine thn z fun v s2 ⟨v', H2, I2, r2, e1, e2⟩ => ?_
  subst e1 e2
  obtain ⟨t2, rfl⟩ := r2
  exact ⟨_, _, rfl, field_four h0 h1 ⟨.str (four i), H2, I2.tok _, ⟨_, rfl⟩, q⟩⟩

/-! repr of data without dicts -/
def rReprD (K : PySem.W.Frag) : List V → Hp → VK → Prop := fun xs H Q => ∃ (v : V) (d : PyData), xs = [v] ∧ Dp K H v d ∧ ((∃ z, v = .str z) ∨ ∃ a, v = .ref a) ∧ d.hasDict = false ∧ d.showable = true ∧ d.depth ≤ 60 ∧ d.shown.length ≤ sizeLine ∧ Q (.str d.shown) H
theorem call_reprD {X : Cx} (hG : X.A.guards = some []) (hu : X.A.units + 64 < cLine) : CallR X (.builtin "repr") (rReprD X.K) := by
  intro pins s σ H xs us Q I r h
  obtain ⟨v, d, rfl, hd, hv, hn, hs, hp, hz, q⟩ := h
  cases r with
  | cons r1 r2 =>
    cases r2
    rcases hv with ⟨z, rfl⟩ | ⟨a, rfl⟩
    · cases hd
      obtain ⟨t, rfl⟩ := r1
      exact PySem.P.repr_of_str ⟨.str (reprText z), H, I.tok _, ⟨_, rfl⟩, q⟩ hz
    · obtain ⟨as, rd⟩ := Dp.reads I d (.ref a) _ hd r1
      cases r1
      exact repr_of_reads' rd hs (fun e => by rw [hn] at e; cases e) hG (by omega) (fun _ _ e => e) (fun h' u tk k => ⟨.str d.shown, H, I.kept k, ⟨u, rfl⟩, q⟩) hz

/-! the readings, one step each -/
section
variable {σ : L2.St} {H : Hp} {Q : VK} {te ta tb : TE}
theorem e_f4 : tF4 te σ H Q = te σ H (fun x H1 => ∃ i : Int, x = .int i ∧ 0 ≤ i ∧ i.natAbs < 10000 ∧ Q (.str (four i)) H1) := rfl
theorem e_js0 {acc : Str} {R : Str → Hp → Prop} : tJs [] acc σ H R = R acc H := rfl
theorem e_js1 {ts : List TE} {acc : Str} {R : Str → Hp → Prop} : tJs (te :: ts) acc σ H R = te σ H (fun x H1 => ∃ y : Str, x = .str y ∧ (acc ++ y).length ≤ sizeLine ∧ tJs ts (acc ++ y) σ H1 R) := rfl
theorem e_fmt : tFmt te σ H Q = te σ H (fun x H1 => (∃ y : Str, x = .str y ∧ y.length ≤ sizeLine ∧ Q (.str y) H1) ∨ ∃ i : Int, x = .int i ∧ i.natAbs.log2 < 1920 ∧ Q (.str (toString i)) H1) := rfl
theorem e_lrg {t : L2.St → Hp → (Int → Int → Hp → Prop) → Prop} : tLstRg t σ H Q = t σ H (fun a b H1 => RgOk a b ∧ ∀ q, H1 q = none → Q (.ref q) (upd H1 q (.lst (rgV a b)))) := rfl
theorem e_rg1 {R : Int → Int → Hp → Prop} : tRg1 ta σ H R = ta σ H (fun x H1 => ∃ n, x = .int n ∧ R 0 n H1) := rfl
end
end Nv
namespace Nv
open PySem PySem.Spec PyProof.Rows L2
/-! the same rules where the written part's name is given (within a comprehension) -/
section
variable {X : Cx} {K : PySem.W.Frag}
theorem ix_listK (h : X.K = K) : IxR X (rIxL K) := by
  subst h
  exact ix_list
theorem ix_tupK (h : X.K = K) : IxR X (rIxT K) := by
  subst h
  exact ix_tup
theorem sl_listK (h : X.K = K) : SlR X (rSlL K) := by
  subst h
  exact sl_list
theorem sl_tupK (h : X.K = K) : SlR X (rSlT K) := by
  subst h
  exact sl_tup
theorem op_eqDK (h : X.K = K) (hu : X.A.units + 64 < cLine) : OpR X (compareOp .Eq) (rEqD K) := by
  subst h
  exact op_eqD hu
theorem op_neDK (h : X.K = K) (hu : X.A.units + 64 < cLine) : OpR X (compareOp .NotEq) (rNeD K) := by
  subst h
  exact op_neD hu
theorem call_len_seqK (h : X.K = K) : CallR X (.builtin "len") (fun xs H Q => ∃ p ys, xs = [.ref p] ∧ (SqL K H p ys ∨ SqT K H p ys) ∧ Q (.int ys.length) H) := by
  subst h
  exact call_len_seq
end
end Nv

namespace Nv
open PySem L2

/-! texts of plain signs -/
def Asc (z : Str) : Prop := ∀ c ∈ z.cps.toList, c < 128
theorem Asc.app {x y : Str} (a : Asc x) (b : Asc y) : Asc (x ++ y) := fun c h => by
  have e : (x ++ y).cps.toList = x.cps.toList ++ y.cps.toList := by
    show (x.cps ++ y.cps).toList = _
    simp
  rw [e] at h
  rcases List.mem_append.mp h with h | h
  · exact a c h
  · exact b c h
theorem cutS_sub {z : Str} {lo hi : Option Int} {c : Nat} (h : c ∈ (cutS z lo hi).cps.toList) : c ∈ z.cps.toList := by
  unfold cutS at h
  exact List.mem_of_mem_drop (List.mem_of_mem_take (by simpa using h))
theorem Asc.cut {z : Str} (a : Asc z) (lo hi : Option Int) : Asc (cutS z lo hi) := fun c h => a c (cutS_sub h)
theorem Asc.one {c : Nat} (h : c < 128) : Asc ⟨#[c]⟩ := fun d hd => by
  have : d = c := by simpa using hd
  omega
theorem Asc.empty : Asc Str.empty := fun c h => by
  simp [Str.empty] at h
theorem foldl_mem {x : Array Nat} {c : Nat} : ∀ (n : Nat) (acc : Array Nat), c ∈ ((List.replicate n x).foldl (· ++ ·) acc).toList → c ∈ acc.toList ∨ c ∈ x.toList
  | 0, acc, h => .inl h
  | n + 1, acc, h => by
    rw [List.replicate_succ, List.foldl_cons] at h
    rcases foldl_mem n _ h with h | h
    · have e : (acc ++ x).toList = acc.toList ++ x.toList := by simp
      rw [e] at h
      exact List.mem_append.mp h
    · exact .inr h
theorem Asc.mul {z : Str} (a : Asc z) (n : Int) : Asc (Txt.mul z n) := fun c h => by
  unfold Txt.mul at h
  split at h
  · exact Asc.empty c h
  · split at h
    · exact a c h
    · rcases foldl_mem _ _ h with h | h
      · simp at h
      · exact a c h
theorem foldl_size (x : Array Nat) : ∀ (n : Nat) (acc : Array Nat), ((List.replicate n x).foldl (· ++ ·) acc).size = acc.size + n * x.size
  | 0, acc => by simp
  | n + 1, acc => by
    rw [List.replicate_succ, List.foldl_cons, foldl_size x n, Array.size_append, Nat.succ_mul]
    omega
theorem mul_len (z : Str) (n : Int) : (Txt.mul z n).length ≤ z.length * n.toNat := by
  unfold Txt.mul
  split
  · exact Nat.zero_le _
  · split
    · rename_i h1 h2
      simp only [Bool.or_eq_true, beq_iff_eq] at h2
      rcases h2 with h2 | h2
      · subst h2
        simp
      · rw [h2]
        exact Nat.zero_le _
    · show ((List.replicate n.toNat z.cps).foldl (· ++ ·) #[]).size ≤ _
      rw [foldl_size]
      simp [Str.length, Nat.mul_comm]
theorem mulOk_of {z : Str} {n : Int} (h1 : n ≤ 1000) (h0 : -1000 ≤ n) (h2 : z.length ≤ 10000) : MulOk z n := by
  refine ⟨?_, ?_, ?_⟩
  · simp
    constructor <;> omega
  · intro hn _ h
    have hp : 0 < n := by omega
    have : (9223372036854774 : Int) ≤ (2 ^ 63 - 1) / n := by
      refine Int.le_ediv_of_mul_le hp ?_
      have : (2 : Int) ^ 63 - 1 = 9223372036854775807 := by decide
      rw [this]
      omega
    omega
  · intro hn _
    have hm : z.length * n.toNat ≤ 10000 * 1000 := Nat.mul_le_mul h2 (by omega)
    unfold Builtin.Str.tooLong
    have : sizeLine = 16777216 := sizeLine_eq
    simp [this]
    omega
theorem append_len (x y : Str) : (x ++ y).length = x.length + y.length := Str.length_append x y
theorem join_signs (l : List Nat) : Txt.join Str.empty (l.map fun c => (⟨#[c]⟩ : Str)) = ⟨l.toArray⟩ := by
  show Builtin.Str.glued Str.empty _ = _
  rw [StrLaws.glued_eq_join]
  exact PyProof.Rows.join_ones l
theorem Asc.signs {l : List Nat} (h : ∀ c ∈ l, c < 128) : Asc ⟨l.toArray⟩ := fun c hc => h c (by simpa using hc)
theorem repr_len {z : Str} (a : Asc z) : (reprText z).length ≤ 10 * z.length + 2 := StrLaws.reprText_len z fun c h => Nat.lt_of_lt_of_le (a c h) (by decide)
end Nv

namespace Nv
open PySem L2

/-! values whose text is short -/
structure Shw (W D : Nat) (d : PyData) : Prop where
  s : d.leavesShort 40 = true
  w : d.weight ≤ W
  p : d.depth ≤ D
  h : d.showable = true
structure Shws (W D : Nat) (ds : List PyData) : Prop where
  s : PyData.leavesShortAll 40 ds = true
  w : PyData.weightAll ds ≤ W
  p : PyData.depthAll ds ≤ D
  h : PyData.showableAll ds = true
theorem Shw.len {W D : Nat} {d : PyData} (h : Shw W D d) (hw : W ≤ 390000) : d.shown.length ≤ sizeLine := by
  have h1 := PyData.shown_le 40 (by decide) d h.s
  have h2 : (40 + 2) * d.weight ≤ (40 + 2) * 390000 := Nat.mul_le_mul_left _ (Nat.le_trans h.w hw)
  have e : sizeLine = 16777216 := sizeLine_eq
  omega
theorem Shw.le {W D W' D' : Nat} {d : PyData} (h : Shw W D d) (a : W ≤ W') (b : D ≤ D') : Shw W' D' d := ⟨h.s, Nat.le_trans h.w a, Nat.le_trans h.p b, h.h⟩
theorem Shw.non {W D : Nat} : Shw W D .none := ⟨rfl, Nat.zero_le _, Nat.zero_le _, rfl⟩
theorem Shw.bl {W D : Nat} (b : Bool) : Shw W D (.bool b) := ⟨rfl, Nat.zero_le _, Nat.zero_le _, rfl⟩
theorem log21 {i : Int} (h : -(10 ^ 21) ≤ i ∧ i ≤ 10 ^ 21) : i.natAbs.log2 < 70 := by
  by_cases h0 : i.natAbs = 0
  · rw [h0]
    decide
  · rw [Nat.log2_lt h0]
    omega
theorem Shw.int {D : Nat} {i : Int} (h : -(10 ^ 21) ≤ i ∧ i ≤ 10 ^ 21) : Shw 71 D (.int i) := by
  have hl := log21 h
  refine ⟨?_, ?_, Nat.zero_le _, ?_⟩
  · have h1 := int_text_length_le10 (a := i) (k := 22) (by decide) (by omega)
    have e : (Str.ofString (toString i)).length = (toString i).length := ofString_length _
    have h2 : (PyData.shown (.int i)).length ≤ 40 := by
      simp only [PyData.shown]
      exact Nat.le_trans (Nat.le_of_eq e) (by omega)
    simpa only [PyData.leavesShort, decide_eq_true_eq] using h2
  · simp only [PyData.weight]
    split <;> omega
  · simp only [PyData.showable, decide_eq_true_eq]
    omega
theorem Shw.str {D : Nat} {z : Str} (a : Asc z) : Shw z.length D (.str z) := by
  refine ⟨?_, Nat.le_refl _, Nat.zero_le _, rfl⟩
  simp only [PyData.leavesShort, List.all_eq_true, decide_eq_true_eq]
  exact fun c hc => Nat.lt_of_lt_of_le (a c hc) (by decide)
theorem Shw.list {W D : Nat} {ds : List PyData} (h : Shws W D ds) : Shw W (D + 1) (.list ds) := by
  refine ⟨?_, ?_, ?_, ?_⟩
  · simpa only [PyData.leavesShort] using h.s
  · simpa only [PyData.weight] using h.w
  · have := h.p
    simp only [PyData.depth]
    omega
  · simpa only [PyData.showable] using h.h
theorem Shw.tuple {W D : Nat} {ds : List PyData} (h : Shws W D ds) : Shw W (D + 1) (.tuple ds) := by
  refine ⟨?_, ?_, ?_, ?_⟩
  · simpa only [PyData.leavesShort] using h.s
  · simpa only [PyData.weight] using h.w
  · have := h.p
    simp only [PyData.depth]
    omega
  · simpa only [PyData.showable] using h.h
theorem Shw.dict1 {W1 W2 D : Nat} {k v : PyData} (a : Shw W1 D k) (b : Shw W2 D v) : Shw (W1 + W2 + 2) (D + 1) (.dict [(k, v)]) := by
  refine ⟨?_, ?_, ?_, ?_⟩
  · simp only [PyData.leavesShort, PyData.leavesShortKv, a.s, b.s, Bool.and_self]
  · have := a.w
    have := b.w
    simp only [PyData.weight, PyData.weightKv]
    omega
  · have := a.p
    have := b.p
    simp only [PyData.depth, PyData.depthKv]
    omega
  · simp only [PyData.showable, PyData.showableKv, a.h, b.h, Bool.and_self]
theorem Shws.nil {W D : Nat} : Shws W D [] := ⟨rfl, Nat.zero_le _, Nat.zero_le _, rfl⟩
theorem Shws.cons {W1 W2 D : Nat} {d : PyData} {ds : List PyData} (a : Shw W1 D d) (b : Shws W2 D ds) : Shws (W1 + 1 + W2) D (d :: ds) := by
  refine ⟨?_, ?_, ?_, ?_⟩
  · simp only [PyData.leavesShortAll, a.s, b.s, Bool.and_self]
  · have := a.w
    have := b.w
    simp only [PyData.weightAll]
    omega
  · have := a.p
    have := b.p
    simp only [PyData.depthAll]
    omega
  · simp only [PyData.showableAll, a.h, b.h, Bool.and_self]
theorem Shws.le {W D W' D' : Nat} {d : List PyData} (h : Shws W D d) (a : W ≤ W') (b : D ≤ D') : Shws W' D' d := ⟨h.s, Nat.le_trans h.w a, Nat.le_trans h.p b, h.h⟩
theorem Shws.app {W1 W2 D : Nat} : ∀ {ds es : List PyData}, Shws W1 D ds → Shws W2 D es → Shws (W1 + W2) D (ds ++ es)
  | [], es, a, b => b.le (by omega) (Nat.le_refl _)
  | d :: ds, es, a, b => by
    have h1 := a.s
    have h2 := a.w
    have h3 := a.p
    have h4 := a.h
    simp only [PyData.leavesShortAll, Bool.and_eq_true] at h1
    simp only [PyData.weightAll] at h2
    simp only [PyData.depthAll] at h3
    simp only [PyData.showableAll, Bool.and_eq_true] at h4
    have q : Shws (PyData.weightAll ds) D ds := ⟨h1.2, Nat.le_refl _, by omega, h4.2⟩
    have p : Shw (PyData.weight d) D d := ⟨h1.1, Nat.le_refl _, by omega, h4.1⟩
    have r := Shws.cons p (Shws.app q b)
    exact r.le (by omega) (Nat.le_refl _)
/-- repr of a list, a tuple, a dict whose text is short -/
theorem r_repr {H : Hp} {Q : VK} {a : Addr} {d : PyData} {W D : Nat} (h : DV H (.ref a) d) (s : Shw W D d) (hw : W ≤ 390000) (hd : D ≤ 60) (q : Q (.str d.shown) H) : rRepr [.ref a] H Q :=
  ⟨a, d, rfl, h, s.h, Nat.le_trans s.p hd, s.len hw, q⟩
end Nv

namespace PySem.W
/-- isinstance by an own class -/
theorem kit_ref {K : Frag} {C : Addr} {cls : Value} (hd : hasDictIn K C = true) (ht : typeIn K (.ref C) = some (.type "type")) (h : subIn K cls (.ref C) = some true) : kitOne K cls (.ref C) = some true := by
  have hc : (clsIn K C).isSome = true := by
    obtain ⟨cd, h, _⟩ := any_some hd
    rw [h]
    rfl
  unfold kitOne
  split
  · rfl
  · unfold kitCls
    simp [hc, ht, h]
end PySem.W

namespace Fr

def dig (c : Nat) : Bool := decide (48 ≤ c) && decide (c ≤ 57)
def num (l : List Nat) : Nat := l.foldl (fun a c => a * 10 + (c - 48)) 0
/-- where the frame ends that begins at s -/
def fend (z : List Nat) (s : Nat) : Option Nat :=
  if ((z.drop s).take 4).length = 4 ∧ ((z.drop s).take 4).all dig = true then
    if (z.drop (s + 4 + num ((z.drop s).take 4))).take 1 = [46] then some (s + 4 + num ((z.drop s).take 4) + 1) else none
  else none
def piece (z : List Nat) (a b : Nat) : List Nat := (z.drop a).take (b - a)
def rd (z : List Nat) : Nat → Nat → List (List Nat) → List (List Nat) × Nat
  | 0, s, acc => (acc, s)
  | n + 1, s, acc => match fend z s with
    | none => (acc, s)
    | some e => rd z n e (acc ++ [piece z (s + 4) (e - 1)])
def parse (z : List Nat) : List (List Nat) × Nat := rd z (z.length + 1) 0 []

theorem fend_bounds {z : List Nat} {s e : Nat} (h : fend z s = some e) : s + 5 ≤ e ∧ e ≤ z.length := by
  unfold fend at h
  split at h
  · split at h
    · rename_i h1 h2
      cases h
      have hl : ((z.drop (s + 4 + num ((z.drop s).take 4))).take 1).length = 1 := by rw [h2]; rfl
      rw [List.length_take, List.length_drop] at hl
      omega
    · cases h
  · cases h
theorem rd_more {z : List Nat} : ∀ (n s : Nat) (acc : List (List Nat)), z.length + 1 ≤ n + s → rd z n s acc = rd z (n + 1) s acc
  | 0, s, acc, h => by
    have : fend z s = none := by
      cases e : fend z s with
      | none => rfl
      | some x =>
        have := fend_bounds e
        omega
    simp [rd, this]
  | n + 1, s, acc, h => by
    rw [rd, rd]
    cases e : fend z s with
    | none => rfl
    | some x =>
      have := fend_bounds e
      exact rd_more n x _ (by omega)
/-- where a reading stands -/
def At (z : List Nat) (s : Nat) (acc : List (List Nat)) : Prop := s ≤ z.length ∧ rd z (z.length + 1) s acc = parse z
theorem At.zero (z : List Nat) : At z 0 [] := ⟨Nat.zero_le _, rfl⟩
theorem At.stop {z : List Nat} {s : Nat} {acc : List (List Nat)} (h : At z s acc) (e : fend z s = none) : parse z = (acc, s) := by
  rw [← h.2, rd, e]
theorem At.step {z : List Nat} {s e : Nat} {acc : List (List Nat)} (h : At z s acc) (he : fend z s = some e) : At z e (acc ++ [piece z (s + 4) (e - 1)]) := by
  have hb := fend_bounds he
  refine ⟨hb.2, ?_⟩
  rw [← h.2]
  have e1 : rd z (z.length + 1) s acc = rd z z.length e (acc ++ [piece z (s + 4) (e - 1)]) := by
    simp only [rd, he]
  rw [e1]
  exact (rd_more z.length e _ (by omega)).symm

/-! rows of frames -/
def pad (n : Nat) : List Nat := [48 + n / 1000 % 10, 48 + n / 100 % 10, 48 + n / 10 % 10, 48 + n % 10]
def frm (t : List Nat) : List Nat := pad t.length ++ t ++ [46]
theorem frm_len (t : List Nat) : (frm t).length = t.length + 5 := by
  simp [frm, pad]
theorem pad_num {n : Nat} (h : n < 10000) : num (pad n) = n := by
  simp only [num, pad, List.foldl_cons, List.foldl_nil]
  omega
theorem pad_dig (n : Nat) : (pad n).all dig = true := by
  simp only [pad, List.all_cons, List.all_nil, dig, Bool.and_true, Bool.and_eq_true, decide_eq_true_eq]
  omega
def row (ts : List (List Nat)) : List Nat := (ts.map frm).flatten
def total (ts : List (List Nat)) : Nat := (ts.map fun t => t.length + 5).sum
theorem row_len (ts : List (List Nat)) : (row ts).length = total ts := by
  induction ts with
  | nil => rfl
  | cons t r ih =>
    simp only [row, total, List.map_cons, List.flatten_cons, List.length_append, List.sum_cons, frm_len] at *
    omega
/-- how many frames end within the first c signs -/
def cnt : List (List Nat) → Nat → Nat
  | [], _ => 0
  | t :: r, c => if t.length + 5 ≤ c then 1 + cnt r (c - (t.length + 5)) else 0
theorem cnt_le : ∀ (ts : List (List Nat)) (c : Nat), cnt ts c ≤ ts.length
  | [], c => Nat.le_refl _
  | t :: r, c => by
    have := cnt_le r (c - (t.length + 5))
    simp only [cnt, List.length_cons]
    split <;> omega
theorem drop_app {α : Type} (l m : List α) : (l ++ m).drop l.length = m := by simp
theorem fend_whole {pre t rest : List Nat} (ht : t.length < 10000) : fend (pre ++ (frm t ++ rest)) pre.length = some (pre.length + (t.length + 5)) := by
  have e1 : ((pre ++ (frm t ++ rest)).drop pre.length).take 4 = pad t.length := by
    rw [drop_app]
    simp [frm, pad]
  have hp : (pad t.length).length = 4 := rfl
  unfold fend
  rw [e1, pad_num ht, if_pos ⟨hp, pad_dig _⟩]
  have e2 : (pre ++ (frm t ++ rest)).drop (pre.length + 4 + t.length) = 46 :: rest := by
    have : pre ++ (frm t ++ rest) = (pre ++ pad t.length ++ t) ++ (46 :: rest) := by simp [frm]
    rw [this]
    have hl : pre.length + 4 + t.length = (pre ++ pad t.length ++ t).length := by simp [hp]; omega
    rw [hl, drop_app]
  rw [e2]
  simp
  omega
theorem piece_whole {pre t rest : List Nat} : piece (pre ++ (frm t ++ rest)) (pre.length + 4) (pre.length + (t.length + 5) - 1) = t := by
  have : pre ++ (frm t ++ rest) = (pre ++ pad t.length) ++ (t ++ (46 :: rest)) := by simp [frm]
  unfold piece
  rw [this]
  have hl : pre.length + 4 = (pre ++ pad t.length).length := by simp [pad]
  have h2 : pre.length + (t.length + 5) - 1 - (pre.length + 4) = t.length := by omega
  rw [h2, hl, drop_app]
  simp
theorem fend_cut {pre t rest : List Nat} {c : Nat} (hc : c < t.length + 5) (ht : t.length < 10000) : fend (pre ++ (frm t ++ rest).take c) pre.length = none := by
  cases e : fend (pre ++ (frm t ++ rest).take c) pre.length with
  | none => rfl
  | some x =>
    exfalso
    have hb := fend_bounds e
    have hl : ((frm t ++ rest).take c).length ≤ c := by rw [List.length_take]; omega
    rw [List.length_append] at hb
    have h5 : 5 ≤ c := by omega
    have e1 : ((pre ++ (frm t ++ rest).take c).drop pre.length).take 4 = pad t.length := by
      rw [drop_app, List.take_take]
      have : min 4 c = 4 := by omega
      rw [this]
      simp [frm, pad]
    unfold fend at e
    rw [e1, pad_num ht, if_pos ⟨rfl, pad_dig _⟩] at e
    split at e
    · cases e
      omega
    · cases e
theorem fend_end {pre : List Nat} : fend pre pre.length = none := by
  cases e : fend pre pre.length with
  | none => rfl
  | some x =>
    have := fend_bounds e
    omega
theorem rd_row : ∀ (ts : List (List Nat)) (pre : List Nat) (acc : List (List Nat)) (c n : Nat), (∀ t ∈ ts, t.length < 10000) → ts.length < n →
    rd (pre ++ (row ts).take c) n pre.length acc = (acc ++ ts.take (cnt ts c), pre.length + total (ts.take (cnt ts c)))
  | [], pre, acc, c, n, _, hn => by
    obtain ⟨m, rfl⟩ : ∃ m, n = m + 1 := ⟨n - 1, by simp at hn; omega⟩
    simp only [row, List.map_nil, List.flatten_nil, List.take_nil, List.append_nil, cnt, total, List.sum_nil, Nat.add_zero]
    rw [rd, fend_end]
  | t :: r, pre, acc, c, n, hb, hn => by
    obtain ⟨m, rfl⟩ : ∃ m, n = m + 1 := ⟨n - 1, by simp at hn; omega⟩
    have ht := hb t (by simp)
    have e0 : row (t :: r) = frm t ++ row r := by simp [row]
    rw [e0, cnt]
    by_cases hc : t.length + 5 ≤ c
    · rw [if_pos hc]
      have e1 : (frm t ++ row r).take c = frm t ++ (row r).take (c - (t.length + 5)) := by
        rw [List.take_append, frm_len, List.take_of_length_le (by rw [frm_len]; omega)]
      rw [e1, rd, fend_whole ht]
      simp only
      rw [piece_whole]
      have ih := rd_row r (pre ++ frm t) (acc ++ [t]) (c - (t.length + 5)) m (fun t h => hb t (by simp [h])) (by simp at hn; omega)
      rw [List.length_append, frm_len, List.append_assoc] at ih
      rw [ih]
      have : 1 + cnt r (c - (t.length + 5)) = cnt r (c - (t.length + 5)) + 1 := by omega
      rw [this, List.take_succ_cons]
      simp [total]
      omega
    · rw [if_neg hc, rd, fend_cut (by omega) ht]
      simp [total]
theorem total_ge (ts : List (List Nat)) : 5 * ts.length ≤ total ts := by
  induction ts with
  | nil => exact Nat.le_refl _
  | cons t r ih =>
    simp only [total, List.map_cons, List.sum_cons, List.length_cons] at *
    omega
theorem rd_any {z : List Nat} (acc : List (List Nat)) : ∀ (k n s : Nat), z.length + 1 ≤ n + s → rd z (n + k) s acc = rd z n s acc
  | 0, n, s, h => rfl
  | k + 1, n, s, h => by
    rw [← Nat.add_assoc, ← rd_more (n + k) s acc (by omega), rd_any acc k n s h]
/-- what a row of frames that was cut is read as -/
theorem parse_row {ts : List (List Nat)} {c : Nat} (hb : ∀ t ∈ ts, t.length < 10000) : parse ((row ts).take c) = (ts.take (cnt ts c), total (ts.take (cnt ts c))) := by
  have h := rd_row ts [] [] c (((row ts).take c).length + 1 + ts.length) hb (by omega)
  simp only [List.nil_append, List.length_nil, Nat.zero_add] at h
  unfold parse
  rw [← h]
  exact (rd_any _ _ _ _ (by omega)).symm
theorem cnt_all : ∀ (ts : List (List Nat)) (c : Nat), total ts ≤ c → cnt ts c = ts.length
  | [], c, _ => rfl
  | t :: r, c, h => by
    have h' : t.length + 5 + total r ≤ c := by simpa [total] using h
    rw [cnt, if_pos (by omega), cnt_all r _ (by omega), List.length_cons]
    omega
theorem parse_all {ts : List (List Nat)} (hb : ∀ t ∈ ts, t.length < 10000) : parse (row ts) = (ts, total ts) := by
  have h := parse_row (c := (row ts).length) hb
  rw [List.take_length, cnt_all ts _ (by rw [row_len]; exact Nat.le_refl _), List.take_length] at h
  exact h
/-! the ends of frames -/
def ends : List (List Nat) → Nat → List Nat
  | [], s => [s]
  | t :: r, s => s :: ends r (s + (t.length + 5))
theorem ends_len : ∀ (ts : List (List Nat)) (s : Nat), (ends ts s).length = ts.length + 1
  | [], s => rfl
  | t :: r, s => by simp [ends, ends_len r]
theorem ends_ge : ∀ (ts : List (List Nat)) (s e : Nat), e ∈ ends ts s → s ≤ e ∧ e ≤ s + total ts
  | [], s, e, h => by
    have : e = s := by simpa [ends] using h
    simp [total, this]
  | t :: r, s, e, h => by
    have e0 : total (t :: r) = t.length + 5 + total r := by simp [total]
    rcases List.mem_cons.mp h with h | h
    · omega
    · have := ends_ge r _ e h
      omega
theorem ends_cnt : ∀ (ts : List (List Nat)) (s c : Nat), ((ends ts s).filter fun e => decide (e ≤ s + c)).length = cnt ts c + 1
  | [], s, c => by simp [ends, cnt]
  | t :: r, s, c => by
    have h0 : decide (s ≤ s + c) = true := by simp
    rw [ends, List.filter_cons, h0, if_pos rfl, List.length_cons, cnt]
    by_cases hc : t.length + 5 ≤ c
    · rw [if_pos hc]
      have ih := ends_cnt r (s + (t.length + 5)) (c - (t.length + 5))
      have : s + (t.length + 5) + (c - (t.length + 5)) = s + c := by omega
      rw [this] at ih
      omega
    · rw [if_neg hc]
      have : ((ends r (s + (t.length + 5))).filter fun e => decide (e ≤ s + c)) = [] := by
        rw [List.filter_eq_nil_iff]
        intro e he
        have := ends_ge r _ e he
        simp
        omega
      rw [this]
      rfl
theorem ends_at : ∀ (ts : List (List Nat)) (s k : Nat), k ≤ ts.length → (ends ts s)[k]? = some (s + total (ts.take k))
  | [], s, k, h => by
    have : k = 0 := by simpa using h
    subst this
    simp [ends, total]
  | t :: r, s, 0, h => by simp [ends, total]
  | t :: r, s, k + 1, h => by
    have ih := ends_at r (s + (t.length + 5)) k (by simpa using h)
    simp only [ends, List.getElem?_cons_succ, ih, List.take_succ_cons, total, List.map_cons, List.sum_cons]
    simp only [total] at ih
    congr 1
    omega
theorem ends_snoc : ∀ (ts : List (List Nat)) (t : List Nat) (s : Nat), ends (ts ++ [t]) s = ends ts s ++ [s + total ts + (t.length + 5)]
  | [], t, s => by simp [ends, total]
  | u :: r, t, s => by
    simp only [List.cons_append, ends, ends_snoc r, total, List.map_cons, List.sum_cons]
    congr 3
    omega
theorem row_rep (t : List Nat) (n : Nat) : row (List.replicate n t) = (List.replicate n (frm t)).flatten := by
  simp [row]
theorem total_rep (t : List Nat) (n : Nat) : total (List.replicate n t) = n * (t.length + 5) := by
  simp [total]
theorem cnt_rep (t : List Nat) : ∀ (n c : Nat), c ≤ n * (t.length + 5) → cnt (List.replicate n t) c = c / (t.length + 5)
  | 0, c, h => by
    have : c = 0 := by omega
    subst this
    simp [cnt]
  | n + 1, c, h => by
    rw [List.replicate_succ, cnt]
    by_cases hc : t.length + 5 ≤ c
    · rw [if_pos hc, cnt_rep t n _ (by rw [Nat.succ_mul] at h; omega)]
      rw [Nat.div_eq c (t.length + 5), if_pos ⟨by omega, hc⟩]
      omega
    · rw [if_neg hc, Nat.div_eq_of_lt (by omega)]
theorem rd_inv {z : List Nat} : ∀ (n s : Nat) (acc : List (List Nat)), (∀ t ∈ acc, ∀ c ∈ t, c ∈ z) → total acc ≤ s → s ≤ z.length →
    (∀ t ∈ (rd z n s acc).1, ∀ c ∈ t, c ∈ z) ∧ total (rd z n s acc).1 ≤ (rd z n s acc).2 ∧ (rd z n s acc).2 ≤ z.length
  | 0, s, acc, h1, h2, h3 => ⟨h1, h2, h3⟩
  | n + 1, s, acc, h1, h2, h3 => by
    rw [rd]
    cases e : fend z s with
    | none => exact ⟨h1, h2, h3⟩
    | some x =>
      have hb := fend_bounds e
      refine rd_inv n x _ ?_ ?_ hb.2
      · intro t ht c hc
        rcases List.mem_append.mp ht with ht | ht
        · exact h1 t ht c hc
        · have : t = piece z (s + 4) (x - 1) := by simpa using ht
          rw [this] at hc
          exact List.mem_of_mem_drop (List.mem_of_mem_take hc)
      · have hl : (piece z (s + 4) (x - 1)).length ≤ x - 1 - (s + 4) := by
          unfold piece
          rw [List.length_take]
          omega
        have : total (acc ++ [piece z (s + 4) (x - 1)]) = total acc + ((piece z (s + 4) (x - 1)).length + 5) := by simp [total]
        rw [this]
        omega
theorem parse_inv (z : List Nat) : (∀ t ∈ (parse z).1, ∀ c ∈ t, c ∈ z) ∧ total (parse z).1 ≤ (parse z).2 ∧ (parse z).2 ≤ z.length :=
  rd_inv _ 0 [] (by simp) (Nat.le_refl _) (Nat.zero_le _)
theorem ends_split (ts : List (List Nat)) (s : Nat) : ∃ i, ends ts s = i ++ [s + total ts] := by
  induction ts generalizing s with
  | nil => exact ⟨[], by simp [ends, total]⟩
  | cons t r ih =>
    obtain ⟨i, hi⟩ := ih (s + (t.length + 5))
    refine ⟨s :: i, ?_⟩
    rw [ends, hi, List.cons_append]
    simp only [total, List.map_cons, List.sum_cons]
    congr 3
    omega
end Fr

namespace Nv
open PySem PySem.Spec PyProof.Rows L2

/-! texts and their signs -/
def sg (z : Str) : List Nat := z.cps.toList
def tx (l : List Nat) : Str := ⟨l.toArray⟩
theorem sg_tx (l : List Nat) : sg (tx l) = l := by simp [sg, tx]
theorem tx_sg (z : Str) : tx (sg z) = z := by
  apply Str.ext'
  simp [sg, tx]
theorem sg_len (z : Str) : (sg z).length = z.length := by simp [sg, Str.length]
theorem tx_len (l : List Nat) : (tx l).length = l.length := by simp [tx, Str.length]
theorem sg_inj {x y : Str} (h : sg x = sg y) : x = y := by rw [← tx_sg x, ← tx_sg y, h]
theorem sg_app (x y : Str) : sg (x ++ y) = sg x ++ sg y := by
  show (x.cps ++ y.cps).toList = _
  simp [sg]
theorem tx_app (x y : List Nat) : tx (x ++ y) = tx x ++ tx y := sg_inj (by rw [sg_app, sg_tx, sg_tx, sg_tx])
theorem map_tx_sg (l : List Str) : (l.map sg).map tx = l := by
  rw [List.map_map]
  conv => rhs; rw [← List.map_id l]
  apply List.map_congr_left
  intro z _
  exact tx_sg z
theorem cut_nat (z : Str) (a b : Nat) : sg (cutS z (some (a : Int)) (some (b : Int))) = ((sg z).drop a).take (b - a) := by
  show ((((z.cps.toList.drop (HT.sIx z.length 0 (some (a : Int)))).take (HT.sIx z.length z.length (some (b : Int)) - HT.sIx z.length 0 (some (a : Int)))).toArray).toList) = _
  rw [HT.sIx_nat, HT.sIx_nat]
  simp only [sg]
  have hl : z.cps.toList.length = z.length := by simp [Str.length]
  by_cases h : a ≤ z.length
  · rw [Nat.min_eq_left h]
    by_cases h2 : b ≤ z.length
    · rw [Nat.min_eq_left h2]
    · rw [Nat.min_eq_right (by omega), List.take_of_length_le (by rw [List.length_drop, hl]; exact Nat.le_refl _), List.take_of_length_le (by rw [List.length_drop, hl]; omega)]
  · rw [Nat.min_eq_right (show z.length ≤ a by omega), List.drop_of_length_le (by rw [hl]; exact Nat.le_refl _), List.drop_of_length_le (by rw [hl]; omega)]
    simp
theorem cut_to (z : Str) (b : Nat) : sg (cutS z none (some (b : Int))) = (sg z).take b := by
  show ((((z.cps.toList.drop (HT.sIx z.length 0 none)).take (HT.sIx z.length z.length (some (b : Int)) - HT.sIx z.length 0 none)).toArray).toList) = _
  rw [HT.sIx_nat, HT.sIx_none]
  simp only [sg, List.drop_zero, Nat.sub_zero]
  have hl : z.cps.toList.length = z.length := by simp [Str.length]
  by_cases h2 : b ≤ z.length
  · rw [Nat.min_eq_left h2]
  · rw [Nat.min_eq_right (by omega), List.take_of_length_le (by rw [hl]; exact Nat.le_refl _), List.take_of_length_le (by rw [hl]; omega)]
theorem cutV_to (xs : List V) (b : Nat) : cutV xs none (some (b : Int)) = xs.take b := by
  unfold cutV
  rw [HT.sIx_nat, HT.sIx_none]
  simp only [List.drop_zero, Nat.sub_zero]
  by_cases h2 : b ≤ xs.length
  · rw [Nat.min_eq_left h2]
  · rw [Nat.min_eq_right (by omega), List.take_of_length_le (Nat.le_refl _), List.take_of_length_le (by omega)]
/-- a text of the space to the tilde -/
def pc (c : Nat) : Bool := decide (32 ≤ c) && decide (c ≤ 126)
def Pl (z : Str) : Prop := ∀ c ∈ sg z, pc c = true
theorem pc_lt {c : Nat} (h : pc c = true) : 32 ≤ c ∧ c ≤ 126 := by simpa [pc] using h
theorem Pl.asc {z : Str} (h : Pl z) : Asc z := fun c hc => by have := pc_lt (h c hc); omega
theorem Pl.app {x y : Str} (a : Pl x) (b : Pl y) : Pl (x ++ y) := fun c h => by
  rw [sg_app] at h
  exact (List.mem_append.mp h).elim (a c) (b c)
theorem Pl.cut {z : Str} (a : Pl z) (lo hi : Option Int) : Pl (cutS z lo hi) := fun c h => a c (cutS_sub h)
theorem Pl.one {c : Nat} (h : pc c = true) : Pl ⟨#[c]⟩ := fun d hd => by
  have : d = c := by simpa [sg] using hd
  rw [this]
  exact h
theorem Pl.empty : Pl Str.empty := fun c h => by simp [sg, Str.empty] at h
theorem Pl.mul {z : Str} (a : Pl z) (n : Int) : Pl (Txt.mul z n) := fun c h => by
  unfold Txt.mul at h
  split at h
  · exact Pl.empty c h
  · split at h
    · exact a c h
    · rcases foldl_mem _ _ h with h | h
      · simp at h
      · exact a c h
theorem Pl.tx {l : List Nat} (h : ∀ c ∈ l, pc c = true) : Pl (tx l) := fun c hc => h c (by simpa [sg_tx] using hc)
theorem pl_of {z : Str} (h : (sg z).all pc = true) : Pl z := fun c hc => List.all_eq_true.mp h c hc
theorem prnt : ∀ c, c < 128 → Unicode.isPrintable c = pc c := by decide +kernel
def okS (z : Str) : Bool := Txt.isascii z && Txt.isprintable z
theorem okS_all (z : Str) : okS z = (sg z).all pc := by
  unfold okS Txt.isascii Txt.isprintable sg
  rw [← Array.all_toList, ← Array.all_toList]
  generalize z.cps.toList = l
  induction l with
  | nil => rfl
  | cons c r ih =>
    simp only [List.all_cons]
    rw [← ih]
    by_cases h : c < 128
    · simp only [h, decide_true, Bool.true_and]
      rw [prnt c h]
      cases pc c <;> cases (r.all fun x => decide (x < 128)) <;> simp
    · have hp : pc c = false := by
        unfold pc
        simp
        omega
      simp [h, hp]
theorem Pl.ok {z : Str} (h : Pl z) : okS z = true := by
  rw [okS_all]
  exact List.all_eq_true.mpr h
theorem okS_pl {z : Str} (h : okS z = true) : Pl z := by
  rw [okS_all] at h
  exact pl_of h
theorem digC : ∀ c, c < 128 → Unicode.isDigit c = Fr.dig c := by decide +kernel
theorem isdigit_pl {z : Str} (h : Asc z) : Txt.isdigit z = (decide (0 < z.length) && (sg z).all Fr.dig) := by
  unfold Txt.isdigit
  rw [← Array.all_toList]
  congr 1
  have : ∀ l : List Nat, (∀ c ∈ l, c < 128) → l.all Unicode.isDigit = l.all Fr.dig := by
    intro l hl
    induction l with
    | nil => rfl
    | cons c r ih => simp only [List.all_cons, digC c (hl c (by simp)), ih fun c hc => hl c (by simp [hc])]
  exact this _ h
theorem int_dig {z : Str} (h : (sg z).all Fr.dig = true) (h1 : z.length ≠ 0) (h2 : z.length ≤ 640) : intText? z = some ((Fr.num (sg z) : Nat) : Int) := by
  have e := intText_digits (x := z) (fun c hc => (by
    have := List.all_eq_true.mp h c hc
    simpa [Fr.dig] using this)) (fun e => h1 (by rw [← sg_len]; show z.cps.toList.length = 0; rw [e]; rfl)) (by omega)
  exact e
/-! frames -/
theorem str_nat (n : Nat) : sg (Str.ofString (toString (n : Int))) = (Nat.toDigits 10 n).map Char.toNat := by
  have e := text_ofNat n
  rw [show (toString ((n : Nat) : Int)) = toString (Int.ofNat n) from rfl, e]
  exact sg_tx _
theorem pad_of {n : Nat} {l : List Nat} (h4 : l.length = 4) (hd : PySem.NumText.AllDigits l) (hv : PySem.NumText.digitsVal l = n) : l = Fr.pad n := by
  match l, h4 with
  | [a, b, c, d], _ =>
    have ha := hd a (by simp)
    have hb := hd b (by simp)
    have hc := hd c (by simp)
    have he := hd d (by simp)
    simp only [PySem.NumText.digitsVal, List.foldl_cons, List.foldl_nil] at hv
    simp only [Fr.pad, List.cons.injEq, and_true]
    omega
theorem val_zeros (k : Nat) (l : List Nat) : PySem.NumText.digitsVal (List.replicate k 48 ++ l) = PySem.NumText.digitsVal l := by
  induction k with
  | zero => rfl
  | succ k ih =>
    rw [List.replicate_succ, List.cons_append]
    show (List.replicate k 48 ++ l).foldl (fun acc c => acc * 10 + (c - 48)) (0 * 10 + (48 - 48)) = _
    exact ih
theorem four_pad (n : Nat) (h : n < 10000) : List.replicate (4 - (Nat.toDigits 10 n).length) 48 ++ (Nat.toDigits 10 n).map Char.toNat = Fr.pad n := by
  have hl := digits10_le (k := 4) (n := n) (by decide) (by simpa using h)
  have e : (Nat.toDigits 10 n).map Char.toNat = TL.numL n := by
    rw [← TL.tl_num n]
    exact (str_nat n).symm
  refine pad_of ?_ ?_ ?_
  · simp
    omega
  · intro c hc
    rcases List.mem_append.mp hc with hc | hc
    · have := (List.mem_replicate.mp hc).2
      omega
    · rw [e] at hc
      exact TL.numL_digits n c hc
  · rw [val_zeros, e]
    exact TL.numL_val n
theorem four_sg {i : Int} (h0 : 0 ≤ i) (h : i.natAbs < 10000) : sg (four i) = Fr.pad i.natAbs := by
  have e : sg (four i) = List.replicate (4 - (Nat.toDigits 10 i.natAbs).length) 48 ++ (Nat.toDigits 10 i.natAbs).map Char.toNat := sg_tx _
  rw [e]
  exact four_pad _ h
theorem foldl_rep (x : Array Nat) : ∀ (n : Nat) (acc : Array Nat), ((List.replicate n x).foldl (· ++ ·) acc).toList = acc.toList ++ (List.replicate n x.toList).flatten
  | 0, acc => by simp
  | n + 1, acc => by
    rw [List.replicate_succ, List.foldl_cons, foldl_rep x n, List.replicate_succ, List.flatten_cons]
    simp
theorem sg_mul (z : Str) (n : Nat) : sg (Txt.mul z (n : Int)) = (List.replicate n (sg z)).flatten := by
  unfold Txt.mul
  split
  · rename_i h
    have : n = 0 := by omega
    subst this
    rfl
  · split
    · rename_i h1 h2
      simp only [Bool.or_eq_true, beq_iff_eq] at h2
      rcases h2 with h2 | h2
      · have : n = 1 := by omega
        subst this
        simp
      · have : sg z = [] := by
          have := sg_len z
          rw [h2] at this
          exact List.length_eq_zero_iff.mp this
        rw [this]
        simp
    · show ((List.replicate (n : Int).toNat z.cps).foldl (· ++ ·) #[]).toList = _
      rw [foldl_rep]
      simp [sg]
end Nv

namespace Nv
open PySem L2

/-! data that are compared and shown -/
structure Ft (W D : Nat) (d : PyData) : Prop where
  c : d.canLay0 = true
  s : Shw W D d
structure Fts (W D : Nat) (ds : List PyData) : Prop where
  c : PyData.canLayAll0 ds = true
  s : Shws W D ds
theorem Ft.int {D : Nat} {i : Int} (h : -(10 ^ 21) ≤ i ∧ i ≤ 10 ^ 21) : Ft 71 D (.int i) := ⟨rfl, Shw.int h⟩
theorem Ft.str {D : Nat} {z : Str} (a : Asc z) : Ft z.length D (.str z) := by
  refine ⟨?_, Shw.str a⟩
  have h : z.cps.all (fun c => decide (c < 0x110000)) = true := by
    rw [← Array.all_toList]
    simp only [List.all_eq_true, decide_eq_true_eq]
    exact fun c hc => Nat.lt_of_lt_of_le (a c hc) (by decide)
  simp only [PyData.canLay0, PyData.strOk, h]
theorem Ft.non {W D : Nat} : Ft W D .none := ⟨rfl, Shw.non⟩
theorem Ft.bl {W D : Nat} (b : Bool) : Ft W D (.bool b) := ⟨rfl, Shw.bl b⟩
theorem Ft.le {W D W' D' : Nat} {d : PyData} (h : Ft W D d) (a : W ≤ W') (b : D ≤ D') : Ft W' D' d := ⟨h.c, h.s.le a b⟩
theorem Ft.list {W D : Nat} {ds : List PyData} (h : Fts W D ds) : Ft W (D + 1) (.list ds) := ⟨by simpa only [PyData.canLay0] using h.c, Shw.list h.s⟩
theorem Ft.tuple {W D : Nat} {ds : List PyData} (h : Fts W D ds) : Ft W (D + 1) (.tuple ds) := ⟨by simpa only [PyData.canLay0] using h.c, Shw.tuple h.s⟩
theorem Fts.nil {W D : Nat} : Fts W D [] := ⟨rfl, Shws.nil⟩
theorem Fts.cons {W1 W2 D : Nat} {d : PyData} {ds : List PyData} (a : Ft W1 D d) (b : Fts W2 D ds) : Fts (W1 + 1 + W2) D (d :: ds) := ⟨by simp only [PyData.canLayAll0, a.c, b.c, Bool.and_self], Shws.cons a.s b.s⟩
theorem Fts.le {W D W' D' : Nat} {d : List PyData} (h : Fts W D d) (a : W ≤ W') (b : D ≤ D') : Fts W' D' d := ⟨h.c, h.s.le a b⟩
def strsD (ts : List (List Nat)) : List PyData := ts.map fun t => .str (tx t)
def wt (ts : List (List Nat)) : Nat := (ts.map fun t => t.length + 1).sum
theorem Fts.strs {D : Nat} : ∀ {ts : List (List Nat)}, (∀ t ∈ ts, ∀ c ∈ t, c < 128) → Fts (wt ts) D (strsD ts)
  | [], _ => Fts.nil
  | t :: r, h => by
    have a : Asc (tx t) := fun c hc => h t (by simp) c (by rw [show (tx t).cps.toList = t from sg_tx t] at hc; exact hc)
    have q := Fts.cons (Ft.str (D := D) a) (Fts.strs (D := D) (ts := r) fun t ht => h t (by simp [ht]))
    rw [tx_len] at q
    exact q.le (by simp [wt]) (Nat.le_refl _)
theorem dp_strsD {K : PySem.W.Frag} {H : Hp} : ∀ ts : List (List Nat), DpAll K H (ts.map fun t => V.str (tx t)) (strsD ts)
  | [] => .nil
  | t :: r => .cons (.str _) (dp_strsD r)
/-- v == w and repr(v) == repr(w), both the data d -/
def spEqual (K : PySem.W.Frag) : Sp := fun vs H Q _ => ∃ v u d W D, vs = [v, u] ∧ Dp K H v d ∧ Dp K H u d ∧ ((∃ z, v = .str z) ∨ ∃ a, v = .ref a) ∧ ((∃ z, u = .str z) ∨ ∃ a, u = .ref a) ∧ Ft W D d ∧ W ≤ 390000 ∧ D ≤ 50 ∧ Q (.bl true) H
theorem r_eqD {K : PySem.W.Frag} {H : Hp} {Q : VK} {v u : V} {d : PyData} {W D : Nat} (a : Dp K H v d) (b : Dp K H u d) (f : Ft W D d) (h : D ≤ 60) (q : Q (.bl true) H) : rEqD K v u H Q := by
  have sh : SeqAt.shaped d = true := by
    unfold SeqAt.shaped
    have := f.s.p
    rw [f.c, Bool.true_and, decide_eq_true_eq]
    omega
  have e := SeqAt.eqv_refl d f.c
  exact ⟨d, d, a, b, sh, sh, by rw [e]; exact q⟩
theorem r_reprD {K : PySem.W.Frag} {H : Hp} {Q : VK} {v : V} {d : PyData} {W D : Nat} (a : Dp K H v d) (hv : (∃ z, v = .str z) ∨ ∃ a, v = .ref a) (f : Ft W D d) (hw : W ≤ 390000) (h : D ≤ 60) (q : Q (.str d.shown) H) : rReprD K [v] H Q :=
  ⟨v, d, rfl, a, hv, PyData.hasDict_of_canLay d f.c, f.s.h, Nat.le_trans f.s.p h, f.s.len hw, q⟩
/-- data that are compared and shown, however large their numbers -/
structure Fx (d : PyData) : Prop where
  c : d.canLay0 = true
  p : d.depth ≤ 50
  h : d.showable = true
  l : d.shown.length ≤ sizeLine
theorem Ft.fx {W D : Nat} {d : PyData} (f : Ft W D d) (hw : W ≤ 390000) (hd : D ≤ 50) : Fx d := ⟨f.c, Nat.le_trans f.s.p hd, f.s.h, f.s.len hw⟩
def spEq (K : PySem.W.Frag) : Sp := fun vs H Q _ => ∃ v u d, vs = [v, u] ∧ Dp K H v d ∧ Dp K H u d ∧ ((∃ z, v = .str z) ∨ ∃ a, v = .ref a) ∧ ((∃ z, u = .str z) ∨ ∃ a, u = .ref a) ∧ Fx d ∧ Q (.bl true) H
theorem spEq.of {K : PySem.W.Frag} {vs : List V} {H : Hp} {Q : VK} {E : XK} (h : spEqual K vs H Q E) : spEq K vs H Q E := by
  obtain ⟨v, u, d, W, D, rfl, a, b, hv, hu, f, hw, hd, k⟩ := h
  exact ⟨v, u, d, rfl, a, b, hv, hu, f.fx hw hd, k⟩
theorem r_eqF {K : PySem.W.Frag} {H : Hp} {Q : VK} {v u : V} {d : PyData} (a : Dp K H v d) (b : Dp K H u d) (f : Fx d) (q : Q (.bl true) H) : rEqD K v u H Q := by
  have sh : SeqAt.shaped d = true := by
    unfold SeqAt.shaped
    have := f.p
    rw [f.c, Bool.true_and, decide_eq_true_eq]
    omega
  have e := SeqAt.eqv_refl d f.c
  exact ⟨d, d, a, b, sh, sh, by rw [e]; exact q⟩
theorem r_reprF {K : PySem.W.Frag} {H : Hp} {Q : VK} {v : V} {d : PyData} (a : Dp K H v d) (hv : (∃ z, v = .str z) ∨ ∃ a, v = .ref a) (f : Fx d) (q : Q (.str d.shown) H) : rReprD K [v] H Q :=
  ⟨v, d, rfl, a, hv, PyData.hasDict_of_canLay d f.c, f.h, Nat.le_trans f.p (by decide), f.l, q⟩
end Nv

namespace Nv
open PySem PySem.Spec PyProof.Rows L2

/-! own errors that are held as values -/
def ExV (H : Hp) (a C : Addr) : Prop := ∃ (d : Addr) (fs : List (Str × V)), H a = some (exo a C (some d)) ∧ H d = some (exd d fs)
theorem ExV.same {H H' : Hp} {a C : Addr} (h : ExV H a C) (s : Same H H') : ExV H' a C := by
  obtain ⟨d, fs, h1, h2⟩ := h
  exact ⟨d, fs, s _ _ h1, s _ _ h2⟩
def rIsiE (K : PySem.W.Frag) : List V → Hp → VK → Prop := fun xs H Q => ∃ (a C : Addr) (T : String) (b : Bool), xs = [.ref a, .ty T] ∧ ExV H a C ∧ PySem.W.NvCls K C ∧ PySem.W.kitOne K (.ref C) (.type T) = some b ∧ Q (.bl b) H
def rIsiA (K : PySem.W.Frag) : List V → Hp → VK → Prop := fun xs H Q => rIsi K xs H Q ∨ rIsiE K xs H Q
theorem call_isiA {X : Cx} : CallR X (.builtin "isinstance") (rIsiA X.K) := by
  intro pins s σ H xs us Q I r h
  rcases h with h | h
  · exact call_isi pins s σ H xs us Q I r h
  · obtain ⟨a, C, T, b, rfl, ⟨d, fs, h1, h2⟩, c, e, q⟩ := h
    obtain ⟨u1, u2, rfl, r1, r2⟩ := vals2 r
    cases (show u1 = Value.ref a from r1)
    cases (show u2 = Value.type T from r2)
    obtain ⟨t1, ho⟩ := exo_at I.hok h1
    obtain ⟨mA, ⟨od, es, ep, hod, _⟩, _⟩ := exd_at I.hok h2
    have J : ∃ od, PySem.W.InstAt s.heap a ({ cls := .ref C, dict := some d, data := .fields #[.ref t1, .none, .none, .none, .bool false, .none] } : Obj) C od :=
      ⟨some od, ho, rfl, rfl, hod⟩
    exact PySem.W.kia_one (PySem.W.nv_kit c) I.kIn J e (fun z => nomatch z) fun tk => ⟨.bl b, H, I.tok tk, rfl, q⟩

section
variable {X : Cx} {e : Expr} {te : TE} {p pos : Pos} {x f : Str} {C fI : Addr} {fd : FuncData}
/-- C(e) as a value -/
def tErrV (C : Addr) (f : Str) (te : TE) : TE := fun σ H Q => te σ H fun v H1 => ∀ a d, H1 a = none → H1 d = none → d ≠ a → Q (.ref a) (upd (upd H1 d (exd d [(f, v)])) a (exo a C (some d)))
theorem pe_errV (T : ErrT X.K X.mg x f C fI) (F1 : FnOk X.prog X.w X.K X.mg X.base CX0 1 fI fd ["self", f] (spXI X.K f)) (hb : Binds X.K fd ["self", f] []) (hr : Room 2 X.A) (ha : PE X e te) (hg : Gl X x := by rfl)
    (hdb : (x == ("__debug__" : Str)) = false := by decide) (he : starEach (e :: []) X.env = (false, eval e X.env) :: starEach [] X.env := by rfl) (hpl : (backTo pos (starEach [] X.env)).any (·.1) = false := by rfl) :
    PE X (.Call (.Name x p) (e :: []) [] pos) (tErrV C f te) := by
  constructor
  intro pins s σ H Q I h
  obtain ⟨nm, q, N, bs, bm, sn, sub, ab, col, dd, k0, k1, k2, k3, k5, hC, hbm⟩ := T.T.cls
  refine wpAny_Call_Name_kw (ld_glob I hg T.gC ?_ hdb)
  have hq : ∀ (vs : List V) (H1 : Hp), (∃ v, vs = [v] ∧ ∀ a d, H1 a = none → H1 d = none → d ≠ a → Q (.ref a) (upd (upd H1 d (exd d [(f, v)])) a (exo a C (some d)))) → (∃ v, vs = [v] ∧ ∀ a d, H1 a = none → H1 d = none → d ≠ a → Q (.ref a) (upd (upd H1 d (exd d [(f, v)])) a (exo a C (some d)))) := fun _ _ z => z
  refine PySem.W.callWith_K (h₀ := X.base) I.ok.mod.kin T.T.kC (thn ((pa_any ha he).run pos pins s σ H (fun vs H1 => ∃ v, vs = [v] ∧ ∀ a d, H1 a = none → H1 d = none → d ≠ a → Q (.ref a) (upd (upd H1 d (exd d [(f, v)])) a (exo a C (some d)))) I ⟨_, h, fun v H1 z => ⟨v, rfl, z⟩⟩) fun us s1 hh => ?_) he hpl
  obtain ⟨vs, H1, I1, r1, v, rfl, q1⟩ := hh
  refine ⟨I1.kIn, ?_⟩
  show wpAny _ _ (call (.ref C) us) _ _ _
  obtain ⟨hp, g, dr, tk, os⟩ := s1
  have hsz : hp.objs.size ≤ hp.objs.size + 1 := Nat.le_succ _
  have hn : H1 (hp.objs.size + 1) = none := I1.hok.fresh hsz
  have kk : ∀ b o, hp.get? b = some o → ((hp.push (PySem.W.kdv_tup us)).push (PySem.HandSPX.excO C hp.objs.size)).get? b = some o := fun b o e => Heap.get?_push_of_some _ (Heap.get?_push_of_some _ e)
  have hget : ((hp.push (PySem.W.kdv_tup us)).push (PySem.HandSPX.excO C hp.objs.size)).get? (hp.objs.size + 1) = some (PySem.HandSPX.excO C hp.objs.size) := by heap_get
  have I2 : Inv X pins σ (upd H1 (hp.objs.size + 1) (exo (hp.objs.size + 1) C none)) ⟨(hp.push (PySem.W.kdv_tup us)).push (PySem.HandSPX.excO C hp.objs.size), g, dr, tk, os⟩ :=
    I1.laid (t' := tk) (a := hp.objs.size + 1) (o := exo (hp.objs.size + 1) C none) (h' := (hp.push (PySem.W.kdv_tup us)).push (PySem.HandSPX.excO C hp.objs.size)) kk hsz (exo_ok hget)
  have hus : us.length ≤ sizeLine := by
    rw [← Paired.length r1, sizeLine_eq]
    show 1 ≤ 16777216
    decide
  obtain ⟨u0, rfl, r0⟩ : ∃ u0, us = [u0] ∧ RelV v u0 := by
    cases r1 with
    | cons a t =>
      cases t
      exact ⟨_, rfl, a⟩
  have hl : (Value.ref (hp.objs.size + 1) :: [u0] ++ []).length = ([("self" : Str), f] : List Str).length := rfl
  have r2 : Vals [V.ref (hp.objs.size + 1), v] [Value.ref (hp.objs.size + 1), u0] := .cons rfl (.cons r0 .nil)
  have hbb := hb _ (Value.ref (hp.objs.size + 1) :: [u0]) I2.kIn hl
  rw [List.append_nil] at hbb
  have hsp : spXI X.K f [V.ref (hp.objs.size + 1), v] (upd H1 (hp.objs.size + 1) (exo (hp.objs.size + 1) C none)) (fun w H2 => w = .non ∧ Q (.ref (hp.objs.size + 1)) H2) (fun _ _ _ => False) := by
    refine ⟨_, C, v, rfl, T.T, T.noF, upd_same, fun dx h1 h2 => ⟨rfl, ?_⟩⟩
    rw [upd_ne h2] at h1
    have e : upd (upd (upd H1 (hp.objs.size + 1) (exo (hp.objs.size + 1) C none)) dx (exd dx [(f, v)])) (hp.objs.size + 1) (exo (hp.objs.size + 1) C (some dx)) = upd (upd H1 dx (exd dx [(f, v)])) (hp.objs.size + 1) (exo (hp.objs.size + 1) C (some dx)) := by
      funext b
      by_cases g1 : b = hp.objs.size + 1
      · subst g1
        rw [upd_same, upd_same]
      · rw [upd_ne g1, upd_ne g1]
        by_cases g2 : b = dx
        · subst g2
          rw [upd_same, upd_same]
        · rw [upd_ne g2, upd_ne g2, upd_ne g1]
    rw [e]
    exact q1 _ dx hn h1 h2
  refine wpAny_call (PySem.HandSPX.call_own F.excBase_ValueError (fun Y => PySem.HandSPX.refsVE_contains Y bm hbm) (I1.kIn _ _ hC) (PySem.W.looks_findIn I1.kIn T.iC) (fun self => PySem.W.bind_fn I1.kIn self T.tI) hus
    (codeAny_mono (F1.run _ X.stack _ _ ⟨Value.ref (hp.objs.size + 1) :: [u0], []⟩ [Value.ref (hp.objs.size + 1), u0] _ _ (fun _ _ _ => False) (hr.make C [u0] []) (I2.env0.make C [u0] []) hbb r2 hsp) fun r s' hq' => ?_))
  cases r with
  | error er => exact pass0 pins σ _ _ er s' I2 hq'
  | ok fl =>
    cases fl with
    | ret u =>
      obtain ⟨w, H2, J, rv, ew, q2⟩ := I2.after hq'
      subst ew
      exact ⟨rv, .ref (hp.objs.size + 1), H2, J, rfl, q2⟩
    | next => exact False.elim hq'
    | brk => exact False.elim hq'
    | cont => exact False.elim hq'
end
section
variable {prog : Program} {w : World} {A : Around} {E : Value → Shared → Prop} {s : Shared} {K : PySem.W.Frag} {x C : Addr} {ox : Obj} {od : Option Obj}
theorem call_objEqS {Q : Value → Shared → Prop} (X : K.In s.heap) (I : PySem.W.InstAt s.heap x ox C od) (hm : PySem.W.mroIn K C (.type "object") = some true) (hq : Q (.bool true) s) :
    wpAny (model prog w) A (call (.builtin "object.__eq__") [.ref x, .ref x]) Q E s :=
  wpAny_call (codeAny_call_builtin F.cmp_object.eq.plain F.cmpEntry_eq (PySem.W.check_slot F.cmpKind_eq F.cmpSplit_eq (I.type.andThen (PySem.W.looks_mroIn X hm)) (F.cmpArgs_eq _ _) (objEq_entry_same hq)))
theorem rc_same {Q : Value → Shared → Prop} (hu : A.units < cLine) (X : K.In s.heap) (I : PySem.W.InstAt s.heap x ox C od) (hm : PySem.W.mroIn K C (.type "object") = some true) (hs : PySem.W.findIn K (.ref C) "__eq__" = some (some (.builtin "object.__eq__"))) (h : Q (.bool true) s) :
    wpAny (model prog w) A (compareOp .Eq (.ref x) (.ref x)) Q E s := by
  have one : ∀ {R : Option Value → Shared → Prop}, R (some (.bool true)) s → wpAny (model prog w) A (tryCompare (.ref x) "__eq__" (.ref x)) R E s := fun h => by
    unfold tryCompare
    exact wpAny_bind (HN.ifBound_objEq X I hs (call_objEqS X I hm (wpAny_pure h)))
  show wpAny _ _ (richCompare .Eq (.ref x) (.ref x)) _ _ _
  simp only [richCompare, cmpInfo_Eq, oneThing_ref]
  refine wpAny_holding (wpAny_bind (wpAny_cRoomFor hu ?_))
  refine wpAny_bind (I.type.here ?_)
  refine wpAny_bind (I.type.here ?_)
  repeat (first | with_reducible refine one ?_ | wp_step)
  exact h
end
def rEqX (K : PySem.W.Frag) : R2 := fun x y H Q => ∃ a C, x = .ref a ∧ y = .ref a ∧ ExV H a C ∧ PySem.W.mroIn K C (.type "object") = some true ∧ PySem.W.findIn K (.ref C) "__eq__" = some (some (.builtin "object.__eq__")) ∧ Q (.bl true) H
theorem op_eqX {X : Cx} (hu : X.A.units < cLine) : OpR X (compareOp .Eq) (rEqX X.K) := by
  intro pins s σ H x y v u Q I rx ry h
  obtain ⟨a, C, rfl, rfl, ⟨d, fs, h1, h2⟩, hm, hs, q⟩ := h
  cases (show v = Value.ref a from rx)
  cases (show u = Value.ref a from ry)
  obtain ⟨t1, ho⟩ := exo_at I.hok h1
  obtain ⟨mA, ⟨od, es, ep, hod, _⟩, _⟩ := exd_at I.hok h2
  have J : PySem.W.InstAt s.heap a ({ cls := .ref C, dict := some d, data := .fields #[.ref t1, .none, .none, .none, .bool false, .none] } : Obj) C (some od) :=
    ⟨ho, rfl, rfl, hod⟩
  exact rc_same hu I.kIn J hm hs ⟨.bl true, H, I, rfl, q⟩

/-! a def that is called within an except suite and lets nothing out -/
open L2H in
structure FnGH (P : Program) (w : World) (K : PySem.W.Frag) (mg : Str → Option Value) (base : Heap) (k : Nat)
    (f : Addr) (fd : FuncData) (ps : List Str) (sp : Sp) : Prop where
  len : ∀ vs H Q E, sp vs H Q E → vs.length = ps.length
  run : ∀ (A : Around) (outer : List Env) (s : Shared) (H : Hp) (args : Args) (us : List Value) (vs : List V) (Q : VK) (E : XK) (p : Addr × Obj),
    A.guards = some [] → RoomH k A → PinOk outer H s p → Env0 P w K mg base A outer s H → BindsTo s fd args (ps.zip us) → Vals vs us →
    sp vs H Q E → codeAny (model P w) A (.call (.ref f) args) (CR CX0 outer P w H s Q E) s
open L2H in
theorem okGH {P : Program} {w : World} {K : PySem.W.Frag} {mg : Str → Option Value} {base : Heap} {k : Nat} {f : Addr} {fd : FuncData} {ps : List Str} {sp : Sp} {x qual : Str} {st : Stmt} {N : List Str}
    (F : Fun K x qual st f fd) (S : FnScope N ps (defScope st)) (len : ∀ vs H Q E, sp vs H Q E → vs.length = ps.length)
    (body : ∀ (cdv : Value) (A : Around) (outer : List Env) (s : Shared) (H : Hp) (vs : List V) (Q : VK) (E : XK) (p : Addr × Obj),
      A.guards = some [] → RoomH k (A.deeper (envOfC qual (defScope st) s.heap.objs.size f cdv)) → sp vs H Q E →
      ∃ t, PSs (cxH CX0 P w K mg base N qual (defScope st) f cdv A outer s H E p) (defBody st) t ∧
        t { nx := fun _ H' => Q .non H', rt := Q } (start N vs) H) :
    FnGH P w K mg base (k + 1) f fd ps sp := by
  obtain ⟨oc, od, kV, doc, pm, an, cdv, ct, osl, rfl, lk, hcd⟩ := F.ex
  refine ⟨len, ?_⟩
  intro A outer s H args us vs Q E p hg hr pin e0 hb r hsp
  have hl := len _ _ _ _ hsp
  have stays : ∀ b o, base.get? b = some o → s.heap.get? b = some o := fun b o e => (e0.bs b o e).1
  have KX : K.In s.heap := e0.mod.kin.keeps stays
  have kinds : ∀ y ∈ ps.zip us, (defScope st).names.lookup y.1 = some .local ∨
      ((defScope st).names.lookup y.1 = some .cell ∧
        ((cellsFrom (s.heap.objs.size + 1) (defScope st).names []).lookup y.1).isSome = true) := by
    intro y hy
    rcases S.par y.1 (List.of_mem_zip (a := y.1) (b := y.2) hy).1 with q | q
    · exact Or.inl q
    · exact Or.inr ⟨q, PySem.W.cellsFrom_some _ _ _ (Or.inl q)⟩
  refine codeAny_call_function hr.depth (KX _ _ lk) rfl S.co S.gen rfl (PySem.W.codeRec_of KX hcd) (hb _ _ _ _ ?_)
  refine wpAny_newFunctionEnv_cells S.kind kinds ?_
  intro env he s1 x
  subst he
  refine ⟨(e0.mod.nolimit.keeps stays).keeps x.toInCall.keep, codeAny_func ?_⟩
  obtain ⟨t, ht, hq⟩ := body cdv A outer s H vs Q E p hg (hr.deeper _) hsp
  have I := inv_startH (CX := CX0) (E := E) S pin e0 hl r x
  refine wpAny_mono (ht.run [] s1 (start N vs) H _ I hq) ?_ (fun _ _ z => z)
  intro fl s' hs
  have fin : ∀ {σ' : L2.St} {H' : Hp} {v : V} {u : Value},
      Inv (cxH CX0 P w K mg base N qual (defScope st) f cdv A outer s H E p) [] σ' H' s' → RelV v u → Q v H' →
      CE outer P w H s Q u s' := fun {σ' H' v u} J rv q => ⟨v, H', J.os, J.bare, J.base, J.hok, rv, q⟩
  cases fl with
  | next => obtain ⟨_, _, J, q⟩ := hs; exact fin (v := V.non) (u := Value.none) J rfl q
  | ret u => obtain ⟨_, _, _, J, rv, q⟩ := hs; exact fin J rv q
  | brk => obtain ⟨_, _, _, q⟩ := hs; exact q.elim
  | cont => obtain ⟨_, _, _, q⟩ := hs; exact q.elim
open L2H in
theorem pe_cGH {X : Cx} {W : WX} {k : Nat} {f : Addr} {fd : FuncData} {ps : List Str} {sp : Sp} {x : Str} {q pos : Pos} {e : Expr} {es : List Expr} {t : TA} {p : Addr × Obj}
    (F : FnGH X.prog X.w X.K X.mg X.base k f fd ps sp) (b : Pos1 fd ps) (hG : X.A.guards = some []) (hr : RoomH k X.A) (hp : p ∈ X.pn)
    (hm : X.mg x = some (.ref f)) (hk : PySem.W.keepIn X.K (.ref f) = true) (ha : PA X (e :: es) t) (hg : Gl X x := by rfl)
    (hdb : (x == ("__debug__" : Str)) = false := by decide) (he : starEach (e :: es) X.env = (false, eval e X.env) :: starEach es X.env := by rfl)
    (hpl : (backTo pos (starEach es X.env)).any (·.1) = false := by rfl) : PE X (.Call (.Name x q) (e :: es) [] pos) (tCG sp W t) := by
  constructor
  intro pins s σ H Q I h
  refine wpAny_Call_Name_kw (ld_glob I hg hm ?_ hdb)
  refine PySem.W.callWith_K (h₀ := X.base) I.ok.mod.kin hk (thn (ha.run pos pins s σ H _ I h) ?_) he hpl
  intro us s1 ⟨vs, H1, I1, r, h2⟩
  refine ⟨I1.kIn, ?_⟩
  have P1 := I1.pin p (List.mem_append_left _ hp)
  have hpin : PinOk X.stack H1 s1 p := ⟨P1.1, P1.2.1, fun hm => (List.mem_cons.mp (I1.stkSub p.1 hm)).elim P1.2.2.1 P1.2.2.2.1, P1.2.2.2.2⟩
  have hl : us.length = ps.length := by
    rw [← r.length]
    exact F.len _ _ _ _ h2
  refine wpAny_call (codeAny_mono (F.run X.A X.stack s1 H1 ⟨us, []⟩ us vs Q (WE W σ) p hG hr hpin I1.env0 (.of_eq (b _ hl)) r h2) ?_)
  intro r s' hq
  cases r with
  | error er => exact (pass0 pins σ _ _ er s' I1 hq)
  | ok fl =>
    cases fl with
    | ret u => exact I1.after hq
    | next => exact hq.elim
    | brk => exact hq.elim
    | cont => exact hq.elim

theorem roomHU {k : Nat} {A : Around} (r : L2H.RoomH k A) : A.units + 64 < cLine := by
  have := r.un
  omega
theorem roomS {k : Nat} {A : Around} {h : Option Value} (r : Room k A) : L2H.RoomH k (A.mark h) := ⟨r.dp, r.un⟩
/-- repr of any data -/
def rReprA : List V → Hp → VK → Prop := fun xs H Q => ∃ (v : V) (d : PyData), xs = [v] ∧ DV H v d ∧ d.showable = true ∧ d.depth ≤ 60 ∧ d.shown.length ≤ sizeLine ∧ (∀ i, d = .int i → i.natAbs.log2 < 1920) ∧ Q (.str d.shown) H
theorem call_reprA {X : Cx} (hG : X.A.guards = some []) (hu : X.A.units + 64 < cLine) : CallR X (.builtin "repr") rReprA := by
  intro pins s σ H xs us Q I r h
  obtain ⟨v, d, rfl, hd, hs, hp, hz, hi, q⟩ := h
  obtain ⟨u, rfl, r1⟩ := vals1 r
  cases hd with
  | non =>
    cases (show u = Value.none from r1)
    exact PySem.P.repr_of_none ⟨.str _, H, I.tok _, ⟨_, rfl⟩, q⟩
  | bl b =>
    cases (show u = Value.bool b from r1)
    exact PySem.P.repr_of_bool ⟨.str (Str.ofString (if b then "True" else "False")), H, I.tok _, ⟨_, by cases b <;> rfl⟩, by cases b <;> exact q⟩
  | int i =>
    obtain ⟨t, rfl⟩ := (show ∃ t, u = Value.int i t from r1)
    exact PySem.P.repr_of_int (hi i rfl) ⟨.str _, H, I.tok _, ⟨_, rfl⟩, q⟩
  | str z =>
    obtain ⟨t, rfl⟩ := (show ∃ t, u = Value.str z t from r1)
    exact PySem.P.repr_of_str ⟨.str (reprText z), H, I.tok _, ⟨_, rfl⟩, q⟩ hz
  | @lst a xs ds h n q2 =>
    cases (show u = Value.ref a from r1)
    exact call_repr hG hu pins s σ H _ _ Q I r ⟨a, _, rfl, .lst h n q2, hs, hp, hz, q⟩
  | @tup a xs ds h q2 =>
    cases (show u = Value.ref a from r1)
    exact call_repr hG hu pins s σ H _ _ Q I r ⟨a, _, rfl, .tup h q2, hs, hp, hz, q⟩
  | @dct a xs ds h q2 =>
    cases (show u = Value.ref a from r1)
    exact call_repr hG hu pins s σ H _ _ Q I r ⟨a, _, rfl, .dct h q2, hs, hp, hz, q⟩
theorem e_errv {C : Addr} {f : Str} {te : TE} {σ : L2.St} {H : Hp} {Q : VK} : tErrV C f te σ H Q = te σ H (fun v H1 => ∀ a d, H1 a = none → H1 d = none → d ≠ a → Q (.ref a) (upd (upd H1 d (exd d [(f, v)])) a (exo a C (some d)))) := rfl

/-- data, or an own error (which counts as None where it is asked what it is) -/
inductive AV (K : PySem.W.Frag) (H : Hp) : V → PyData → Prop
  | dat {v : V} {d : PyData} (h : DV H v d) : AV K H v d
  | exc {a C : Addr} (h : ExV H a C) (n : PySem.W.NvCls K C) (k1 : PySem.W.kitOne K (.ref C) (.type "str") = some false) (k2 : PySem.W.kitOne K (.ref C) (.type "tuple") = some false) : AV K H (.ref a) .none
theorem AV.mono {K : PySem.W.Frag} {H H' : Hp} {v : V} {d : PyData} (h : AV K H v d) (e : Same H H') : AV K H' v d := by
  cases h with
  | dat h => exact .dat (h.mono e)
  | exc h n k1 k2 => exact .exc (h.same e) n k1 k2
def isT : PyData → Bool
  | .tuple _ => true
  | _ => false
def isD : PyData → Bool
  | .dict _ => true
  | _ => false
theorem kit_tuple (d : PyData) : kitB (tyName d) "tuple" = some (isT d) := by
  cases d with
  | none => exact (by decide +kernel : kitB "NoneType" "tuple" = some false)
  | bool b => exact (by decide +kernel : kitB "bool" "tuple" = some false)
  | int i => exact (by decide +kernel : kitB "int" "tuple" = some false)
  | str x => exact (by decide +kernel : kitB "str" "tuple" = some false)
  | list l => exact (by decide +kernel : kitB "list" "tuple" = some false)
  | tuple l => exact (by decide +kernel : kitB "tuple" "tuple" = some true)
  | dict l => exact (by decide +kernel : kitB "dict" "tuple" = some false)
theorem kit_dict (d : PyData) : kitB (tyName d) "dict" = some (isD d) := by
  cases d with
  | none => exact (by decide +kernel : kitB "NoneType" "dict" = some false)
  | bool b => exact (by decide +kernel : kitB "bool" "dict" = some false)
  | int i => exact (by decide +kernel : kitB "int" "dict" = some false)
  | str x => exact (by decide +kernel : kitB "str" "dict" = some false)
  | list l => exact (by decide +kernel : kitB "list" "dict" = some false)
  | tuple l => exact (by decide +kernel : kitB "tuple" "dict" = some false)
  | dict l => exact (by decide +kernel : kitB "dict" "dict" = some true)
section
variable {K : PySem.W.Frag} {H : Hp} {Q : VK} {v : V} {d : PyData}
theorem r_isiD {T : String} {b : Bool} (h : DV H v d) (e : kitB (tyName d) T = some b) (q : Q (.bl b) H) : rIsiA K [v, .ty T] H Q := .inl (r_isi h e q)
theorem AV.isStr (h : AV K H v d) (q : Q (.bl (isS d)) H) : rIsiA K [v, .ty "str"] H Q := by
  cases h with
  | dat h => exact r_isiD h (kit_str d) q
  | exc h n k1 k2 => exact .inr ⟨_, _, _, _, rfl, h, n, k1, q⟩
theorem AV.isTup (h : AV K H v d) (q : Q (.bl (isT d)) H) : rIsiA K [v, .ty "tuple"] H Q := by
  cases h with
  | dat h => exact r_isiD h (kit_tuple d) q
  | exc h n k1 k2 => exact .inr ⟨_, _, _, _, rfl, h, n, k2, q⟩
theorem AV.str {z : Str} (h : AV K H v (.str z)) : v = .str z := by
  cases h with
  | dat h => cases h; rfl
theorem AV.tup {ds : List PyData} (h : AV K H v (.tuple ds)) : ∃ a xs, v = .ref a ∧ H a = some (.tup xs) ∧ DVs H xs ds := by
  cases h with
  | dat h => cases h with | tup e r => exact ⟨_, _, rfl, e, r⟩
theorem DVs.len {xs : List V} {ds : List PyData} (h : DVs H xs ds) : xs.length = ds.length := by
  induction xs generalizing ds with
  | nil => cases h; rfl
  | cons x xs ih => cases h with | cons a b => simp [ih b]
end

/-- list(x), the new one not the table of modules -/
theorem call_list_new {X : Cx} : CallR X (.type "list") (fun xs H Q => ∃ (src : Addr) (items : List V), xs = [.ref src] ∧ (SqL X.K H src items ∨ SqT X.K H src items) ∧
    ∀ l, H l = none → l ≠ sysModules → Q (.ref l) (upd H l (.lst items))) := by
  intro pins st σ H xs us Q I rel hyp
  obtain ⟨src, items, rfl, which, post⟩ := hyp
  obtain ⟨val, rfl, rv⟩ := vals1 rel
  cases rv
  have big : st.heap.objs.size ≠ sysModules := Nat.ne_of_gt I.big
  have free := I.hok.fresh (Nat.le_refl st.heap.objs.size)
  have done_ : ∀ (vs : List Value) (hv : Vals items vs) (hn : items.length ≤ sizeLine) (hp : Heap) (ct : Nat)
      (keep : ∀ b o, st.heap.get? b = some o → hp.get? b = some o)
      (new : hp.get? st.heap.objs.size = some { cls := .type "list", dict := none, data := .seq vs.toArray ct, slots := #[] }),
      EP X pins σ Q (.ref st.heap.objs.size) { st with heap := hp } := by
    intro vs hv hn hp ct keep new
    refine ⟨.ref st.heap.objs.size, upd H st.heap.objs.size (.lst items), ?_, rfl, post _ free big⟩
    exact I.laid (t' := st.toks) keep (Nat.le_refl _) ⟨hn, vs, ct, hv, new⟩
  cases which with
  | inl q =>
    obtain ⟨vs, hv, pl, hn⟩ := I.list q
    have el := hv.length
    obtain ⟨o, e1, e2, ct, e3⟩ := pl.isList
    refine call_list_seq src (.inl rfl) e1 e2 e3 (done_ vs hv hn) ?_
    rw [List.size_toArray]
    omega
  | inr q =>
    obtain ⟨vs, hv, pl, hn⟩ := I.tuple q
    have el := hv.length
    obtain ⟨o, e1, e2, ct, e3⟩ := pl
    refine call_list_seq src (.inr rfl) e1 e2 e3 (done_ vs hv hn) ?_
    rw [List.size_toArray]
    omega
/-- little of the C stack is used -/
structure HU (A : Around) : Prop where
  units : A.units + 64 < cLine
/-- what is asked of an own error that is an argument -/
structure AvC (K : PySem.W.Frag) (C : Addr) : Prop where
  s : PySem.W.subIn K (.ref C) (.type "str") = some false
  t : PySem.W.subIn K (.ref C) (.type "tuple") = some false
  mo : PySem.W.mroIn K C (.type "object") = some true
  eq : PySem.W.findIn K (.ref C) "__eq__" = some (some (.builtin "object.__eq__"))
theorem kit_type {K : PySem.W.Frag} {C : Addr} {T : String} {b : Bool} (m : PySem.W.kitMeta T = true) (h : PySem.W.subIn K (.ref C) (.type T) = some b) : PySem.W.kitOne K (.ref C) (.type T) = some b := by
  have e : (Value.ref C == Value.type T) = false := by simp
  unfold PySem.W.kitOne
  rw [e]
  show PySem.W.kitCls K (.ref C) (.type T) = some b
  show (if PySem.W.kitMeta T = true then PySem.W.subIn K (.ref C) (.type T) else none) = some b
  rw [if_pos m]
  exact h
theorem AvC.av {K : PySem.W.Frag} {H : Hp} {a C : Addr} (c : AvC K C) (n : PySem.W.NvCls K C) (e : ExV H a C) : AV K H (.ref a) .none :=
  .exc e n (kit_type (by decide +kernel) c.s) (kit_type (by decide +kernel) c.t)
end Nv

namespace Nv
open PySem L2

theorem r_reprA {H : Hp} {Q : VK} {v : V} {d : PyData} {W D : Nat} (h : DV H v d) (s : Shw W D d) (hw : W ≤ 390000) (hd : D ≤ 60) (q : Q (.str d.shown) H) : rReprA [v] H Q :=
  ⟨v, d, rfl, h, s.h, Nat.le_trans s.p hd, s.len hw, fun i e => by
    have := s.h
    subst e
    simpa only [PyData.showable, decide_eq_true_eq] using this, q⟩
mutual
theorem DV.dp {K : PySem.W.Frag} {H : Hp} : ∀ {v : V} {d : PyData}, DV H v d → d.hasDict = false → Dp K H v d
  | _, _, .non, _ => .non
  | _, _, .bl b, _ => .bl b
  | _, _, .int i, _ => .int i
  | _, _, .str x, _ => .str x
  | _, _, .lst h n r, e => .lst (.of h) (DVs.dp r (by simpa only [PyData.hasDict] using e))
  | _, _, .tup h r, e => .tup (.of h) (DVs.dp r (by simpa only [PyData.hasDict] using e))
  | _, _, .dct h r, e => by simp [PyData.hasDict] at e
theorem DVs.dp {K : PySem.W.Frag} {H : Hp} : ∀ {vs : List V} {ds : List PyData}, DVs H vs ds → PyData.hasDictAll ds = false → DpAll K H vs ds
  | _, _, .nil, _ => .nil
  | _, _, .cons h r, e => by
    simp only [PyData.hasDictAll, Bool.or_eq_false_iff] at e
    exact .cons (DV.dp h e.1) (DVs.dp r e.2)
end
theorem Shw.dict0 {W D : Nat} : Shw (W + 1) (D + 1) (.dict []) := by
  refine ⟨?_, ?_, ?_, ?_⟩
  · simp only [PyData.leavesShort, PyData.leavesShortKv]
  · simp only [PyData.weight, PyData.weightKv]
    omega
  · simp only [PyData.depth, PyData.depthKv]
    exact Nat.succ_le_succ (Nat.zero_le _)
  · simp only [PyData.showable, PyData.showableKv]
theorem Shw.dict2 {W1 W2 W3 W4 D : Nat} {k v k2 v2 : PyData} (a : Shw W1 D k) (b : Shw W2 D v) (c : Shw W3 D k2) (d : Shw W4 D v2) : Shw (W1 + W2 + W3 + W4 + 4) (D + 1) (.dict [(k, v), (k2, v2)]) := by
  refine ⟨?_, ?_, ?_, ?_⟩
  · simp only [PyData.leavesShort, PyData.leavesShortKv, a.s, b.s, c.s, d.s, Bool.and_self]
  · have := a.w
    have := b.w
    have := c.w
    have := d.w
    simp only [PyData.weight, PyData.weightKv]
    omega
  · have := a.p
    have := b.p
    have := c.p
    have := d.p
    simp only [PyData.depth, PyData.depthKv]
    omega
  · simp only [PyData.showable, PyData.showableKv, a.h, b.h, c.h, d.h, Bool.and_self]
end Nv

namespace Nv
open PySem L2

/-! cells -/
def low (c : Nat) : Bool := decide (97 ≤ c) && decide (c ≤ 122)
def upp (c : Nat) : Bool := decide (65 ≤ c) && decide (c ≤ 90)
theorem alphC : ∀ c, c < 128 → Unicode.isAlpha c = (low c || upp c) := by decide +kernel
theorem lowC : ∀ c, c < 128 → Unicode.isLower c = low c := by decide +kernel
theorem uppC : ∀ c, c < 128 → (Unicode.isUpper c || Unicode.isTitle c) = upp c := by decide +kernel
theorem all_eq {f g : Nat → Bool} {l : List Nat} (h : ∀ c ∈ l, f c = g c) : l.all f = l.all g := by
  induction l with
  | nil => rfl
  | cons c r ih => simp only [List.all_cons, h c (by simp), ih fun d hd => h d (by simp [hd])]
theorem any_eq {f g : Nat → Bool} {l : List Nat} (h : ∀ c ∈ l, f c = g c) : l.any f = l.any g := by
  induction l with
  | nil => rfl
  | cons c r ih => simp only [List.any_cons, h c (by simp), ih fun d hd => h d (by simp [hd])]
theorem not_both (c : Nat) : low c = true → upp c = false := fun h => by
  simp [low] at h
  simp [upp]
  omega
theorem low_lem (l : List Nat) : (decide (0 < l.length) && l.all (fun c => low c || upp c) && (l.any low && !l.any upp)) = (decide (0 < l.length) && l.all low) := by
  cases l with
  | nil => rfl
  | cons c r =>
    rw [Bool.eq_iff_iff]
    simp only [Bool.and_eq_true, decide_eq_true_eq, List.all_eq_true, Bool.or_eq_true, List.any_eq_true, Bool.not_eq_true', List.any_eq_false]
    constructor
    · rintro ⟨⟨h1, h2⟩, _, h4⟩
      refine ⟨h1, fun d hd => ?_⟩
      rcases h2 d hd with z | z
      · exact z
      · exact absurd z (h4 d hd)
    · rintro ⟨h1, h2⟩
      refine ⟨⟨h1, fun d hd => .inl (h2 d hd)⟩, ⟨c, by simp, h2 c (by simp)⟩, fun d hd z => ?_⟩
      rw [not_both d (h2 d hd)] at z
      cases z
theorem isascii_iff (z : Str) : Txt.isascii z = true ↔ Asc z := by
  unfold Txt.isascii
  rw [← Array.all_toList, List.all_eq_true]
  simp only [decide_eq_true_eq]
  exact Iff.rfl
theorem low_lt {c : Nat} (h : low c = true) : c < 128 := by
  simp [low] at h
  omega
theorem alow (z : Str) : (Txt.isascii z && (Txt.isalpha z && Txt.islower z)) = (decide (0 < z.length) && (sg z).all low) := by
  by_cases h : Asc z
  · rw [(isascii_iff z).mpr h, Bool.true_and]
    unfold Txt.isalpha Txt.islower
    rw [← Array.all_toList, ← Array.any_toList, ← Array.any_toList]
    rw [all_eq (g := fun c => low c || upp c) (fun c hc => alphC c (h c hc)), any_eq (g := low) (fun c hc => lowC c (h c hc)), any_eq (g := upp) (fun c hc => uppC c (h c hc))]
    have := low_lem (sg z)
    rw [sg_len] at this
    exact this
  · have e1 : Txt.isascii z = false := by
      cases e : Txt.isascii z with
      | false => rfl
      | true => exact absurd ((isascii_iff z).mp e) h
    rw [e1, Bool.false_and]
    symm
    rw [Bool.and_eq_false_iff]
    right
    cases e : (sg z).all low with
    | false => rfl
    | true => exact absurd (fun c hc => low_lt (List.all_eq_true.mp e c hc)) h

/-! numerals -/
def numL (l : List Nat) : Bool := decide (0 < l.length) && l.all Fr.dig && (decide (l = [48]) || !decide (l.head? = some 48))
theorem zero_sg : sg (Str.ofString "0") = [48] := by decide +kernel
theorem starts0 (z : Str) : Txt.startswith z (Str.ofString "0") = decide ((sg z).head? = some 48) := by
  unfold Txt.startswith Builtin.Str.subAt
  have e1 : (Str.ofString "0").length = 1 := by decide +kernel
  have e2 : (Str.ofString "0").cps = #[48] := by decide +kernel
  rw [e1, e2]
  have e3 : z.length = (sg z).length := (sg_len z).symm
  rw [e3]
  have e4 : z.cps.extract 0 (0 + 1) = ((sg z).take 1).toArray := by
    apply Array.toList_inj.mp
    simp [sg]
  rw [e4]
  cases e : sg z with
  | nil => simp
  | cons c r =>
    simp only [List.length_cons, List.head?_cons, Option.some.injEq, List.take_succ_cons, List.take_zero]
    by_cases h : c = 48
    · subst h
      simp
    · simp [h]
theorem dig_lt {c : Nat} (h : Fr.dig c = true) : c < 128 := by
  simp [Fr.dig] at h
  omega
theorem numS_eq (z : Str) : (Txt.isascii z && (Txt.isdigit z && (decide (V.str z = V.str (Str.ofString "0")) || !Txt.startswith z (Str.ofString "0")))) = numL (sg z) := by
  have k0 : decide (V.str z = V.str (Str.ofString "0")) = decide (sg z = [48]) := by
    congr 1
    refine propext ⟨fun h => ?_, fun h => ?_⟩
    · cases h
      exact zero_sg
    · rw [sg_inj (h.trans zero_sg.symm)]
  rw [k0, starts0]
  unfold numL
  by_cases h : Asc z
  · rw [(isascii_iff z).mpr h, Bool.true_and, isdigit_pl h, sg_len]
  · have e1 : Txt.isascii z = false := by
      cases e : Txt.isascii z with
      | false => rfl
      | true => exact absurd ((isascii_iff z).mp e) h
    rw [e1, Bool.false_and]
    have : (sg z).all Fr.dig = false := by
      cases e : (sg z).all Fr.dig with
      | false => rfl
      | true => exact absurd (fun c hc => dig_lt (List.all_eq_true.mp e c hc)) h
    simp [this]

/-! splits at blanks -/
def occL : List Nat → Nat → Nat → List Nat
  | [], _, _ => []
  | c :: r, i, k => if 0 < k ∧ c = 32 then i :: occL r (i + 1) (k - 1) else occL r (i + 1) k
theorem occL_cons (c : Nat) (r : List Nat) (i k : Nat) : occL (c :: r) i k = if 0 < k ∧ c = 32 then i :: occL r (i + 1) (k - 1) else occL r (i + 1) k := rfl
theorem occL_zero : ∀ (l : List Nat) (i : Nat), occL l i 0 = []
  | [], _ => rfl
  | c :: r, i => by
    rw [occL_cons, if_neg (fun h => by omega)]
    exact occL_zero r (i + 1)
theorem occL_skip {a r : List Nat} {k : Nat} (h : ∀ c ∈ a, c ≠ 32) : ∀ i, occL (a ++ r) i k = occL r (i + a.length) k := by
  induction a with
  | nil => intro i; rfl
  | cons c a ih =>
    intro i
    show occL (c :: (a ++ r)) i k = _
    rw [occL_cons, if_neg (fun z => h c (by simp) z.2), ih (fun d hd => h d (by simp [hd]))]
    rw [List.length_cons, show i + 1 + a.length = i + (a.length + 1) from by omega]
theorem occL_hit (r : List Nat) (i k : Nat) : occL (32 :: r) i (k + 1) = i :: occL r (i + 1) k := by
  show (if 0 < k + 1 ∧ 32 = 32 then _ else _) = _
  rw [if_pos ⟨by omega, rfl⟩]
  rfl
open Builtin.Str StrLaws in
theorem occ_run (x : Str) (k : Nat) : ∀ (r p : List Nat) (acc : Array Nat) (f : Nat), sg x = p ++ r → f ≤ p.length →
    (forIn (List.range' p.length (r.length + 1)) (acc, f) (occBody x ⟨#[32]⟩ x.length k)).run.fst.toList = acc.toList ++ occL r p.length (k - acc.size)
  | [], p, acc, f, e, hf => by
    have hx : x.length = p.length := by
      rw [← sg_len, e]
      simp
    show (forIn [p.length] (acc, f) (occBody x ⟨#[32]⟩ x.length k)).run.fst.toList = _
    rw [List.forIn_cons]
    unfold occBody
    have one : (⟨#[32]⟩ : Str).length = 1 := rfl
    rw [if_neg (fun h => by have := h.1.2; rw [one] at this; omega)]
    simp [occL]
  | c :: r, p, acc, f, e, hf => by
    have hx : x.length = p.length + r.length + 1 := by
      rw [← sg_len, e]
      simp
      omega
    have one : (⟨#[32]⟩ : Str).length = 1 := rfl
    have at_ : subAt x ⟨#[32]⟩ p.length = decide (c = 32) := by
      unfold subAt
      rw [one]
      have e4 : x.cps.extract p.length (p.length + 1) = #[c] := by
        apply Array.toList_inj.mp
        have : x.cps.toList = p ++ c :: r := e
        simp [this]
      rw [e4]
      by_cases h : c = 32
      · subst h
        rfl
      · simp [h]
    have rg : List.range' p.length ((c :: r).length + 1) = p.length :: List.range' (p ++ [c]).length (r.length + 1) := by
      simp [List.range']
    rw [rg, List.forIn_cons]
    have e2 : sg x = (p ++ [c]) ++ r := by rw [e]; simp
    have step := fun (acc' : Array Nat) (f' : Nat) (h : f' ≤ (p ++ [c]).length) => occ_run x k r (p ++ [c]) acc' f' e2 h
    have len1 : (p ++ [c]).length = p.length + 1 := by simp
    unfold occBody
    by_cases h : 0 < k - acc.size ∧ c = 32
    · rw [if_pos ⟨⟨⟨by show acc.size < k; omega, hf⟩, by rw [one]; omega⟩, by rw [at_, h.2]; rfl⟩]
      show (forIn _ (acc.push p.length, p.length + (⟨#[32]⟩ : Str).length) (occBody x ⟨#[32]⟩ x.length k)).run.fst.toList = _
      rw [step _ _ (by rw [one, len1]; omega), len1]
      rw [occL_cons, if_pos h, Array.size_push, show k - acc.size - 1 = k - (acc.size + 1) from by omega]
      simp
    · rw [if_neg (fun z => h ⟨by have : acc.size < k := z.1.1.1; omega, by have := z.2; rw [at_] at this; simpa using this⟩)]
      show (forIn _ (acc, f) (occBody x ⟨#[32]⟩ x.length k)).run.fst.toList = _
      rw [step _ _ (by rw [len1]; omega), len1]
      rw [occL_cons, if_neg h]
open Builtin.Str StrLaws in
theorem occ_is (x : Str) (k : Nat) : occurrences x ⟨#[32]⟩ 0 x.length k = occL (sg x) 0 k := by
  have := occ_run x k (sg x) [] #[] 0 rfl (Nat.le_refl _)
  rw [occ_eq]
  rw [sg_len] at this
  simpa using this
theorem sp_is : Str.ofString " " = ⟨#[32]⟩ := by decide +kernel
theorem sub_sg (x : Str) (i j : Nat) : sg (Builtin.Str.strSub x i j) = ((sg x).drop i).take (j - i) := by
  unfold Builtin.Str.strSub sg
  simp [List.extract_eq_drop_take]
/-- each part is a piece -/
theorem part_sub {x p : Str} {cuts : List Nat} {w : Nat} (h : p ∈ Builtin.Str.partsBetween x cuts w) : p.length ≤ x.length ∧ ∀ c ∈ sg p, c ∈ sg x := by
  unfold Builtin.Str.partsBetween at h
  simp only [List.mem_map] at h
  obtain ⟨⟨i, j⟩, _, rfl⟩ := h
  refine ⟨?_, fun c hc => ?_⟩
  · rw [← sg_len, sub_sg, List.length_take, List.length_drop, sg_len]
    omega
  · rw [sub_sg] at hc
    exact List.mem_of_mem_drop (List.mem_of_mem_take hc)
open Builtin.Str in
theorem splitMax_sub {x p : Str} {k : Int} (h : p ∈ Txt.splitMax x (Str.ofString " ") k) : p.length ≤ x.length ∧ ∀ c ∈ sg p, c ∈ sg x := by
  unfold Txt.splitMax at h
  split at h
  · have : p = x := by simpa using h
    subst this
    exact ⟨Nat.le_refl _, fun c hc => hc⟩
  · split at h
    · have : p = x := by simpa using h
      subst this
      exact ⟨Nat.le_refl _, fun c hc => hc⟩
    · exact part_sub h
open Builtin.Str in
theorem split_sub {x p : Str} (h : p ∈ Txt.split x (Str.ofString " ")) : p.length ≤ x.length ∧ ∀ c ∈ sg p, c ∈ sg x := by
  unfold Txt.split at h
  split at h
  · have : p = x := by simpa using h
    subst this
    exact ⟨Nat.le_refl _, fun c hc => hc⟩
  · split at h
    · have : p = x := by simpa using h
      subst this
      exact ⟨Nat.le_refl _, fun c hc => hc⟩
    · exact part_sub h
open Builtin.Str StrLaws in
theorem split_len (x : Str) : 1 ≤ (Txt.split x (Str.ofString " ")).length ∧ (Txt.split x (Str.ofString " ")).length ≤ x.length + 2 := by
  unfold Txt.split
  split
  · simp
  · split
    · simp
    · rw [length_partsBetween]
      have := occ_length_le x (Str.ofString " ") 0 x.length (x.length + 1)
      omega
open Builtin.Str StrLaws in
theorem splitMax_len (x : Str) : (Txt.splitMax x (Str.ofString " ") 3).length ≤ 4 := by
  unfold Txt.splitMax
  split
  · simp
  · split
    · simp
    · rw [length_partsBetween]
      have := occ_length_le x (Str.ofString " ") 0 x.length (limitOf x 3)
      have e : limitOf x 3 ≤ 3 := by
        unfold limitOf
        simp
      omega

open Builtin.Str StrLaws in
theorem split_four {x : Str} {a b c t : List Nat} (e : sg x = a ++ 32 :: (b ++ 32 :: (c ++ 32 :: t))) (ha : ∀ d ∈ a, d ≠ 32) (hb : ∀ d ∈ b, d ≠ 32) (hc : ∀ d ∈ c, d ≠ 32) :
    Txt.splitMax x (Str.ofString " ") 3 = [tx a, tx b, tx c, tx t] := by
  rw [sp_is]
  have hx : x.length = a.length + b.length + c.length + t.length + 3 := by
    rw [← sg_len, e]
    simp
    omega
  have one : (⟨#[32]⟩ : Str).length = 1 := rfl
  have k1 : Builtin.Str.strKind (⟨#[32]⟩ : Str) = 1 := by decide +kernel
  have k2 : 1 ≤ Builtin.Str.strKind x := by
    unfold Builtin.Str.strKind
    split
    · decide
    · split <;> decide
  have lm : limitOf x 3 = 3 := rfl
  have oc : occurrences x ⟨#[32]⟩ 0 x.length 3 = [a.length, a.length + 1 + b.length, a.length + 1 + b.length + 1 + c.length] := by
    rw [occ_is, e, occL_skip ha, occL_hit, occL_skip hb, occL_hit, occL_skip hc, occL_hit, occL_zero]
    simp only [Nat.zero_add]
  unfold Txt.splitMax
  rw [lm, oc, one, k1]
  have f1 : (decide (x.length < 1) || decide (Builtin.Str.strKind x < 1)) = false := by
    simp
    omega
  rw [f1]
  simp only [Bool.false_eq_true, ↓reduceIte, List.isEmpty_cons]
  unfold partsBetween
  simp only [List.map_cons, List.map_nil, List.cons_append, List.nil_append, List.zip_cons_cons, List.zip_nil_right, List.cons.injEq, and_true]
  have d1 : ((a ++ 32 :: (b ++ 32 :: (c ++ 32 :: t))).drop (a.length + 1)) = b ++ 32 :: (c ++ 32 :: t) := by
    rw [← List.drop_drop, List.drop_left]
    rfl
  have d2 : ((a ++ 32 :: (b ++ 32 :: (c ++ 32 :: t))).drop (a.length + 1 + b.length + 1)) = c ++ 32 :: t := by
    rw [show a.length + 1 + b.length + 1 = (a.length + 1) + (b.length + 1) from by omega, ← List.drop_drop, d1, ← List.drop_drop, List.drop_left]
    rfl
  have d3 : ((a ++ 32 :: (b ++ 32 :: (c ++ 32 :: t))).drop (a.length + 1 + b.length + 1 + c.length + 1)) = t := by
    rw [show a.length + 1 + b.length + 1 + c.length + 1 = (a.length + 1 + b.length + 1) + (c.length + 1) from by omega, ← List.drop_drop, d2, ← List.drop_drop, List.drop_left]
    rfl
  refine ⟨sg_inj ?_, sg_inj ?_, sg_inj ?_, sg_inj ?_⟩
  · rw [sub_sg, sg_tx, e, List.drop_zero, Nat.sub_zero, List.take_left]
  · rw [sub_sg, sg_tx, e, d1, show a.length + 1 + b.length - (a.length + 1) = b.length from by omega, List.take_left]
  · rw [sub_sg, sg_tx, e, d2, show a.length + 1 + b.length + 1 + c.length - (a.length + 1 + b.length + 1) = c.length from by omega, List.take_left]
  · rw [sub_sg, sg_tx, e, d3]
    exact List.take_of_length_le (by rw [hx]; omega)
/-! numbers -/
theorem tl_digits (n : Nat) : (Nat.toDigits 10 n).map Char.toNat = TL.numL n := rfl
theorem digits_dig {n c : Nat} (h : c ∈ TL.numL n) : Fr.dig c = true := by
  have := TL.numL_digits n c h
  simp [Fr.dig]
  omega
theorem num_digits (n : Nat) : Fr.num (TL.numL n) = n := TL.numL_val n
theorem head_digits : ∀ n : Nat, 0 < n → ∃ c r, TL.numL n = c :: r ∧ c ≠ 48
  | n, h0 => by
    by_cases h : n < 10
    · exact ⟨48 + n, [], TL.numL_lt h, by omega⟩
    · obtain ⟨c, r, e, hc⟩ := head_digits (n / 10) (by omega)
      exact ⟨c, r ++ [48 + n % 10], by rw [TL.numL_step (by omega), e]; rfl, hc⟩
theorem numL_ok (n : Nat) : numL (TL.numL n) = true := by
  have ha : (TL.numL n).all Fr.dig = true := List.all_eq_true.mpr fun c hc => digits_dig hc
  have hl : 0 < (TL.numL n).length := List.length_pos_iff.mpr (TL.numL_ne n)
  unfold numL
  rw [ha]
  simp only [hl, decide_true, Bool.true_and]
  by_cases h : n = 0
  · subst h
    rfl
  · obtain ⟨c, r, e, hc⟩ := head_digits n (by omega)
    rw [e]
    simp [hc]
theorem nat_sg (n : Nat) : sg (Str.ofString (toString (n : Int))) = TL.numL n := str_nat n
end Nv

namespace Nv
open PySem L2

/-- a text's pieces are of its signs -/
theorem strs_lay (l : List Nat) (h : ∀ c ∈ l, c < 128) : PyData.canLayAll0 (l.map fun c => PyData.str ⟨#[c]⟩) = true := by
  have := (Fts.strs (D := 0) (ts := l.map fun c => [c]) (by
    intro t ht c hc
    obtain ⟨d, hd, rfl⟩ := List.mem_map.mp ht
    have : c = d := by simpa using hc
    exact this ▸ h d hd)).c
  simpa [strsD, List.map_map, Function.comp_def, tx] using this
theorem dp_ones {K : PySem.W.Frag} {H : Hp} : ∀ l : List Nat, DpAll K H (l.map fun c => V.str ⟨#[c]⟩) (l.map fun c => PyData.str ⟨#[c]⟩)
  | [] => .nil
  | c :: r => .cons (.str _) (dp_ones r)
theorem ones_depth (l : List Nat) : PyData.depthAll (l.map fun c => PyData.str ⟨#[c]⟩) = 0 := by
  induction l with
  | nil => rfl
  | cons c r ih => simp [PyData.depthAll, PyData.depth, ih]
theorem shaped_ones (l : List Nat) (h : ∀ c ∈ l, c < 128) : SeqAt.shaped (.list (l.map fun c => PyData.str ⟨#[c]⟩)) = true := by
  unfold SeqAt.shaped
  simp only [PyData.canLay0, strs_lay l h, PyData.depth, ones_depth]
  rfl
theorem eqv_nil (l : List Nat) : PyData.eqv (.list (l.map fun c => PyData.str ⟨#[c]⟩)) (.list []) = l.isEmpty := by
  cases l <;> simp [PyData.eqv, PyData.eqvAll]
theorem take_filter {l : List Nat} {i c : Nat} {f : Nat → Bool} (h : l[i]? = some c) : (l.take (i + 1)).filter f = (l.take i).filter f ++ (if f c then [c] else []) := by
  have e : l.take (i + 1) = l.take i ++ [c] := by
    rw [List.take_add_one, h]
    rfl
  rw [e, List.filter_append]
  congr 1
  cases hf : f c <;> simp [hf]
theorem filt_all (f : Nat → Bool) (l : List Nat) : (l.filter fun c => !f c).isEmpty = l.all f := by
  induction l with
  | nil => rfl
  | cons c r ih =>
    simp only [List.filter_cons, List.all_cons]
    cases f c <;> simp [ih]
theorem figs_sg : sg (Str.ofString "0123456789") = [48, 49, 50, 51, 52, 53, 54, 55, 56, 57] := by decide +kernel
theorem figs_in (c : Nat) : decide (c ∈ (Str.ofString "0123456789").cps.toList) = Fr.dig c := by
  have : (Str.ofString "0123456789").cps.toList = [48, 49, 50, 51, 52, 53, 54, 55, 56, 57] := figs_sg
  rw [this]
  unfold Fr.dig
  by_cases h1 : 48 ≤ c <;> by_cases h2 : c ≤ 57 <;> simp [h1, h2] <;> omega

theorem alph_sg : sg (Str.ofString "abcdefghijklmnopqrstuvwxyz") = [97, 98, 99, 100, 101, 102, 103, 104, 105, 106, 107, 108, 109, 110, 111, 112, 113, 114, 115, 116, 117, 118, 119, 120, 121, 122] := by decide +kernel
theorem alph_in (c : Nat) : decide (c ∈ (Str.ofString "abcdefghijklmnopqrstuvwxyz").cps.toList) = low c := by
  have : (Str.ofString "abcdefghijklmnopqrstuvwxyz").cps.toList = _ := alph_sg
  rw [this]
  unfold low
  by_cases h1 : 97 ≤ c <;> by_cases h2 : c ≤ 122 <;> simp [h1, h2] <;> omega
theorem r_eq_ones {K : PySem.W.Frag} {H : Hp} {Q : VK} {D p : Addr} {l : List Nat} (h : ∀ c ∈ l, c < 128) (hD : H D = some (.lst (l.map fun c => V.str ⟨#[c]⟩))) (hp : H p = some (.lst [])) (q : Q (.bl l.isEmpty) H) : rEqD K (.ref D) (.ref p) H Q :=
  ⟨_, _, .lst (.of hD) (dp_ones l), .lst (.of hp) .nil, shaped_ones l h, by decide, by rw [eqv_nil]; exact q⟩
theorem r_ne_ones {K : PySem.W.Frag} {H : Hp} {Q : VK} {D p : Addr} {l : List Nat} (h : ∀ c ∈ l, c < 128) (hD : H D = some (.lst (l.map fun c => V.str ⟨#[c]⟩))) (hp : H p = some (.lst [])) (q : Q (.bl (!l.isEmpty)) H) : rNeD K (.ref D) (.ref p) H Q :=
  ⟨_, _, .lst (.of hD) (dp_ones l), .lst (.of hp) .nil, shaped_ones l h, by decide, by rw [eqv_nil]; exact q⟩
end Nv

namespace Nv
open PySem PySem.Spec PyProof.Rows L2

/-- repr of a list of data, the list itself anywhere -/
def rReprL : List V → Hp → VK → Prop := fun xs H Q => ∃ (a : Addr) (ys : List V) (ds : List PyData), xs = [.ref a] ∧ H a = some (.lst ys) ∧ DVs H ys ds ∧
  (PyData.list ds).showable = true ∧ (PyData.list ds).depth ≤ 60 ∧ (PyData.list ds).shown.length ≤ sizeLine ∧ Q (.str (PyData.list ds).shown) H
theorem call_reprL {X : Cx} (hG : X.A.guards = some []) (hu : X.A.units + 64 < cLine) : CallR X (.builtin "repr") rReprL := by
  intro pins s σ H xs us Q I r h
  obtain ⟨a, ys, ds, rfl, ha, hd, hs, hp, hz, q⟩ := h
  obtain ⟨u, rfl, rx⟩ := vals1 r
  cases (show u = Value.ref a from rx)
  obtain ⟨_, its, m, rv, e⟩ := (show ObjOk X.prog X.w H s.heap a (.lst ys) from I.hok a _ ha)
  obtain ⟨as, ra, na⟩ := DVs.reads I hd rv
  have sz : (listText (PyData.shownAll ds)).length ≤ sizeLine := by simpa only [PyData.shown] using hz
  obtain ⟨bs, deep, parts⟩ := ReprAllK.of_readsAll (prog := X.prog) (w := X.w) ra (by simpa only [PyData.showable] using hs) (fun _ => na)
    (fun t ht => Nat.le_trans (listText_mem_le ht) sz)
  have apart : a ∉ bs := not_mem_of_deeper (.list e rfl rfl ra) (by simp only [PyData.depth]; omega) deep
  have dp : (PyData.list ds).depth = PyData.depthAll ds + 1 := by simp only [PyData.depth]
  have fin : ∀ (h' : Heap) (t : Tok) (k : Nat), (∀ b o, s.heap.get? b = some o → h'.get? b = some o) → EP X pins σ Q (.str (PyData.list ds).shown t) { s with heap := h', toks := k } :=
    fun h' t k keep => ⟨.str (PyData.list ds).shown, H, I.kept keep, ⟨t, rfl⟩, q⟩
  refine call_repr_slot (by omega) (show s.TypeIs (.ref a) "list" from ⟨_, e, rfl⟩) F.slot_list_repr.toG ?_
  cases its with
  | nil =>
    cases ra
    have : EP X pins σ Q (.str "[]" s.toks) { s with toks := s.toks + 1 } := by
      have z := fin s.heap s.toks (s.toks + 1) fun _ _ w => w
      simpa only [PyData.shown, PyData.shownAll, listText_nil] using z
    exact call_list_repr_empty ⟨_, e, rfl⟩ e rfl ⟨_, _, rfl, this⟩
  | cons x l =>
    refine call_list_reprK e rfl rfl apart (by simpa using parts.length_eq) (fun i y z => parts.item i y (by simpa using z)) hG (fun b _ => Clear.nil b) (by show X.A.units + 1 + _ < cLine; omega) (fun _ _ z => z) (fun h' t k keep => ⟨_, _, rfl, ?_⟩) sz
    have z := fin h' t k keep
    simpa only [PyData.shown] using z
def rReprAL : List V → Hp → VK → Prop := fun xs H Q => rReprL xs H Q ∨ rReprA xs H Q
theorem call_reprAL {X : Cx} (hG : X.A.guards = some []) (hu : X.A.units + 64 < cLine) : CallR X (.builtin "repr") rReprAL := CallR.or (call_reprL hG hu) (call_reprA hG hu)
end Nv

namespace K01
open PySem L2 Nv
def top (i : Nat) : Stmt := PySem.Challenge.pw_neverunsaid_k01_lines_and_texts.main.body.getD i (.Pass ⟨0, 0, 0, 0⟩)
abbrev s_is_int : Stmt := top 1
abbrev s_is_count : Stmt := top 2
abbrev s_is_signs : Stmt := top 3
abbrev s_is_numeral : Stmt := top 4
abbrev s_is_cell : Stmt := top 12
abbrev s_is_text : Stmt := top 13
abbrev s_is_line : Stmt := top 14
abbrev s_key : Stmt := top 15
abbrev s_line_text : Stmt := top 16
abbrev s_line_in : Stmt := top 17
abbrev s_read_line : Stmt := top 18
abbrev s_l_cell : Stmt := top 20
abbrev s_l_box : Stmt := top 21
abbrev s_l_take : Stmt := top 22
abbrev s_l_any : Stmt := top 23
abbrev s_l_letters : Stmt := top 24
abbrev s_l_number : Stmt := top 25
abbrev s_l_line : Stmt := top 26
abbrev s_l_count : Stmt := top 27
abbrev s_l_is_cell : Stmt := top 28
abbrev s_l_is_text : Stmt := top 29
abbrev s_l_is_line : Stmt := top 30
abbrev s_l_written : Stmt := top 31
abbrev s_l_digits : Stmt := top 32
abbrev s_l_read : Stmt := top 33
abbrev s_l_equal : Stmt := top 34
abbrev s_l_copy : Stmt := top 35
abbrev s_l_very : Stmt := top 36
abbrev s_l_odd_cell : Stmt := top 37
abbrev s_l_odd_text : Stmt := top 38
abbrev s_l_odd : Stmt := top 39
abbrev s_l_spoilt : Stmt := top 40
abbrev s_l_short : Stmt := top 41
abbrev s_l_judged : Stmt := top 42
abbrev s_l_told : Stmt := top 43
abbrev s_l_line_right : Stmt := top 44
abbrev s_l_text_right : Stmt := top 45
abbrev s_l_object_right : Stmt := top 46
abbrev s_l_others_right : Stmt := top 47
abbrev s_l_right : Stmt := top 48
abbrev s_law : Stmt := top 49
abbrev s_InvalidLine_init : Stmt := inClass (top 7) 0
theorem sc_InvalidLine_init : FnScope ["self", "given"] ["self", "given"] (defScope s_InvalidLine_init) := ⟨rfl, rfl, rfl, by decide +kernel, rfl, by decide +kernel, by decide +kernel⟩
abbrev s_InvalidText_init : Stmt := inClass (top 8) 0
theorem sc_InvalidText_init : FnScope ["self", "given"] ["self", "given"] (defScope s_InvalidText_init) := ⟨rfl, rfl, rfl, by decide +kernel, rfl, by decide +kernel, by decide +kernel⟩
theorem sc_is_int : FnScope ["value"] ["value"] (defScope s_is_int) := ⟨rfl, rfl, rfl, by decide +kernel, rfl, by decide +kernel, by decide +kernel⟩
theorem sc_is_count : FnScope ["value"] ["value"] (defScope s_is_count) := ⟨rfl, rfl, rfl, by decide +kernel, rfl, by decide +kernel, by decide +kernel⟩
theorem sc_is_signs : FnScope ["value"] ["value"] (defScope s_is_signs) := ⟨rfl, rfl, rfl, by decide +kernel, rfl, by decide +kernel, by decide +kernel⟩
theorem sc_is_numeral : FnScope ["text"] ["text"] (defScope s_is_numeral) := ⟨rfl, rfl, rfl, by decide +kernel, rfl, by decide +kernel, by decide +kernel⟩
theorem sc_is_cell : FnScope ["value"] ["value"] (defScope s_is_cell) := ⟨rfl, rfl, rfl, by decide +kernel, rfl, by decide +kernel, by decide +kernel⟩
theorem sc_is_text : FnScope ["value"] ["value"] (defScope s_is_text) := ⟨rfl, rfl, rfl, by decide +kernel, rfl, by decide +kernel, by decide +kernel⟩
theorem sc_is_line : FnScope ["value", "home", "number", "cell", "text"] ["value"] (defScope s_is_line) := ⟨rfl, rfl, rfl, by decide +kernel, rfl, by decide +kernel, by decide +kernel⟩
theorem sc_key : FnScope ["line"] ["line"] (defScope s_key) := ⟨rfl, rfl, rfl, by decide +kernel, rfl, by decide +kernel, by decide +kernel⟩
theorem sc_line_text : FnScope ["line", "home", "number", "cell", "text"] ["line"] (defScope s_line_text) := ⟨rfl, rfl, rfl, by decide +kernel, rfl, by decide +kernel, by decide +kernel⟩
theorem sc_line_in : FnScope ["value", "parts", "line"] ["value"] (defScope s_line_in) := ⟨rfl, rfl, rfl, by decide +kernel, rfl, by decide +kernel, by decide +kernel⟩
theorem sc_read_line : FnScope ["text", "line"] ["text"] (defScope s_read_line) := ⟨rfl, rfl, rfl, by decide +kernel, rfl, by decide +kernel, by decide +kernel⟩
theorem sc_l_cell : FnScope ["_law_script", "_law_k"] ["_law_script", "_law_k"] (defScope s_l_cell) := ⟨rfl, rfl, rfl, by decide +kernel, rfl, by decide +kernel, by decide +kernel⟩
theorem sc_l_box : FnScope ["_law_great"] ["_law_great"] (defScope s_l_box) := ⟨rfl, rfl, rfl, by decide +kernel, rfl, by decide +kernel, by decide +kernel⟩
theorem sc_l_take : FnScope ["_law_box_here", "_law_many", "_law_digit", "_law_mixed"] ["_law_box_here", "_law_many"] (defScope s_l_take) := ⟨rfl, rfl, rfl, by decide +kernel, rfl, by decide +kernel, by decide +kernel⟩
theorem sc_l_any : FnScope ["_law_box_here", "_law_many", "_law_signs", "_law_turn"] ["_law_box_here", "_law_many"] (defScope s_l_any) := ⟨rfl, rfl, rfl, by decide +kernel, rfl, by decide +kernel, by decide +kernel⟩
theorem sc_l_letters : FnScope ["_law_box_here", "_law_many", "_law_letters_here", "_law_turn"] ["_law_box_here", "_law_many"] (defScope s_l_letters) := ⟨rfl, rfl, rfl, by decide +kernel, rfl, by decide +kernel, by decide +kernel⟩
theorem sc_l_number : FnScope ["_law_box_here", "_law_which"] ["_law_box_here"] (defScope s_l_number) := ⟨rfl, rfl, rfl, by decide +kernel, rfl, by decide +kernel, by decide +kernel⟩
theorem sc_l_line : FnScope ["_law_box_here", "_law_which", "_law_long", "_law_cell_here", "_law_text"] ["_law_box_here"] (defScope s_l_line) := ⟨rfl, rfl, rfl, by decide +kernel, rfl, by decide +kernel, by decide +kernel⟩
theorem sc_l_count : FnScope ["_law_value"] ["_law_value"] (defScope s_l_count) := ⟨rfl, rfl, rfl, by decide +kernel, rfl, by decide +kernel, by decide +kernel⟩
theorem sc_l_is_cell : FnScope ["_law_value", "_law_sign"] ["_law_value"] (defScope s_l_is_cell) := ⟨rfl, rfl, rfl, by decide +kernel, rfl, by decide +kernel, by decide +kernel⟩
theorem sc_l_is_text : FnScope ["_law_value", "_law_sign"] ["_law_value"] (defScope s_l_is_text) := ⟨rfl, rfl, rfl, by decide +kernel, rfl, by decide +kernel, by decide +kernel⟩
theorem sc_l_is_line : FnScope ["_law_value"] ["_law_value"] (defScope s_l_is_line) := ⟨rfl, rfl, rfl, by decide +kernel, rfl, by decide +kernel, by decide +kernel⟩
theorem sc_l_written : FnScope ["_law_line_here"] ["_law_line_here"] (defScope s_l_written) := ⟨rfl, rfl, rfl, by decide +kernel, rfl, by decide +kernel, by decide +kernel⟩
theorem sc_l_digits : FnScope ["_law_word", "_law_sign"] ["_law_word"] (defScope s_l_digits) := ⟨rfl, rfl, rfl, by decide +kernel, rfl, by decide +kernel, by decide +kernel⟩
theorem sc_l_read : FnScope ["_law_text", "_law_parts", "_law_line_here"] ["_law_text"] (defScope s_l_read) := ⟨rfl, rfl, rfl, by decide +kernel, rfl, by decide +kernel, by decide +kernel⟩
theorem sc_l_equal : FnScope ["_law_told_here", "_law_due"] ["_law_told_here", "_law_due"] (defScope s_l_equal) := ⟨rfl, rfl, rfl, by decide +kernel, rfl, by decide +kernel, by decide +kernel⟩
theorem sc_l_copy : FnScope ["_law_value"] ["_law_value"] (defScope s_l_copy) := ⟨rfl, rfl, rfl, by decide +kernel, rfl, by decide +kernel, by decide +kernel⟩
theorem sc_l_very : FnScope ["_law_given", "_law_value"] ["_law_given", "_law_value"] (defScope s_l_very) := ⟨rfl, rfl, rfl, by decide +kernel, rfl, by decide +kernel, by decide +kernel⟩
theorem sc_l_odd_cell : FnScope ["_law_box_here", "_law_cell_here", "_law_which", "_law_at", "_law_sign"] ["_law_box_here", "_law_cell_here"] (defScope s_l_odd_cell) := ⟨rfl, rfl, rfl, by decide +kernel, rfl, by decide +kernel, by decide +kernel⟩
theorem sc_l_odd_text : FnScope ["_law_box_here", "_law_text", "_law_which", "_law_at"] ["_law_box_here", "_law_text"] (defScope s_l_odd_text) := ⟨rfl, rfl, rfl, by decide +kernel, rfl, by decide +kernel, by decide +kernel⟩
theorem sc_l_odd : FnScope ["_law_box_here", "_law_line_here", "_law_place", "_law_which", "_law_items", "_law_odd_here", "_law_more"] ["_law_box_here", "_law_line_here"] (defScope s_l_odd) := ⟨rfl, rfl, rfl, by decide +kernel, rfl, by decide +kernel, by decide +kernel⟩
theorem sc_l_spoilt : FnScope ["_law_box_here", "_law_text", "_law_which", "_law_near", "_law_at", "_law_sign", "_law_words", "_law_one", "_law_other", "_law_kept"] ["_law_box_here", "_law_text"] (defScope s_l_spoilt) := ⟨rfl, rfl, rfl, by decide +kernel, rfl, by decide +kernel, by decide +kernel⟩
theorem sc_l_short : FnScope ["_law_text", "_law_words", "_law_sign", "_law_word"] ["_law_text"] (defScope s_l_short) := ⟨rfl, rfl, rfl, by decide +kernel, rfl, by decide +kernel, by decide +kernel⟩
theorem sc_l_judged : FnScope ["_law_value", "_law_turn", "_law_handed", "_law_k", "_law_told_here"] ["_law_value", "_law_turn"] (defScope s_l_judged) := ⟨rfl, rfl, rfl, by decide +kernel, rfl, by decide +kernel, by decide +kernel⟩
theorem sc_l_told : FnScope ["_law_value", "_law_door", "_law_turn", "e"] ["_law_value", "_law_door", "_law_turn"] (defScope s_l_told) := ⟨rfl, rfl, rfl, by decide +kernel, rfl, by decide +kernel, by decide +kernel⟩
theorem sc_l_line_right : FnScope ["_law_value", "_law_turn", "_law_due", "_law_again", "_law_told_here"] ["_law_value", "_law_turn"] (defScope s_l_line_right) := ⟨rfl, rfl, rfl, by decide +kernel, rfl, by decide +kernel, by decide +kernel⟩
theorem sc_l_text_right : FnScope ["_law_value", "_law_due", "_law_turn", "_law_handed", "_law_told_here", "e"] ["_law_value", "_law_due", "_law_turn"] (defScope s_l_text_right) := ⟨rfl, rfl, rfl, by decide +kernel, rfl, by decide +kernel, by decide +kernel⟩
theorem sc_l_object_right : FnScope ["_law_thing", "_law_refused", "_law_door", "e"] ["_law_thing"] (defScope s_l_object_right) := ⟨rfl, rfl, rfl, by decide +kernel, rfl, by decide +kernel, by decide +kernel⟩
theorem sc_l_others_right : FnScope ["_law_line_here", "_law_text", "_law_values", "_law_k"] ["_law_line_here"] (defScope s_l_others_right) := ⟨rfl, rfl, rfl, by decide +kernel, rfl, by decide +kernel, by decide +kernel⟩
theorem sc_l_right : FnScope ["_law_box_here", "_law_lines", "_law_line_here", "_law_text", "_law_turn", "_law_odd_here", "_law_near"] ["_law_box_here"] (defScope s_l_right) := ⟨rfl, rfl, rfl, by decide +kernel, rfl, by decide +kernel, by decide +kernel⟩
theorem sc_law : FnScope ["_law_script", "_law_k"] ["_law_script"] (defScope s_law) := ⟨rfl, rfl, rfl, by decide +kernel, rfl, by decide +kernel, by decide +kernel⟩
/-- a def of the module -/
structure Tx (K : PySem.W.Frag) (mg : Str → Option Value) : Type where
  C_InvalidLine : Addr
  C_InvalidText : Addr
  C_UnsaidError : Addr
  x_InvalidLine : InitT K C_InvalidLine "InvalidLine.__init__" s_InvalidLine_init ["self", "given"]
  x_InvalidText : InitT K C_InvalidText "InvalidText.__init__" s_InvalidText_init ["self", "given"]
  e_InvalidLine : ErrT K mg "InvalidLine" "given" C_InvalidLine x_InvalidLine.f
  e_InvalidText : ErrT K mg "InvalidText" "given" C_InvalidText x_InvalidText.f
  m_InvalidLine : mg "InvalidLine" = some (.ref C_InvalidLine)
  m_InvalidText : mg "InvalidText" = some (.ref C_InvalidText)
  m_UnsaidError : mg "UnsaidError" = some (.ref C_UnsaidError)
  x_InvalidLine_InvalidLine : PySem.W.exmOne K (.ref C_InvalidLine) (.ref C_InvalidLine) = some true
  x_InvalidText_InvalidText : PySem.W.exmOne K (.ref C_InvalidText) (.ref C_InvalidText) = some true
  x_InvalidText_InvalidLine : PySem.W.exmOne K (.ref C_InvalidText) (.ref C_InvalidLine) = some false
  av_InvalidText : AvC K C_InvalidText
  t_MOST_LETTERS : Tok
  g_MOST_LETTERS : mg "MOST_LETTERS" = some (.int 8 t_MOST_LETTERS)
  t_MOST_SIGNS : Tok
  g_MOST_SIGNS : mg "MOST_SIGNS" = some (.int 40 t_MOST_SIGNS)
  n_abs : mg "abs" = none
  n_bool : mg "bool" = none
  n_dict : mg "dict" = none
  n_int : mg "int" = none
  n_isinstance : mg "isinstance" = none
  n_len : mg "len" = none
  n_list : mg "list" = none
  n_max : mg "max" = none
  n_min : mg "min" = none
  n_range : mg "range" = none
  n_repr : mg "repr" = none
  n_str : mg "str" = none
  n_sum : mg "sum" = none
  n_tuple : mg "tuple" = none
  d_is_int : DefT K mg "is_int" s_is_int ["value"]
  d_is_count : DefT K mg "is_count" s_is_count ["value"]
  d_is_signs : DefT K mg "is_signs" s_is_signs ["value"]
  d_is_numeral : DefT K mg "is_numeral" s_is_numeral ["text"]
  d_is_cell : DefT K mg "is_cell" s_is_cell ["value"]
  d_is_text : DefT K mg "is_text" s_is_text ["value"]
  d_is_line : DefT K mg "is_line" s_is_line ["value"]
  d_key : DefT K mg "key" s_key ["line"]
  d_line_text : DefT K mg "line_text" s_line_text ["line"]
  d_line_in : DefT K mg "line_in" s_line_in ["value"]
  d_read_line : DefT K mg "read_line" s_read_line ["text"]
  d_l_cell : DefT K mg "_law_cell" s_l_cell ["_law_script", "_law_k"]
  d_l_box : DefT K mg "_law_box" s_l_box ["_law_great"]
  d_l_take : DefT K mg "_law_take" s_l_take ["_law_box_here", "_law_many"]
  d_l_any : DefT K mg "_law_any" s_l_any ["_law_box_here", "_law_many"]
  d_l_letters : DefT K mg "_law_letters" s_l_letters ["_law_box_here", "_law_many"]
  d_l_number : DefT K mg "_law_number" s_l_number ["_law_box_here"]
  d_l_line : DefT K mg "_law_line" s_l_line ["_law_box_here"]
  d_l_count : DefT K mg "_law_count" s_l_count ["_law_value"]
  d_l_is_cell : DefT K mg "_law_is_cell" s_l_is_cell ["_law_value"]
  d_l_is_text : DefT K mg "_law_is_text" s_l_is_text ["_law_value"]
  d_l_is_line : DefT K mg "_law_is_line" s_l_is_line ["_law_value"]
  d_l_written : DefT K mg "_law_written" s_l_written ["_law_line_here"]
  d_l_digits : DefT K mg "_law_digits" s_l_digits ["_law_word"]
  d_l_read : DefT K mg "_law_read" s_l_read ["_law_text"]
  d_l_equal : DefT K mg "_law_equal" s_l_equal ["_law_told_here", "_law_due"]
  d_l_copy : DefT K mg "_law_copy" s_l_copy ["_law_value"]
  d_l_very : DefT K mg "_law_very" s_l_very ["_law_given", "_law_value"]
  d_l_odd_cell : DefT K mg "_law_odd_cell" s_l_odd_cell ["_law_box_here", "_law_cell_here"]
  d_l_odd_text : DefT K mg "_law_odd_text" s_l_odd_text ["_law_box_here", "_law_text"]
  d_l_odd : DefT K mg "_law_odd" s_l_odd ["_law_box_here", "_law_line_here"]
  d_l_spoilt : DefT K mg "_law_spoilt" s_l_spoilt ["_law_box_here", "_law_text"]
  d_l_short : DefT K mg "_law_short" s_l_short ["_law_text"]
  d_l_judged : DefT K mg "_law_judged" s_l_judged ["_law_value", "_law_turn"]
  d_l_told : DefT K mg "_law_told" s_l_told ["_law_value", "_law_door", "_law_turn"]
  d_l_line_right : DefT K mg "_law_line_right" s_l_line_right ["_law_value", "_law_turn"]
  d_l_text_right : DefT K mg "_law_text_right" s_l_text_right ["_law_value", "_law_due", "_law_turn"]
  d_l_object_right : DefT K mg "_law_object_right" s_l_object_right ["_law_thing"]
  d_l_others_right : DefT K mg "_law_others_right" s_l_others_right ["_law_line_here"]
  d_l_right : DefT K mg "_law_right" s_l_right ["_law_box_here"]
  d_law : DefT K mg "law" s_law ["_law_script"]
end K01

local macro_rules | `(tactic| walk_at "rd") => `(tactic| try simp only [Nv.e_f4, Nv.e_errv, Nv.e_js0, Nv.e_js1, Nv.e_fmt, Nv.e_lrg, Nv.e_rg1, Nv.e_seq, Nv.e_next, Nv.e_asg, Nv.e_gname, Nv.e_gtup, Nv.e_gcons, Nv.e_gnil, Nv.e_gsub, Nv.e_ret, Nv.e_retN, Nv.e_if, Nv.e_drop, Nv.e_par, Nv.e_par3, Nv.e_rP2, Nv.e_rP3, Nv.e_tyes, Nv.e_disp, Nv.e_xf, L2.tPairs, L2.upd_upd, L2.upd_same, Nv.e_wipe0, Nv.e_wipe1, Nv.e_sfld, Nv.e_var, Nv.e_c, Nv.e_op, Nv.e_un, Nv.e_ri, Nv.e_ri0, Nv.e_ru, Nv.e_eq, Nv.e_ne, Nv.e_test, Nv.e_B, Nv.e_and, Nv.e_or, Nv.e_not, Nv.e_andV, Nv.e_orV, Nv.e_notV, Nv.e_ifE, Nv.e_cb, Nv.e_nil, Nv.e_cons, Nv.e_tup, Nv.e_lst1, Nv.e_fld, Nv.e_slice, Nv.e_nopart, Nv.e_part, Nv.e_bm0, Nv.e_bm, Nv.e_m1, Nv.e_cg, Nv.e_mg, Nv.e_make, Nv.e_prop, Nv.e_raise1, Nv.e_chain, Nv.e_mulS, Nv.e_slS, Nv.e_cxK, Nv.start_def, List.getElem?_cons_zero, List.getElem?_cons_succ, List.set_cons_zero, List.set_cons_succ, List.map_cons, List.map_nil, List.cons_append, List.nil_append, List.append_nil, List.length_cons, List.length_nil, List.replicate, Option.some.injEq, exists_eq_left', exists_eq_left, L2.V.bl.injEq, L2.V.int.injEq, L2.V.str.injEq, L2.V.ref.injEq, List.cons.injEq, and_true, true_and, exists_and_left, exists_and_right, ↓reduceIte, Bool.false_eq_true, Bool.true_eq_false, decide_eq_true_eq, Bool.not_eq_true', Bool.not_true, Bool.not_false, forall_eq'])

namespace K01
open PySem L2 Nv

/-! what the questions answer, of data -/
def spJ (g : PyData → Bool) : Sp := fun vs H Q _ => ∃ v d, vs = [v] ∧ DV H v d ∧ Q (.bl (g d)) H
def spJA (K : PySem.W.Frag) (g : PyData → Bool) : Sp := fun vs H Q _ => ∃ v d, vs = [v] ∧ AV K H v d ∧ Q (.bl (g d)) H
/-- texts and numbers in it are not too long -/
structure Lens (d : PyData) : Prop where
  s : ∀ z, d = .str z → z.length ≤ 100000
  t : ∀ ds, d = .tuple ds → ∀ z, PyData.str z ∈ ds → z.length ≤ 100000
theorem Lens.str {z : Str} (h : z.length ≤ 100000) : Lens (.str z) := ⟨fun y e => (by cases e; exact h), fun _ e => (by cases e)⟩
theorem Lens.item {d : PyData} {ds : List PyData} (h : Lens (.tuple ds)) (m : d ∈ ds) (n : ∀ es, d ≠ .tuple es) : Lens d :=
  ⟨fun z e => h.t ds rfl z (e ▸ m), fun es e => absurd e (n es)⟩
def Ints (d : PyData) : Prop := ∀ ds, d = .tuple ds → ∀ i, PyData.int i ∈ ds → -(10 ^ 21) ≤ i ∧ i ≤ 10 ^ 21
def spJL (K : PySem.W.Frag) (g : PyData → Bool) : Sp := fun vs H Q _ => ∃ v d, vs = [v] ∧ AV K H v d ∧ Lens d ∧ Q (.bl (g d)) H
def spJS (K : PySem.W.Frag) (g : PyData → Bool) : Sp := fun vs H Q _ => ∃ v d, vs = [v] ∧ AV K H v d ∧ (∀ z, d = .str z → z.length ≤ 100000) ∧ Q (.bl (g d)) H
/-- the same, where new things may be laid meanwhile -/
def spJW (g : PyData → Bool) : Sp := fun vs H Q _ => ∃ v d, vs = [v] ∧ DV H v d ∧ (∀ z, d = .str z → Asc z ∧ z.length ≤ 100000) ∧ ∀ H', Same H H' → Q (.bl (g d)) H'
def cntB : PyData → Bool
  | .int i => decide (0 ≤ i)
  | _ => false
def sigOk : PyData → Bool
  | .str z => okS z
  | _ => false
def celS (z : Str) : Bool := decide (z.length ≤ 8) && (Txt.isascii z && (Txt.isalpha z && Txt.islower z))
def cellB : PyData → Bool
  | .str z => celS z
  | _ => false
def textB : PyData → Bool
  | .str z => okS z && decide (z.length ≤ 40)
  | _ => false
def lineB : PyData → Bool
  | .tuple [a, b, c, d] => cntB a && (cntB b && (cellB c && textB d))
  | _ => false
def numS (z : Str) : Bool := Txt.isascii z && (Txt.isdigit z && (decide (V.str z = V.str (Str.ofString "0")) || !Txt.startswith z (Str.ofString "0")))
section
variable {P : Program} {w : World} {K : PySem.W.Frag} {mg : Str → Option Value} {base : Heap}
theorem ok_is_int (T : Tx K mg) : FnG P w K mg base 1 T.d_is_int.f T.d_is_int.fd ["value"] (spJ isI) := by
  refine okG0 T.d_is_int.F sc_is_int (fun vs H Q E h => ?_) (fun cdv A outer s H vs Q E hg hr h => ?_)
  · obtain ⟨v, d, rfl, _⟩ := h
    rfl
  obtain ⟨v, d, rfl, hd, k⟩ := h
  refine ⟨_, (pss_one (ps_ret (pe_and (pe_callB call_isiA (by rfl) T.n_isinstance (by decide +kernel) (pa_cons (pv 0) (pa_cons (pe_bltn (v := .ty "int") (by rfl) T.n_int (by decide +kernel) rfl) pa_nil))) (pe_one (pe_not (pe_callB call_isiA (by rfl) T.n_isinstance (by decide +kernel) (pa_cons (pv 0) (pa_cons (pe_bltn (v := .ty "bool") (by rfl) T.n_bool (by decide +kernel) rfl) pa_nil)))))))), ?_⟩
  walk_at "rd"
  refine r_isiD hd (kit_int d) ?_
  walk_at "rd"
  cases d with
  | int i =>
    simp only [isI, isB, Bool.or_false]
    walk_at "rd"
    exact r_isiD hd (kit_bool _) ⟨_, rfl, k⟩
  | bool b =>
    simp only [isI, isB, Bool.or_true]
    walk_at "rd"
    exact r_isiD hd (kit_bool _) ⟨_, rfl, k⟩
  | _ =>
    simp only [isI, isB, Bool.or_false]
    walk_at "rd"
    exact k
theorem ok_is_count (T : Tx K mg) : FnG P w K mg base 2 T.d_is_count.f T.d_is_count.fd ["value"] (spJ cntB) := by
  refine okG0 T.d_is_count.F sc_is_count (fun vs H Q E h => ?_) (fun cdv A outer s H vs Q E hg hr h => ?_)
  · obtain ⟨v, d, rfl, _⟩ := h
    rfl
  obtain ⟨v, d, rfl, hd, k⟩ := h
  refine ⟨_, (pss_one (ps_ret (pe_and (pe_cG (ok_is_int T) T.d_is_int.b takes0 hg (hr.mono (by decide)) T.d_is_int.m T.d_is_int.F.kp (pa_cons (pv 0) pa_nil)) (pe_one (pe_cmpR op_ge (pv 0) pe_int (nomark _)))))), ?_⟩
  walk_at "rd"
  refine ⟨v, d, rfl, hd, ?_⟩
  cases hd with
  | int i =>
    simp only [isI]
    walk_at "rd"
    simpa only [cntB] using k
  | _ =>
    simp only [isI]
    walk_at "rd"
    exact k
theorem ok_is_signs (T : Tx K mg) : FnG P w K mg base 1 T.d_is_signs.f T.d_is_signs.fd ["value"] (spJA K sigOk) := by
  refine okG0 T.d_is_signs.F sc_is_signs (fun vs H Q E h => ?_) (fun cdv A outer s H vs Q E hg hr h => ?_)
  · obtain ⟨v, d, rfl, _⟩ := h
    rfl
  obtain ⟨v, d, rfl, hd, fin⟩ := h
  refine ⟨_, (pss_one (ps_ret (pe_and (pe_callB call_isiA (by rfl) T.n_isinstance (by decide +kernel) (pa_cons (pv 0) (pa_cons (pe_bltn (v := .ty "str") (by rfl) T.n_str (by decide +kernel) rfl) pa_nil))) (pe_and (pe_bm0 PySem.F.plainAttrs_str PySem.F.slot_str_isascii PySem.F.type_str_isascii mt_isascii (pv 0)) (pe_one (pe_bm0 PySem.F.plainAttrs_str PySem.F.slot_str_isprintable PySem.F.type_str_isprintable mt_isprintable (pv 0))))))), ?_⟩
  walk_at "rd"
  refine hd.isStr ?_
  walk_at "rd"
  cases d with
  | str z =>
    cases hd.str
    simp only [isS]
    walk_at "rd"
    refine ⟨rfl, ?_⟩
    simp only [sigOk, okS] at fin
    cases ea : Txt.isascii z with
    | false =>
      rw [ea] at fin
      simpa using fin
    | true =>
      rw [ea] at fin
      rw [if_pos rfl]
      exact ⟨rfl, by simpa using fin⟩
  | _ =>
    simp only [isS]
    walk_at "rd"
    exact fin
theorem ok_is_numeral (T : Tx K mg) : FnG P w K mg base 1 T.d_is_numeral.f T.d_is_numeral.fd ["text"] (fun vs H Q _ => ∃ z, vs = [.str z] ∧ Q (.bl (numS z)) H) := by
  refine okG0 T.d_is_numeral.F sc_is_numeral (fun vs H Q E h => ?_) (fun cdv A outer s H vs Q E hg hr h => ?_)
  · obtain ⟨z, rfl, _⟩ := h
    rfl
  obtain ⟨z, rfl, fin⟩ := h
  refine ⟨_, (pss_one (ps_ret (pe_and (pe_bm0 PySem.F.plainAttrs_str PySem.F.slot_str_isascii PySem.F.type_str_isascii mt_isascii (pv 0)) (pe_and (pe_bm0 PySem.F.plainAttrs_str PySem.F.slot_str_isdigit PySem.F.type_str_isdigit mt_isdigit (pv 0)) (pe_one (pe_or (pe_cmpR op_eq (pv 0) pe_str (nomark _)) (pe_one (pe_not (pe_bm PySem.F.plainAttrs_str PySem.F.slot_str_startswith PySem.F.type_str_startswith mt_startswith (pv 0) (pa_cons pe_str pa_nil)))))))))), ?_⟩
  walk_at "rd"
  refine ⟨rfl, ?_⟩
  unfold numS at fin
  cases ea : Txt.isascii z with
  | false =>
    rw [ea] at fin
    simpa using fin
  | true =>
    rw [ea] at fin
    rw [if_pos rfl]
    refine ⟨rfl, ?_⟩
    cases eb : Txt.isdigit z with
    | false =>
      rw [eb] at fin
      simpa using fin
    | true =>
      rw [eb] at fin
      rw [if_pos rfl]
      refine ⟨rfl, ?_⟩
      have key : (decide (V.str z = V.str (Str.ofString "0"))) = decide (z = Str.ofString "0") := by
        by_cases e : z = Str.ofString "0"
        · rw [e]
          simp
        · have : ¬ (V.str z = V.str (Str.ofString "0")) := fun q => by
            cases q
            exact e rfl
          simp [e, this]
      rw [key] at fin
      by_cases e : z = Str.ofString "0"
      · rw [if_pos e]
        simpa [e] using fin
      · rw [if_neg e]
        exact ⟨rfl, by simpa [e] using fin⟩
theorem ok_is_cell (T : Tx K mg) : FnG P w K mg base 1 T.d_is_cell.f T.d_is_cell.fd ["value"] (spJS K cellB) := by
  refine okG0 T.d_is_cell.F sc_is_cell (fun vs H Q E h => ?_) (fun cdv A outer s H vs Q E hg hr h => ?_)
  · obtain ⟨v, d, rfl, _⟩ := h
    rfl
  obtain ⟨v, d, rfl, hd, hz, fin⟩ := h
  have sz : sizeLine = 16777216 := sizeLine_eq
  refine ⟨_, (pss_cons (ps_if (PW.pt (pw_or (pt_not (pt_val (pe_callB call_isiA (by rfl) T.n_isinstance (by decide +kernel) (pa_cons (pv 0) (pa_cons (pe_bltn (v := .ty "str") (by rfl) T.n_str (by decide +kernel) rfl) pa_nil))))) (pw_or1 (pt_cmpR op_gt (pe_callB call_len_str (by rfl) T.n_len (by decide +kernel) (pa_cons (pv 0) pa_nil)) (pe_glob (v := .int 8) rfl T.g_MOST_LETTERS ⟨_, rfl⟩) (nomark _)))))
      (pss_one (ps_ret pe_bl))
      pss_nil)
    (pss_one (ps_ret (pe_and (pe_bm0 PySem.F.plainAttrs_str PySem.F.slot_str_isascii PySem.F.type_str_isascii mt_isascii (pv 0)) (pe_and (pe_bm0 PySem.F.plainAttrs_str PySem.F.slot_str_isalpha PySem.F.type_str_isalpha mt_isalpha (pv 0)) (pe_one (pe_bm0 PySem.F.plainAttrs_str PySem.F.slot_str_islower PySem.F.type_str_islower mt_islower (pv 0)))))))), ?_⟩
  walk_at "rd"
  refine hd.isStr ?_
  walk_at "rd"
  cases d with
  | str z =>
    cases hd.str
    have := hz z rfl
    simp only [isS]
    walk_at "rd"
    refine ⟨by omega, ?_⟩
    simp only [cellB, celS] at fin
    by_cases h8 : (8 : Int) < (z.length : Int)
    · rw [if_pos h8]
      have : decide (z.length ≤ 8) = false := by simp; omega
      rw [this] at fin
      exact fin
    · rw [if_neg h8]
      have : decide (z.length ≤ 8) = true := by simp; omega
      rw [this] at fin
      refine ⟨rfl, ?_⟩
      cases ea : Txt.isascii z with
      | false =>
        rw [ea] at fin
        simpa using fin
      | true =>
        rw [ea] at fin
        rw [if_pos rfl]
        refine ⟨rfl, ?_⟩
        cases eb : Txt.isalpha z with
        | false =>
          rw [eb] at fin
          simpa using fin
        | true =>
          rw [eb] at fin
          rw [if_pos rfl]
          exact ⟨rfl, by simpa using fin⟩
  | _ =>
    simp only [isS]
    walk_at "rd"
    exact fin
theorem ok_is_text (T : Tx K mg) : FnG P w K mg base 2 T.d_is_text.f T.d_is_text.fd ["value"] (spJS K textB) := by
  refine okG0 T.d_is_text.F sc_is_text (fun vs H Q E h => ?_) (fun cdv A outer s H vs Q E hg hr h => ?_)
  · obtain ⟨v, d, rfl, _⟩ := h
    rfl
  obtain ⟨v, d, rfl, hd, hz, fin⟩ := h
  have sz : sizeLine = 16777216 := sizeLine_eq
  refine ⟨_, (pss_one (ps_ret (pe_and (pe_cG (ok_is_signs T) T.d_is_signs.b takes0 hg (hr.mono (by decide)) T.d_is_signs.m T.d_is_signs.F.kp (pa_cons (pv 0) pa_nil)) (pe_one (pe_cmpR op_le (pe_callB call_len_str (by rfl) T.n_len (by decide +kernel) (pa_cons (pv 0) pa_nil)) (pe_glob (v := .int 40) rfl T.g_MOST_SIGNS ⟨_, rfl⟩) (nomark _)))))), ?_⟩
  walk_at "rd"
  refine ⟨v, d, rfl, hd, ?_⟩
  cases d with
  | str z =>
    cases hd.str
    have := hz z rfl
    simp only [sigOk]
    walk_at "rd"
    simp only [textB] at fin
    cases ea : okS z with
    | false =>
      rw [ea] at fin
      simpa using fin
    | true =>
      rw [ea] at fin
      rw [if_pos rfl]
      refine ⟨by omega, ?_⟩
      have : decide ((z.length : Int) ≤ 40) = decide (z.length ≤ 40) := by
        congr 1
        exact propext (by omega)
      rw [this]
      simpa using fin
  | _ =>
    simp only [sigOk]
    walk_at "rd"
    exact fin
end
end K01


namespace K01
open PySem L2 Nv

def lineD (h n : Int) (c t : Str) : PyData := .tuple [.int h, .int n, .str c, .str t]
theorem lineB_of {d : PyData} (e : lineB d = true) : ∃ h n c t, d = lineD h n c t ∧ 0 ≤ h ∧ 0 ≤ n ∧ celS c = true ∧ okS t = true ∧ t.length ≤ 40 := by
  unfold lineB at e
  split at e
  · rename_i a b c f
    simp only [Bool.and_eq_true] at e
    obtain ⟨e1, e2, e3, e4⟩ := e
    cases a with
    | int h =>
      cases b with
      | int n =>
        cases c with
        | str c =>
          cases f with
          | str t =>
            simp only [cntB, decide_eq_true_eq, textB, Bool.and_eq_true, cellB] at e1 e2 e3 e4
            exact ⟨h, n, c, t, rfl, e1, e2, e3, e4.1, e4.2⟩
          | _ => cases e4
        | _ => cases e3
      | _ => cases e2
    | _ => cases e1
  · cases e
theorem DVs.four {H : Hp} {xs : List V} {d0 d1 d2 d3 : PyData} (h : DVs H xs [d0, d1, d2, d3]) : ∃ x0 x1 x2 x3, xs = [x0, x1, x2, x3] ∧ DV H x0 d0 ∧ DV H x1 d1 ∧ DV H x2 d2 ∧ DV H x3 d3 := by
  cases h with
  | cons a h => cases h with
    | cons b h => cases h with
      | cons c h => cases h with
        | cons d h => cases h; exact ⟨_, _, _, _, rfl, a, b, c, d⟩
theorem dv_line {H : Hp} {v : V} {h n : Int} {c t : Str} (x : DV H v (lineD h n c t)) : ∃ a, v = .ref a ∧ H a = some (.tup [.int h, .int n, .str c, .str t]) := by
  cases x with
  | tup e r =>
    obtain ⟨x0, x1, x2, x3, rfl, a, b, c, d⟩ := DVs.four r
    cases a
    cases b
    cases c
    cases d
    exact ⟨_, rfl, e⟩
theorem sp_len : (Str.ofString " ").length = 1 := by decide +kernel
theorem int_len {i : Int} (h : -(10 ^ 21) ≤ i ∧ i ≤ 10 ^ 21) : (Str.ofString (toString i)).length ≤ 24 := by
  have h1 := int_text_length_le10 (a := i) (k := 22) (by decide) (by omega)
  have e : (Str.ofString (toString i)).length = (toString i).length := ofString_length _
  omega
def lineT (h n : Int) (c t : Str) : Str := Str.empty ++ Str.ofString (toString h) ++ Str.ofString " " ++ Str.ofString (toString n) ++ Str.ofString " " ++ c ++ Str.ofString " " ++ t
def spKey (CL : Addr) (K : PySem.W.Frag) : Sp := fun vs H Q E => ∃ v d, vs = [v] ∧ AV K H v d ∧ Lens d ∧
  (∀ h n c t, d = lineD h n c t → lineB d = true → ∀ p, H p = none → Q (.ref p) (upd H p (.tup [.int h, .int n]))) ∧
  (lineB d = false → ∀ dd H', H dd = none → Same H H' → H' dd = some (.xd [("given", v)]) → E (.ref CL) (some dd) H')
def spText (CL : Addr) (K : PySem.W.Frag) : Sp := fun vs H Q E => ∃ v d, vs = [v] ∧ AV K H v d ∧ Lens d ∧ Ints d ∧
  (∀ h n c t, d = lineD h n c t → lineB d = true → Q (.str (lineT h n c t)) H) ∧
  (lineB d = false → ∀ dd H', H dd = none → Same H H' → H' dd = some (.xd [("given", v)]) → E (.ref CL) (some dd) H')
section
variable {P : Program} {w : World} {K : PySem.W.Frag} {mg : Str → Option Value} {base : Heap}
theorem okx_InvalidLine (T : Tx K mg) : FnOk P w K mg base CX0 1 T.x_InvalidLine.f T.x_InvalidLine.fd ["self", "given"] (spXI K "given") :=
  ok_xi T.x_InvalidLine.F sc_InvalidLine_init rfl (by decide) (by decide)
theorem okx_InvalidText (T : Tx K mg) : FnOk P w K mg base CX0 1 T.x_InvalidText.f T.x_InvalidText.fd ["self", "given"] (spXI K "given") :=
  ok_xi T.x_InvalidText.F sc_InvalidText_init rfl (by decide) (by decide)
theorem ok_is_line (T : Tx K mg) : FnG P w K mg base 3 T.d_is_line.f T.d_is_line.fd ["value"] (spJL K lineB) := by
  refine okG0 T.d_is_line.F sc_is_line (fun vs H Q E h => ?_) (fun cdv A outer s H vs Q E hg hr h => ?_)
  · obtain ⟨v, d, rfl, _⟩ := h
    rfl
  obtain ⟨v, d, rfl, hd, hl, fin⟩ := h
  refine ⟨_, (pss_cons (ps_if (PW.pt (pw_or (pt_not (pt_val (pe_callB call_isiA (by rfl) T.n_isinstance (by decide +kernel) (pa_cons (pv 0) (pa_cons (pe_bltn (v := .ty "tuple") (by rfl) T.n_tuple (by decide +kernel) rfl) pa_nil))))) (pw_or1 (pt_cmpR op_ne (pe_callB call_len_seq (by rfl) T.n_len (by decide +kernel) (pa_cons (pv 0) pa_nil)) pe_int (nomark _)))))
      (pss_one (ps_ret pe_bl))
      pss_nil)
    (pss_cons (ps_asg (pv 0) (pg_tup rfl (pgs_cons (pg_name (i := 1) sc_is_line.nd rfl (Or.inl rfl)) (pgs_cons (pg_name (i := 2) sc_is_line.nd rfl (Or.inl rfl)) (pgs_cons (pg_name (i := 3) sc_is_line.nd rfl (Or.inl rfl)) (pgs_cons (pg_name (i := 4) sc_is_line.nd rfl (Or.inl rfl)) pgs_nil))))))
    (pss_one (ps_ret (pe_and (pe_cG (ok_is_count T) T.d_is_count.b takes0 hg (hr.mono (by decide)) T.d_is_count.m T.d_is_count.F.kp (pa_cons (pv 1) pa_nil)) (pe_and (pe_cG (ok_is_count T) T.d_is_count.b takes0 hg (hr.mono (by decide)) T.d_is_count.m T.d_is_count.F.kp (pa_cons (pv 2) pa_nil)) (pe_and (pe_cG (ok_is_cell T) T.d_is_cell.b takes0 hg (hr.mono (by decide)) T.d_is_cell.m T.d_is_cell.F.kp (pa_cons (pv 3) pa_nil)) (pe_one (pe_cG (ok_is_text T) T.d_is_text.b takes0 hg (hr.mono (by decide)) T.d_is_text.m T.d_is_text.F.kp (pa_cons (pv 4) pa_nil)))))))))), ?_⟩
  walk_at "rd"
  refine hd.isTup ?_
  walk_at "rd"
  cases d with
  | tuple ds =>
    obtain ⟨a, xs, rfl, ha, hr⟩ := hd.tup
    have el := hr.len
    simp only [isT]
    walk_at "rd"
    refine ⟨xs, .inr (SqT.of ha), ?_⟩
    walk_at "rd"
    have noB : ds.length ≠ 4 → lineB (.tuple ds) = false := fun h => by
      unfold lineB
      split
      · rename_i q
        cases q
        exact absurd rfl h
      · rfl
    by_cases h4 : ds.length = 4
    · obtain ⟨d0, d1, d2, d3, rfl⟩ : ∃ d0 d1 d2 d3, ds = [d0, d1, d2, d3] := by
        match ds, h4 with
        | [a, b, c, d], _ => exact ⟨a, b, c, d, rfl⟩
      obtain ⟨x0, x1, x2, x3, rfl, q0, q1, q2, q3⟩ := DVs.four hr
      refine ⟨rfl, ?_⟩
      rw [if_neg (by show ¬ (decide ((4 : Int) = 4) = false); decide)]
      refine r_unp (SqT.of ha) rfl ?_
      walk_at "rd"
      refine ⟨x0, d0, rfl, q0, ?_⟩
      simp only [lineB] at fin
      cases e0 : cntB d0 with
      | false =>
        rw [e0] at fin
        simpa using fin
      | true =>
        rw [e0] at fin
        walk_at "rd"
        refine ⟨x1, d1, rfl, q1, ?_⟩
        cases e1 : cntB d1 with
        | false =>
          rw [e1] at fin
          simpa using fin
        | true =>
          rw [e1] at fin
          walk_at "rd"
          refine ⟨x2, d2, rfl, .dat q2, fun z q => hl.t _ rfl z (by rw [← q]; simp), _, rfl, ?_⟩
          cases e2 : cellB d2 with
          | false =>
            rw [e2] at fin
            simpa using fin
          | true =>
            rw [e2] at fin
            walk_at "rd"
            exact ⟨x3, d3, rfl, .dat q3, fun z q => hl.t _ rfl z (by rw [← q]; simp), by simpa using fin⟩
    · have e4 : ¬ ((xs.length : Int) = 4) := by omega
      refine ⟨rfl, ?_⟩
      rw [if_pos (by simpa using e4)]
      rw [noB h4] at fin
      exact fin
  | _ =>
    simp only [isT]
    walk_at "rd"
    exact fin
theorem ok_key (T : Tx K mg) : FnG P w K mg base 4 T.d_key.f T.d_key.fd ["line"] (spKey T.C_InvalidLine K) := by
  refine okG T.d_key.F sc_key (fun vs H Q E h => ?_) (fun cdv A outer s H vs Q E hg hr h => ?_)
  · obtain ⟨v, d, rfl, _⟩ := h
    rfl
  obtain ⟨v, d, rfl, hd, hl, k1, k2⟩ := h
  refine ⟨_, (pss_cons (ps_if (pt_not (pt_val (pe_cG (ok_is_line T) T.d_is_line.b (takes_of rfl rfl rfl rfl) hg (hr.mono (by decide)) T.d_is_line.m T.d_is_line.F.kp (pa_cons (pv 0) pa_nil))))
      (pss_one (ps_err rfl (takes_of rfl rfl rfl rfl) T.e_InvalidLine (okx_InvalidLine T) T.x_InvalidLine.bi (hr.mono (by decide)) (pv 0)))
      pss_nil)
    (pss_one (ps_ret (pe_slice sl_tup (pv 0) po_none (po_some pe_int))))), ?_⟩
  walk_at "rd"
  refine ⟨v, d, rfl, hd, hl, _, rfl, ?_⟩
  cases e : lineB d with
  | false =>
    walk_at "rd"
    intro dd hdd
    exact k2 e dd _ hdd (Same.new hdd) upd_same
  | true =>
    walk_at "rd"
    obtain ⟨h, n, c, t, rfl, h1, h2, h3, h4, h5⟩ := lineB_of e
    obtain ⟨a, rfl, ha⟩ := dv_line (h := h) (n := n) (c := c) (t := t) (show DV H v (lineD h n c t) from by cases hd with | dat x => exact x)
    refine ⟨a, _, rfl, SqT.of ha, (by show ¬ (HT.sIx 4 0 none = 0 ∧ HT.sIx 4 4 (some 2) = 4); decide), fun p hp => ?_⟩
    have := k1 h n c t rfl e p hp
    exact this
theorem ok_line_text (T : Tx K mg) : FnG P w K mg base 4 T.d_line_text.f T.d_line_text.fd ["line"] (spText T.C_InvalidLine K) := by
  refine okG T.d_line_text.F sc_line_text (fun vs H Q E h => ?_) (fun cdv A outer s H vs Q E hg hr h => ?_)
  · obtain ⟨v, d, rfl, _⟩ := h
    rfl
  obtain ⟨v, d, rfl, hd, hl, hi, k1, k2⟩ := h
  refine ⟨_, (pss_cons (ps_if (pt_not (pt_val (pe_cG (ok_is_line T) T.d_is_line.b (takes_of rfl rfl rfl rfl) hg (hr.mono (by decide)) T.d_is_line.m T.d_is_line.F.kp (pa_cons (pv 0) pa_nil))))
      (pss_one (ps_err rfl (takes_of rfl rfl rfl rfl) T.e_InvalidLine (okx_InvalidLine T) T.x_InvalidLine.bi (hr.mono (by decide)) (pv 0)))
      pss_nil)
    (pss_cons (ps_asg (pv 0) (pg_tup rfl (pgs_cons (pg_name (i := 1) sc_line_text.nd rfl (Or.inl rfl)) (pgs_cons (pg_name (i := 2) sc_line_text.nd rfl (Or.inl rfl)) (pgs_cons (pg_name (i := 3) sc_line_text.nd rfl (Or.inl rfl)) (pgs_cons (pg_name (i := 4) sc_line_text.nd rfl (Or.inl rfl)) pgs_nil))))))
    (pss_one (ps_ret (pe_joined (.cons (pe_fmt (pv 1)) (.cons pe_str (.cons (pe_fmt (pv 2)) (.cons pe_str (.cons (pe_fmt (pv 3)) (.cons pe_str (.cons (pe_fmt (pv 4)) .nil)))))))))))), ?_⟩
  walk_at "rd"
  refine ⟨v, d, rfl, hd, hl, _, rfl, ?_⟩
  cases e : lineB d with
  | false =>
    walk_at "rd"
    intro dd hdd
    exact k2 e dd _ hdd (Same.new hdd) upd_same
  | true =>
    walk_at "rd"
    obtain ⟨h, n, c, t, rfl, h1, h2, h3, h4, h5⟩ := lineB_of e
    obtain ⟨a, rfl, ha⟩ := dv_line (h := h) (n := n) (c := c) (t := t) (show DV H v (lineD h n c t) from by cases hd with | dat x => exact x)
    refine r_unp (SqT.of ha) rfl ?_
    walk_at "rd"
    have bh := hi _ rfl h (by simp)
    have bn := hi _ rfl n (by simp)
    have lc := hl.t _ rfl c (by simp)
    have l0 : Str.empty.length = 0 := rfl
    have l1 := sp_len
    have th := int_len bh
    have tn := int_len bn
    have sz : sizeLine = 16777216 := sizeLine_eq
    have kk := k1 h n c t rfl e
    unfold lineT at kk
    refine .inr ⟨?_, ?_, ?_, .inr ⟨?_, ?_, ?_, .inl ⟨?_, ?_, ?_, .inl ⟨?_, ?_, kk⟩⟩⟩⟩
    · have := log21 bh
      omega
    · rw [append_len]; omega
    · rw [append_len, append_len]; omega
    · have := log21 bn
      omega
    · rw [append_len, append_len, append_len]; omega
    · rw [append_len, append_len, append_len, append_len]; omega
    · omega
    · rw [append_len, append_len, append_len, append_len, append_len]; omega
    · rw [append_len, append_len, append_len, append_len, append_len, append_len]; omega
    · omega
    · rw [append_len, append_len, append_len, append_len, append_len, append_len, append_len]; omega
end
end K01


namespace K01
open PySem L2 Nv

/-- what a text is read as -/
def numV (z : Str) : Int := ((Fr.num (sg z) : Nat) : Int)
theorem num_int {z : Str} (h : numS z = true) (l : z.length ≤ 640) : intText? z = some (numV z) := by
  have e : numL (sg z) = true := by
    rw [← numS_eq]
    exact h
  unfold numL at e
  simp only [Bool.and_eq_true, decide_eq_true_eq] at e
  have h1 := e.1.1
  rw [sg_len] at h1
  exact int_dig e.1.2 (by omega) l
def lnP (z : Str) : Option (Int × Int × Str × Str) :=
  match Txt.splitMax z (Str.ofString " ") 3 with
  | [a, b, c, t] => if numS a = true ∧ numS b = true ∧ lineB (lineD (numV a) (numV b) c t) = true then some (numV a, numV b, c, t) else none
  | _ => none
def lnD : PyData → Option (Int × Int × Str × Str)
  | .str z => lnP z
  | _ => none
def spLn (K : PySem.W.Frag) : Sp := fun vs H Q _ => ∃ v d, vs = [v] ∧ AV K H v d ∧ (∀ z, d = .str z → z.length ≤ 600) ∧
  (lnD d = none → ∀ H', Same H H' → Q .non H') ∧
  (∀ h n c t, lnD d = some (h, n, c, t) → ∀ p H', H p = none → Same H H' → H' p = some (.tup [.int h, .int n, .str c, .str t]) → Q (.ref p) H')
section
variable {P : Program} {w : World} {K : PySem.W.Frag} {mg : Str → Option Value} {base : Heap}
theorem ok_line_in (T : Tx K mg) : FnG P w K mg base 4 T.d_line_in.f T.d_line_in.fd ["value"] (spLn K) := by
  refine okG0 T.d_line_in.F sc_line_in (fun vs H Q E h => ?_) (fun cdv A outer s H vs Q E hg hr h => ?_)
  · obtain ⟨v, d, rfl, _⟩ := h
    rfl
  obtain ⟨v, d, rfl, hd, hz, k1, k2⟩ := h
  refine ⟨_, (pss_cons (ps_if (pt_not (pt_val (pe_callB call_isiA (by rfl) T.n_isinstance (by decide +kernel) (pa_cons (pv 0) (pa_cons (pe_bltn (v := .ty "str") (by rfl) T.n_str (by decide +kernel) rfl) pa_nil)))))
      (pss_one (ps_ret pe_non))
      pss_nil)
    (pss_cons (ps_set (i := 1) sc_line_in.nd rfl (Or.inl rfl) (pe_bm PySem.F.plainAttrs_str PySem.F.slot_str_split PySem.F.type_str_split mt_splitMax (pv 0) (pa_cons pe_str (pa_cons pe_int pa_nil))))
    (pss_cons (ps_if (PW.pt (pw_or (pt_cmpR op_ne (pe_callB call_len_seq (by rfl) T.n_len (by decide +kernel) (pa_cons (pv 1) pa_nil)) pe_int (nomark _)) (pw_or (pt_not (pt_val (pe_cG (ok_is_numeral T) T.d_is_numeral.b takes0 hg (hr.mono (by decide)) T.d_is_numeral.m T.d_is_numeral.F.kp (pa_cons (pe_ix ix_list (pv 1) pe_int (fun _ _ => rfl)) pa_nil)))) (pw_or1 (pt_not (pt_val (pe_cG (ok_is_numeral T) T.d_is_numeral.b takes0 hg (hr.mono (by decide)) T.d_is_numeral.m T.d_is_numeral.F.kp (pa_cons (pe_ix ix_list (pv 1) pe_int (fun _ _ => rfl)) pa_nil))))))))
      (pss_one (ps_ret pe_non))
      pss_nil)
    (pss_cons (ps_set (i := 2) sc_line_in.nd rfl (Or.inl rfl) (pe_tup (pa_cons (pe_callTy call_int_str (by rfl) T.n_int (by decide +kernel) (pa_cons (pe_ix ix_list (pv 1) pe_int (fun _ _ => rfl)) pa_nil)) (pa_cons (pe_callTy call_int_str (by rfl) T.n_int (by decide +kernel) (pa_cons (pe_ix ix_list (pv 1) pe_int (fun _ _ => rfl)) pa_nil)) (pa_cons (pe_ix ix_list (pv 1) pe_int (fun _ _ => rfl)) (pa_cons (pe_ix ix_list (pv 1) pe_int (fun _ _ => rfl)) pa_nil))))))
    (pss_one (ps_ret (pe_ifExp (pt_val (pe_cG (ok_is_line T) T.d_is_line.b takes0 hg (hr.mono (by decide)) T.d_is_line.m T.d_is_line.F.kp (pa_cons (pv 2) pa_nil))) (pv 2) pe_non))))))), ?_⟩
  walk_at "rd"
  have sz : sizeLine = 16777216 := sizeLine_eq
  refine hd.isStr ?_
  cases d with
  | str z =>
    cases hd.str
    have lz := hz z rfl
    simp only [isS]
    walk_at "rd"
    refine ⟨rfl, _, _, ⟨rfl, rfl⟩, by decide +kernel, by decide, by decide, by omega, ?_⟩
    intro l hl
    obtain ⟨ps, hps⟩ : ∃ ps, Txt.splitMax z (Str.ofString " ") 3 = ps := ⟨_, rfl⟩
    rw [hps]
    have sub : ∀ p ∈ ps, p.length ≤ 600 := fun p hp => by
      have := (splitMax_sub (x := z) (p := p) (k := 3) (by rw [hps]; exact hp)).1
      omega
    have S1 : Same H (upd H l (.lst (ps.map V.str))) := Same.new hl
    obtain ⟨H1, e1⟩ : ∃ H1, upd H l (.lst (ps.map V.str)) = H1 := ⟨_, rfl⟩
    have f1 : H1 l = some (.lst (ps.map V.str)) := by
      rw [← e1]
      exact upd_same
    rw [e1] at S1 ⊢
    refine ⟨_, rfl, _, .inl (.of f1), rfl, ?_⟩
    rw [List.length_map]
    by_cases h4 : ps.length = 4
    · obtain ⟨a, b, c, t, rfl⟩ : ∃ a b c t, ps = [a, b, c, t] := by
        match ps, h4 with
        | [a, b, c, t], _ => exact ⟨a, b, c, t, rfl⟩
      rw [if_neg (by show ¬ (decide ((4 : Int) = 4) = false); decide)]
      have f1' : SqL K H1 l [.str a, .str b, .str c, .str t] := .of f1
      have ea : lnD (.str z) = if numS a = true ∧ numS b = true ∧ lineB (lineD (numV a) (numV b) c t) = true then some (numV a, numV b, c, t) else none := by
        show lnP z = _
        unfold lnP
        rw [hps]
      refine r_ixL f1' rfl ?_
      walk_at "rd"
      cases na : numS a with
      | false =>
        simp only [↓reduceIte]
        exact k1 (by rw [ea, na]; simp) H1 S1
      | true =>
        walk_at "rd"
        refine r_ixL f1' rfl ?_
        walk_at "rd"
        cases nb : numS b with
        | false =>
          walk_at "rd"
          exact k1 (by rw [ea, nb]; simp) H1 S1
        | true =>
          walk_at "rd"
          refine r_ixL f1' rfl ⟨a, rfl, _, num_int na (by have := sub a (by simp); omega), by have := sub a (by simp); omega, ?_⟩
          refine r_ixL f1' rfl ⟨b, rfl, _, num_int nb (by have := sub b (by simp); omega), by have := sub b (by simp); omega, ?_⟩
          refine r_ixL f1' rfl ?_
          refine r_ixL f1' rfl ⟨by decide, fun p hp => ?_⟩
          have hpH : H p = none := by
            cases q : H p with
            | none => rfl
            | some o =>
              rw [S1 _ _ q] at hp
              cases hp
          have S2 : Same H (upd H1 p (.tup [.int (numV a), .int (numV b), .str c, .str t])) := Same.trans S1 (Same.new hp)
          refine ⟨_, lineD (numV a) (numV b) c t, rfl, .dat (.tup upd_same (.cons (.int _) (.cons (.int _) (.cons (.str _) (.cons (.str _) .nil))))), ⟨fun z e => (by cases e), fun ds e z m => ?_⟩, _, rfl, ?_⟩
          · cases e
            have hm : z = c ∨ z = t := by simpa using m
            rcases hm with rfl | rfl
            · have := sub z (by simp)
              omega
            · have := sub z (by simp)
              omega
          · cases el : lineB (lineD (numV a) (numV b) c t) with
            | false =>
              exact k1 (by rw [ea, el]; simp) _ S2
            | true =>
              exact k2 _ _ _ _ (by rw [ea, na, nb, el]; simp) p _ hpH S2 upd_same
    · rw [if_pos (by simpa using (show ¬ ((ps.length : Int) = 4) from by omega))]
      refine k1 ?_ H1 S1
      show lnP z = none
      unfold lnP
      rw [hps]
      split
      · exact absurd rfl h4
      · rfl
  | _ =>
    simp only [isS]
    walk_at "rd"
    exact k1 rfl H (Same.refl H)
theorem ok_l_count (T : Tx K mg) : FnG P w K mg base 1 T.d_l_count.f T.d_l_count.fd ["_law_value"] (spJ cntB) := by
  refine okG0 T.d_l_count.F sc_l_count (fun vs H Q E h => ?_) (fun cdv A outer s H vs Q E hg hr h => ?_)
  · obtain ⟨v, d, rfl, _⟩ := h
    rfl
  obtain ⟨v, d, rfl, hd, k⟩ := h
  refine ⟨_, (pss_one (ps_ret (pe_and (pe_callB call_isiA (by rfl) T.n_isinstance (by decide +kernel) (pa_cons (pv 0) (pa_cons (pe_bltn (v := .ty "int") (by rfl) T.n_int (by decide +kernel) rfl) pa_nil))) (pe_and (pe_not (pe_callB call_isiA (by rfl) T.n_isinstance (by decide +kernel) (pa_cons (pv 0) (pa_cons (pe_bltn (v := .ty "bool") (by rfl) T.n_bool (by decide +kernel) rfl) pa_nil)))) (pe_one (pe_cmpR op_ge (pv 0) pe_int (nomark _))))))), ?_⟩
  walk_at "rd"
  refine r_isiD hd (kit_int d) ?_
  walk_at "rd"
  cases hd with
  | int i =>
    simp only [isI, isB, Bool.or_false]
    walk_at "rd"
    refine r_isiD (DV.int i) (kit_bool _) ?_
    simp only [isB]
    walk_at "rd"
    simpa only [cntB] using k
  | bl b =>
    simp only [isI, isB, Bool.or_true]
    walk_at "rd"
    refine r_isiD (DV.bl b) (kit_bool _) ?_
    simp only [isB]
    walk_at "rd"
    exact k
  | _ =>
    simp only [isI, isB, Bool.or_false]
    walk_at "rd"
    exact k
theorem ok_l_is_cell (T : Tx K mg) : FnG P w K mg base 1 T.d_l_is_cell.f T.d_l_is_cell.fd ["_law_value"] (spJW cellB) := by
  refine okG0 T.d_l_is_cell.F sc_l_is_cell (fun vs H Q E h => ?_) (fun cdv A outer s H vs Q E hg hr h => ?_)
  · obtain ⟨v, d, rfl, _⟩ := h
    rfl
  obtain ⟨v, d, rfl, hd, hz, k⟩ := h
  have sz : sizeLine = 16777216 := sizeLine_eq
  refine ⟨_, (pss_cons (ps_if (PW.pt (pw_or (pt_not (pt_val (pe_callB call_isiA (by rfl) T.n_isinstance (by decide +kernel) (pa_cons (pv 0) (pa_cons (pe_bltn (v := .ty "str") (by rfl) T.n_str (by decide +kernel) rfl) pa_nil))))) (pw_or1 (pt_not (pt_chain op_le op_le pe_int (pe_callB call_len_str (by rfl) T.n_len (by decide +kernel) (pa_cons (pv 0) pa_nil)) pe_int)))))
      (pss_one (ps_ret pe_bl))
      pss_nil)
    (pss_one (ps_ret (pe_cmpR (op_eqD hr.units) (pe_lc (own := [("_law_sign", 1)]) (g := gName 1) rfl sc_l_is_cell.nd (pi_str (pv 0)) (blkOk_by (N := ["_law_value", "_law_sign"]) (sc := defScope s_l_is_cell) (by decide +kernel)) (fun _ _ _ _ _ => pg_name (i := 1) sc_l_is_cell.nd rfl (Or.inl rfl)) (fun _ _ _ _ _ => (pts_one (pt_cmpR op_notIn_sign (pv 1) pe_str (by rfl)))) (fun _ _ _ _ _ => (pv 1))) (pe_lst1 pa_nil) (nomark _))))), ?_⟩
  walk_at "rd"
  refine r_isiD hd (kit_str d) ?_
  cases hd with
  | str z =>
    obtain ⟨az, lz⟩ := hz z rfl
    simp only [isS]
    walk_at "rd"
    refine ⟨by omega, ?_⟩
    have ce : cellB (PyData.str z) = (decide (z.length ≤ 8) && (decide (0 < z.length) && (sg z).all low)) := by
      show celS z = _
      unfold celS
      rw [alow]
    rw [ce] at k
    by_cases h1 : (1 : Int) ≤ (z.length : Int)
    · rw [if_pos h1]
      have g1 : decide (0 < z.length) = true := by simp; omega
      rw [g1] at k
      by_cases h8 : (z.length : Int) ≤ 8
      · rw [if_neg (by simpa using h8)]
        have g8 : decide (z.length ≤ 8) = true := by simp; omega
        rw [g8] at k
        refine ⟨V.str z, rfl, z, rfl, fun D hD => ?_⟩
        refine lc_it walk_str (fun i H' => H' D = some (.lst ((((sg z).take i).filter fun c => !low c).map fun c => V.str ⟨#[c]⟩)) ∧ Same H H') ⟨upd_same, Same.new hD⟩ (fun _ _ _ _ => trivial) ?_ ?_
        · rintro j x H2 H3 hj ⟨f, S⟩ ⟨rfl, c, hc, rfl⟩
          have hc' : (sg z)[j]? = some c := by
            show z.cps.toList[j]? = _
            rw [Array.getElem?_toList]
            exact hc
          refine ⟨rfl, ?_⟩
          walk_at "rd"
          refine ⟨c, rfl, ?_⟩
          rw [alph_in]
          rw [take_filter hc']
          have hlen : ((((sg z).take j).filter fun c => !low c).map fun c => V.str ⟨#[c]⟩).length < sizeLine := by
            rw [List.length_map, sz]
            have h1 := List.length_filter_le (fun c => !low c) ((sg z).take j)
            have h2 : ((sg z).take j).length ≤ (sg z).length := by
              rw [List.length_take]
              omega
            rw [sg_len] at h2
            omega
          cases hd : low c with
          | true =>
            simp only [Bool.not_true, Bool.false_eq_true, ↓reduceIte, List.append_nil]
            exact ⟨f, S⟩
          | false =>
            simp only [Bool.not_false, ↓reduceIte]
            refine ⟨_, f, hlen, ?_, fun a u ha => by rw [upd_ne (ne_of_none ha hD)]; exact S a u ha⟩
            rw [List.map_append]
            rfl
        · rintro H2 ⟨f, S⟩
          refine ⟨by decide, fun p hp np => ?_⟩
          have e : (sg z).take z.cps.size = sg z := by
            apply List.take_of_length_le
            rw [sg_len]
            exact Nat.le_refl _
          rw [e] at f
          have npD : D ≠ p := ne_of_none f hp
          have S3 : Same H (upd H2 p (.lst [])) := Same.trans S (Same.new hp)
          obtain ⟨H3, e3⟩ : ∃ H3, upd H2 p (.lst []) = H3 := ⟨_, rfl⟩
          have f3 : H3 D = some (.lst (((sg z).filter fun c => !low c).map fun c => V.str ⟨#[c]⟩)) := by
            rw [← e3, upd_ne npD]
            exact f
          have p3 : H3 p = some (.lst []) := by
            rw [← e3]
            exact upd_same
          rw [e3] at S3 ⊢
          refine r_eq_ones (fun c hc => az c (List.mem_filter.mp hc).1) f3 p3 ?_
          rw [filt_all]
          exact k H3 S3
      · rw [if_pos (by simpa using h8)]
        have g8 : decide (z.length ≤ 8) = false := by simp; omega
        rw [g8] at k
        exact k H (Same.refl H)
    · rw [if_neg h1]
      have g1 : decide (0 < z.length) = false := by simp; omega
      rw [g1] at k
      simpa using k H (Same.refl H)
  | _ =>
    simp only [isS]
    walk_at "rd"
    exact k H (Same.refl H)
theorem ok_l_is_text (T : Tx K mg) : FnG P w K mg base 1 T.d_l_is_text.f T.d_l_is_text.fd ["_law_value"] (spJW textB) := by
  refine okG0 T.d_l_is_text.F sc_l_is_text (fun vs H Q E h => ?_) (fun cdv A outer s H vs Q E hg hr h => ?_)
  · obtain ⟨v, d, rfl, _⟩ := h
    rfl
  obtain ⟨v, d, rfl, hd, hz, k⟩ := h
  have sz : sizeLine = 16777216 := sizeLine_eq
  refine ⟨_, (pss_cons (ps_if (PW.pt (pw_or (pt_not (pt_val (pe_callB call_isiA (by rfl) T.n_isinstance (by decide +kernel) (pa_cons (pv 0) (pa_cons (pe_bltn (v := .ty "str") (by rfl) T.n_str (by decide +kernel) rfl) pa_nil))))) (pw_or1 (pt_cmpR op_gt (pe_callB call_len_str (by rfl) T.n_len (by decide +kernel) (pa_cons (pv 0) pa_nil)) pe_int (nomark _)))))
      (pss_one (ps_ret pe_bl))
      pss_nil)
    (pss_one (ps_ret (pe_cmpR (op_eqD hr.units) (pe_lc (own := [("_law_sign", 1)]) (g := gName 1) rfl sc_l_is_text.nd (pi_str (pv 0)) (blkOk_by (N := ["_law_value", "_law_sign"]) (sc := defScope s_l_is_text) (by decide +kernel)) (fun _ _ _ _ _ => pg_name (i := 1) sc_l_is_text.nd rfl (Or.inl rfl)) (fun _ _ _ _ _ => (pts_one (pt_not (pt_chain op_le_str op_le_str pe_str (pv 1) pe_str)))) (fun _ _ _ _ _ => (pv 1))) (pe_lst1 pa_nil) (nomark _))))), ?_⟩
  walk_at "rd"
  refine r_isiD hd (kit_str d) ?_
  cases hd with
  | str z =>
    obtain ⟨az, lz⟩ := hz z rfl
    simp only [isS]
    walk_at "rd"
    refine ⟨by omega, ?_⟩
    have ce : textB (PyData.str z) = ((sg z).all pc && decide (z.length ≤ 40)) := by
      show (okS z && _) = _
      rw [okS_all]
    rw [ce] at k
    by_cases h4 : (40 : Int) < (z.length : Int)
    · rw [if_pos h4]
      have g4 : decide (z.length ≤ 40) = false := by simp; omega
      rw [g4, Bool.and_false] at k
      exact k H (Same.refl H)
    · rw [if_neg h4]
      have g4 : decide (z.length ≤ 40) = true := by simp; omega
      rw [g4, Bool.and_true] at k
      refine ⟨V.str z, rfl, z, rfl, fun D hD => ?_⟩
      refine lc_it walk_str (fun i H' => H' D = some (.lst ((((sg z).take i).filter fun c => !pc c).map fun c => V.str ⟨#[c]⟩)) ∧ Same H H') ⟨upd_same, Same.new hD⟩ (fun _ _ _ _ => trivial) ?_ ?_
      · rintro j x H2 H3 hj ⟨f, S⟩ ⟨rfl, c, hc, rfl⟩
        have hc' : (sg z)[j]? = some c := by
          show z.cps.toList[j]? = _
          rw [Array.getElem?_toList]
          exact hc
        refine ⟨rfl, ?_⟩
        walk_at "rd"
        have l1 : decide ([c] < (Str.ofString " ").cps.toList) = decide (c < 32) := by
          have : (Str.ofString " ").cps.toList = [32] := by decide +kernel
          rw [this]
          congr 1
          simp [List.cons_lt_cons_iff]
        have l2 : decide ((Str.ofString "~").cps.toList < [c]) = decide (126 < c) := by
          have : (Str.ofString "~").cps.toList = [126] := by decide +kernel
          rw [this]
          congr 1
          simp [List.cons_lt_cons_iff]
        rw [l1, l2]
        rw [take_filter hc']
        have hlen : ((((sg z).take j).filter fun c => !pc c).map fun c => V.str ⟨#[c]⟩).length < sizeLine := by
          rw [List.length_map, sz]
          have h1 := List.length_filter_le (fun c => !pc c) ((sg z).take j)
          have h2 : ((sg z).take j).length ≤ (sg z).length := by
            rw [List.length_take]
            omega
          rw [sg_len] at h2
          omega
        have bad : pc c = false → ∃ acc, H3 D = some (HO.lst acc) ∧ acc.length < sizeLine ∧ HO.lst (acc ++ [V.str { cps := #[c] }]) = HO.lst (List.map (fun c => V.str { cps := #[c] }) (List.filter (fun c => !pc c) (List.take j (sg z)) ++ if (!pc c) = true then [c] else [])) ∧ Same H (upd H3 D (HO.lst (acc ++ [V.str { cps := #[c] }]))) := fun hd => by
          rw [hd]
          simp only [Bool.not_false, ↓reduceIte]
          refine ⟨_, f, hlen, ?_, fun a u ha => by rw [upd_ne (ne_of_none ha hD)]; exact S a u ha⟩
          rw [List.map_append]
          rfl
        by_cases c1 : c < 32
        · have hd : pc c = false := by unfold pc; simp; omega
          rw [if_neg (by simpa using c1)]
          exact bad hd
        · rw [if_pos (by simpa using c1)]
          by_cases c2 : 126 < c
          · have hd : pc c = false := by unfold pc; simp; omega
            rw [if_pos (by simpa using c2)]
            exact bad hd
          · have hd : pc c = true := by unfold pc; simp; omega
            rw [if_neg (by simpa using c2), hd]
            simp only [Bool.not_true, Bool.false_eq_true, ↓reduceIte, List.append_nil]
            exact ⟨f, S⟩
      · rintro H2 ⟨f, S⟩
        refine ⟨by decide, fun p hp np => ?_⟩
        have e : (sg z).take z.cps.size = sg z := by
          apply List.take_of_length_le
          rw [sg_len]
          exact Nat.le_refl _
        rw [e] at f
        have npD : D ≠ p := ne_of_none f hp
        have S3 : Same H (upd H2 p (.lst [])) := Same.trans S (Same.new hp)
        obtain ⟨H3, e3⟩ : ∃ H3, upd H2 p (.lst []) = H3 := ⟨_, rfl⟩
        have f3 : H3 D = some (.lst (((sg z).filter fun c => !pc c).map fun c => V.str ⟨#[c]⟩)) := by
          rw [← e3, upd_ne npD]
          exact f
        have p3 : H3 p = some (.lst []) := by
          rw [← e3]
          exact upd_same
        rw [e3] at S3 ⊢
        refine r_eq_ones (fun c hc => az c (List.mem_filter.mp hc).1) f3 p3 ?_
        rw [filt_all]
        exact k H3 S3
  | _ =>
    simp only [isS]
    walk_at "rd"
    exact k H (Same.refl H)
end
end K01


namespace K01
open PySem L2 Nv

def spRd (CT : Addr) (K : PySem.W.Frag) : Sp := fun vs H Q E => ∃ v d, vs = [v] ∧ AV K H v d ∧ (∀ z, d = .str z → z.length ≤ 600) ∧
  (lnD d = none → ∀ dd H', H dd = none → Same H H' → H' dd = some (.xd [("given", v)]) → E (.ref CT) (some dd) H') ∧
  (∀ h n c t, lnD d = some (h, n, c, t) → ∀ p H', H p = none → Same H H' → H' p = some (.tup [.int h, .int n, .str c, .str t]) → Q (.ref p) H')
/-- texts in it are of few signs -/
structure LensA (d : PyData) : Prop where
  s : ∀ z, d = .str z → Asc z ∧ z.length ≤ 100000
  t : ∀ ds, d = .tuple ds → ∀ z, PyData.str z ∈ ds → Asc z ∧ z.length ≤ 100000
theorem LensA.lens {d : PyData} (h : LensA d) : Lens d := ⟨fun z e => (h.s z e).2, fun ds e z m => (h.t ds e z m).2⟩
def spJX (g : PyData → Bool) : Sp := fun vs H Q _ => ∃ v d, vs = [v] ∧ DV H v d ∧ LensA d ∧ ∀ H', Same H H' → Q (.bl (g d)) H'
def spWr : Sp := fun vs H Q _ => ∃ v h n c t, vs = [v] ∧ DV H v (lineD h n c t) ∧ (-(10 ^ 21) ≤ h ∧ h ≤ 10 ^ 21) ∧ (-(10 ^ 21) ≤ n ∧ n ≤ 10 ^ 21) ∧ c.length ≤ 100000 ∧ t.length ≤ 100000 ∧ Q (.str (lineT h n c t)) H
def digV (z : Str) : Int := if numS z = true then numV z else -1
def spDig : Sp := fun vs H Q _ => ∃ z, vs = [.str z] ∧ Asc z ∧ z.length ≤ 600 ∧ ∀ H', Same H H' → Q (.int (digV z)) H'
def spLRd : Sp := fun vs H Q _ => ∃ z, vs = [.str z] ∧ Asc z ∧ z.length ≤ 600 ∧
  (lnP z = none → ∀ H', Same H H' → Q .non H') ∧
  (∀ h n c t, lnP z = some (h, n, c, t) → ∀ p H', H p = none → Same H H' → H' p = some (.tup [.int h, .int n, .str c, .str t]) → Q (.ref p) H')
theorem none_of {H H' : Hp} {p : Addr} (S : Same H H') (h : H' p = none) : H p = none := by
  cases q : H p with
  | none => rfl
  | some o =>
    rw [S _ _ q] at h
    cases h
theorem empty_app (x : Str) : Str.empty ++ x = x := sg_inj (by rw [sg_app]; rfl)
section
variable {P : Program} {w : World} {K : PySem.W.Frag} {mg : Str → Option Value} {base : Heap}
theorem ok_read_line (T : Tx K mg) : FnG P w K mg base 5 T.d_read_line.f T.d_read_line.fd ["text"] (spRd T.C_InvalidText K) := by
  refine okG T.d_read_line.F sc_read_line (fun vs H Q E h => ?_) (fun cdv A outer s H vs Q E hg hr h => ?_)
  · obtain ⟨v, d, rfl, _⟩ := h
    rfl
  obtain ⟨v, d, rfl, hd, hz, k1, k2⟩ := h
  refine ⟨_, (pss_cons (ps_set (i := 1) sc_read_line.nd rfl (Or.inl rfl) (pe_cG (ok_line_in T) T.d_line_in.b (takes_of rfl rfl rfl rfl) hg (hr.mono (by decide)) T.d_line_in.m T.d_line_in.F.kp (pa_cons (pv 0) pa_nil)))
    (pss_cons (ps_if (pt_cmpR op_isN (pv 1) pe_non (nomark _))
      (pss_one (ps_err rfl (takes_of rfl rfl rfl rfl) T.e_InvalidText (okx_InvalidText T) T.x_InvalidText.bi (hr.mono (by decide)) (pv 0)))
      pss_nil)
    (pss_one (ps_ret (pv 1))))), ?_⟩
  walk_at "rd"
  refine ⟨v, d, rfl, hd, hz, fun e H' S => ?_, fun h n c t e p H' hp S hH => ?_⟩
  · walk_at "rd"
    intro dd hdd
    exact k1 e dd _ (none_of S hdd) (S.trans (Same.new hdd)) upd_same
  · walk_at "rd"
    rw [if_neg (fun q => by cases q)]
    exact k2 h n c t e p H' hp S hH
theorem ok_l_is_line (T : Tx K mg) : FnG P w K mg base 2 T.d_l_is_line.f T.d_l_is_line.fd ["_law_value"] (spJX lineB) := by
  refine okG0 T.d_l_is_line.F sc_l_is_line (fun vs H Q E h => ?_) (fun cdv A outer s H vs Q E hg hr h => ?_)
  · obtain ⟨v, d, rfl, _⟩ := h
    rfl
  obtain ⟨v, d, rfl, hd, hl, fin⟩ := h
  refine ⟨_, (pss_cons (ps_if (PW.pt (pw_or (pt_not (pt_val (pe_callB call_isiA (by rfl) T.n_isinstance (by decide +kernel) (pa_cons (pv 0) (pa_cons (pe_bltn (v := .ty "tuple") (by rfl) T.n_tuple (by decide +kernel) rfl) pa_nil))))) (pw_or1 (pt_cmpR op_ne (pe_callB call_len_seq (by rfl) T.n_len (by decide +kernel) (pa_cons (pv 0) pa_nil)) pe_int (nomark _)))))
      (pss_one (ps_ret pe_bl))
      pss_nil)
    (pss_cons (ps_if (PW.pt (pw_or (pt_not (pt_val (pe_cG (ok_l_count T) T.d_l_count.b takes0 hg (hr.mono (by decide)) T.d_l_count.m T.d_l_count.F.kp (pa_cons (pe_ix ix_tup (pv 0) pe_int (fun _ _ => rfl)) pa_nil)))) (pw_or1 (pt_not (pt_val (pe_cG (ok_l_count T) T.d_l_count.b takes0 hg (hr.mono (by decide)) T.d_l_count.m T.d_l_count.F.kp (pa_cons (pe_ix ix_tup (pv 0) pe_int (fun _ _ => rfl)) pa_nil)))))))
      (pss_one (ps_ret pe_bl))
      pss_nil)
    (pss_one (ps_ret (pe_and (pe_cG (ok_l_is_cell T) T.d_l_is_cell.b takes0 hg (hr.mono (by decide)) T.d_l_is_cell.m T.d_l_is_cell.F.kp (pa_cons (pe_ix ix_tup (pv 0) pe_int (fun _ _ => rfl)) pa_nil)) (pe_one (pe_cG (ok_l_is_text T) T.d_l_is_text.b takes0 hg (hr.mono (by decide)) T.d_l_is_text.m T.d_l_is_text.F.kp (pa_cons (pe_ix ix_tup (pv 0) pe_int (fun _ _ => rfl)) pa_nil)))))))), ?_⟩
  walk_at "rd"
  refine r_isiD hd (kit_tuple d) ?_
  cases hd with
  | @tup a xs ds ha hr =>
    have el := hr.len
    simp only [isT]
    walk_at "rd"
    refine ⟨xs, .inr (SqT.of ha), ?_⟩
    walk_at "rd"
    have noB : ds.length ≠ 4 → lineB (.tuple ds) = false := fun h => by
      unfold lineB
      split
      · rename_i q
        cases q
        exact absurd rfl h
      · rfl
    refine ⟨rfl, ?_⟩
    by_cases h4 : ds.length = 4
    · obtain ⟨d0, d1, d2, d3, rfl⟩ : ∃ d0 d1 d2 d3, ds = [d0, d1, d2, d3] := by
        match ds, h4 with
        | [a, b, c, d], _ => exact ⟨a, b, c, d, rfl⟩
      obtain ⟨x0, x1, x2, x3, rfl, q0, q1, q2, q3⟩ := DVs.four hr
      rw [if_neg (by show ¬ (decide ((4 : Int) = 4) = false); decide)]
      have ixe := SqT.of (K := K) ha
      refine r_ixT ixe rfl ⟨x0, d0, rfl, q0, ?_⟩
      simp only [lineB] at fin
      cases e0 : cntB d0 with
      | false =>
        rw [e0] at fin
        simpa using fin H (Same.refl H)
      | true =>
        rw [e0] at fin
        walk_at "rd"
        refine r_ixT ixe rfl ⟨x1, d1, rfl, q1, ?_⟩
        cases e1 : cntB d1 with
        | false =>
          rw [e1] at fin
          simpa using fin H (Same.refl H)
        | true =>
          rw [e1] at fin
          walk_at "rd"
          refine r_ixT ixe rfl ⟨x2, d2, rfl, q2, fun z q => hl.t _ rfl z (by rw [← q]; simp), fun H1 S1 => ⟨_, rfl, ?_⟩⟩
          cases e2 : cellB d2 with
          | false =>
            rw [e2] at fin
            simpa using fin H1 S1
          | true =>
            rw [e2] at fin
            walk_at "rd"
            refine r_ixT (SqT.of (S1 _ _ ha)) rfl ⟨x3, d3, rfl, q3.mono S1, fun z q => hl.t _ rfl z (by rw [← q]; simp), fun H2 S2 => ?_⟩
            simpa using fin H2 (S1.trans S2)
    · have e4 : ¬ ((xs.length : Int) = 4) := by omega
      rw [if_pos (by simpa using e4)]
      rw [noB h4] at fin
      exact fin H (Same.refl H)
  | _ =>
    simp only [isT]
    walk_at "rd"
    exact fin H (Same.refl H)
theorem ok_l_written (T : Tx K mg) : FnG P w K mg base 1 T.d_l_written.f T.d_l_written.fd ["_law_line_here"] spWr := by
  refine okG0 T.d_l_written.F sc_l_written (fun vs H Q E h => ?_) (fun cdv A outer s H vs Q E hg hr h => ?_)
  · obtain ⟨v, h, n, c, t, rfl, _⟩ := h
    rfl
  obtain ⟨v, h, n, c, t, rfl, hd, bh, bn, lc, lt, k⟩ := h
  obtain ⟨a, rfl, ha⟩ := dv_line hd
  have ixe := SqT.of (K := K) ha
  have l1 := sp_len
  have th := int_len bh
  have tn := int_len bn
  have sz : sizeLine = 16777216 := sizeLine_eq
  refine ⟨_, (pss_one (ps_ret (pe_op op_add_str (pe_op op_add_str (pe_op op_add_str (pe_op op_add_str (pe_op op_add_str (pe_op op_add_str (pe_callTy call_str_int (by rfl) T.n_str (by decide +kernel) (pa_cons (pe_ix ix_tup (pv 0) pe_int (fun _ _ => rfl)) pa_nil)) pe_str) (pe_callTy call_str_int (by rfl) T.n_str (by decide +kernel) (pa_cons (pe_ix ix_tup (pv 0) pe_int (fun _ _ => rfl)) pa_nil))) pe_str) (pe_ix ix_tup (pv 0) pe_int (fun _ _ => rfl))) pe_str) (pe_ix ix_tup (pv 0) pe_int (fun _ _ => rfl))))), ?_⟩
  walk_at "rd"
  unfold lineT at k
  rw [empty_app] at k
  refine r_ixT ixe rfl ⟨h, rfl, by have := log21 bh; omega, by omega, ?_⟩
  refine r_ixT ixe rfl ⟨n, rfl, by have := log21 bn; omega, by rw [append_len]; omega, by rw [append_len, append_len]; omega, ?_⟩
  refine r_ixT ixe rfl ⟨c, rfl, by rw [append_len, append_len, append_len]; omega, by rw [append_len, append_len, append_len, append_len]; omega, ?_⟩
  refine r_ixT ixe rfl ⟨t, rfl, by rw [append_len, append_len, append_len, append_len, append_len]; omega, k⟩
theorem ok_l_digits (T : Tx K mg) : FnG P w K mg base 1 T.d_l_digits.f T.d_l_digits.fd ["_law_word"] spDig := by
  refine okG0 T.d_l_digits.F sc_l_digits (fun vs H Q E h => ?_) (fun cdv A outer s H vs Q E hg hr h => ?_)
  · obtain ⟨z, rfl, _⟩ := h
    rfl
  obtain ⟨z, rfl, az, lz, k⟩ := h
  have sz : sizeLine = 16777216 := sizeLine_eq
  refine ⟨_, (pss_cons (ps_if (PW.pt (pw_or (pt_cmpR op_eq (pv 0) pe_str (nomark _)) (pw_or1 (pt_cmpR (op_neD hr.units) (pe_lc (own := [("_law_sign", 1)]) (g := gName 1) rfl sc_l_digits.nd (pi_str (pv 0)) (blkOk_by (N := ["_law_word", "_law_sign"]) (sc := defScope s_l_digits) (by decide +kernel)) (fun _ _ _ _ _ => pg_name (i := 1) sc_l_digits.nd rfl (Or.inl rfl)) (fun _ _ _ _ _ => (pts_one (pt_cmpR op_notIn_sign (pv 1) pe_str (by rfl)))) (fun _ _ _ _ _ => (pv 1))) (pe_lst1 pa_nil) (nomark _)))))
      (pss_one (ps_ret (pe_un un_neg pe_int)))
      pss_nil)
    (pss_one (ps_ret (pe_ifExp (PW.pt (pw_and (pt_cmpR op_gt (pe_callB call_len_str (by rfl) T.n_len (by decide +kernel) (pa_cons (pv 0) pa_nil)) pe_int (nomark _)) (pw_and1 (pt_cmpR op_eq (pe_ix ix_str (pv 0) pe_int (fun _ _ => rfl)) pe_str (nomark _))))) (pe_un un_neg pe_int) (pe_callTy call_int_str (by rfl) T.n_int (by decide +kernel) (pa_cons (pv 0) pa_nil)))))), ?_⟩
  walk_at "rd"
  refine ⟨rfl, ?_⟩
  by_cases e0 : z = Str.ofString ""
  · rw [if_pos e0]
    have : digV z = -1 := by
      rw [e0]
      decide +kernel
    rw [← this]
    exact k H (Same.refl H)
  · rw [if_neg e0]
    have l0 : 0 < (sg z).length := List.length_pos_iff.mpr fun e => e0 (sg_inj (by rw [e]; decide +kernel))
    refine ⟨V.str z, rfl, z, rfl, fun D hD => ?_⟩
    refine lc_it walk_str (fun i H' => H' D = some (.lst ((((sg z).take i).filter fun c => !Fr.dig c).map fun c => V.str ⟨#[c]⟩)) ∧ Same H H') ⟨upd_same, Same.new hD⟩ (fun _ _ _ _ => trivial) ?_ ?_
    · rintro j x H2 H3 hj ⟨f, S⟩ ⟨rfl, c, hc, rfl⟩
      have hc' : (sg z)[j]? = some c := by
        show z.cps.toList[j]? = _
        rw [Array.getElem?_toList]
        exact hc
      refine ⟨rfl, ?_⟩
      walk_at "rd"
      refine ⟨c, rfl, ?_⟩
      rw [figs_in]
      rw [take_filter hc']
      have hlen : ((((sg z).take j).filter fun c => !Fr.dig c).map fun c => V.str ⟨#[c]⟩).length < sizeLine := by
        rw [List.length_map, sz]
        have h1 := List.length_filter_le (fun c => !Fr.dig c) ((sg z).take j)
        have h2 : ((sg z).take j).length ≤ (sg z).length := by
          rw [List.length_take]
          omega
        rw [sg_len] at h2
        omega
      cases hd : Fr.dig c with
      | true =>
        simp only [Bool.not_true, Bool.false_eq_true, ↓reduceIte, List.append_nil]
        exact ⟨f, S⟩
      | false =>
        simp only [Bool.not_false, ↓reduceIte]
        refine ⟨_, f, hlen, ?_, fun a u ha => by rw [upd_ne (ne_of_none ha hD)]; exact S a u ha⟩
        rw [List.map_append]
        rfl
    · rintro H2 ⟨f, S⟩
      refine ⟨by decide, fun p hp np => ?_⟩
      have e : (sg z).take z.cps.size = sg z := by
        apply List.take_of_length_le
        rw [sg_len]
        exact Nat.le_refl _
      rw [e] at f
      have npD : D ≠ p := ne_of_none f hp
      have S3 : Same H (upd H2 p (.lst [])) := Same.trans S (Same.new hp)
      obtain ⟨H3, e3⟩ : ∃ H3, upd H2 p (.lst []) = H3 := ⟨_, rfl⟩
      have f3 : H3 D = some (.lst (((sg z).filter fun c => !Fr.dig c).map fun c => V.str ⟨#[c]⟩)) := by
        rw [← e3, upd_ne npD]
        exact f
      have p3 : H3 p = some (.lst []) := by
        rw [← e3]
        exact upd_same
      rw [e3] at S3 ⊢
      refine r_ne_ones (fun c hc => az c (List.mem_filter.mp hc).1) f3 p3 ?_
      rw [filt_all]
      refine ⟨_, rfl, ?_⟩
      have kk := k H3 S3
      unfold digV at kk
      have ns : numS z = numL (sg z) := numS_eq z
      rw [ns] at kk
      unfold numL at kk
      cases ed : (sg z).all Fr.dig with
      | false =>
        have ed' : z.cps.toList.all Fr.dig = false := ed
        rw [ed] at kk
        rw [ed']
        simpa using kk
      | true =>
        have ed' : z.cps.toList.all Fr.dig = true := ed
        rw [ed] at kk
        rw [ed']
        simp only [l0, decide_true, Bool.true_and] at kk
        have it := int_dig (z := z) ed (by rw [sg_len] at l0; omega) (by omega)
        simp only [Bool.not_true, Bool.false_eq_true, ↓reduceIte]
        refine ⟨by omega, ?_⟩
        obtain ⟨c, r, ec⟩ : ∃ c r, sg z = c :: r := by
          match h : sg z, l0 with
          | c :: r, _ => exact ⟨c, r, rfl⟩
        have zl : z.length = r.length + 1 := by rw [← sg_len, ec]; rfl
        by_cases h1 : (1 : Int) < (z.length : Int)
        · rw [if_pos h1]
          refine ⟨z, 0, c, rfl, rfl, by omega, ?_, ?_⟩
          · have : z.cps.toList = c :: r := ec
            rw [this]
            exact atI_nat (j := 0) rfl
          · refine ⟨rfl, ?_⟩
            have n1 : ¬ (c :: r = [48]) := fun q => by
              have : r = [] := by
                simpa using (List.cons.inj q).2
              rw [this] at zl
              simp at zl
              omega
            rw [ec] at kk
            simp only [n1, decide_false, Bool.false_or, List.head?_cons, Option.some.injEq, Bool.not_eq_true', decide_eq_false_iff_not] at kk
            have cz : (V.str ⟨#[c]⟩ = V.str (Str.ofString "0")) ↔ c = 48 := by
              have z0 : Str.ofString "0" = ⟨#[48]⟩ := by decide +kernel
              rw [z0]
              constructor
              · intro q
                injection q with q
                injection q with q
                simpa using q
              · rintro rfl
                rfl
            by_cases hc : c = 48
            · rw [if_pos (cz.mpr hc)]
              rw [if_neg (by simpa using hc)] at kk
              exact kk
            · rw [if_neg (fun q => hc (cz.mp q))]
              rw [if_pos (by simpa using hc)] at kk
              exact ⟨_, it, by omega, kk⟩
        · rw [if_neg h1]
          have er : r = [] := List.eq_nil_of_length_eq_zero (by omega)
          rw [ec, er] at kk
          refine ⟨_, it, by omega, ?_⟩
          have : (decide ([c] = [48]) || !decide (([c] : List Nat).head? = some 48)) = true := by
            by_cases hc : c = 48 <;> simp [hc]
          rw [if_pos this] at kk
          exact kk
theorem ok_l_read (T : Tx K mg) : FnG P w K mg base 3 T.d_l_read.f T.d_l_read.fd ["_law_text"] spLRd := by
  refine okG0 T.d_l_read.F sc_l_read (fun vs H Q E h => ?_) (fun cdv A outer s H vs Q E hg hr h => ?_)
  · obtain ⟨z, rfl, _⟩ := h
    rfl
  obtain ⟨z, rfl, az, lz, k1, k2⟩ := h
  have sz : sizeLine = 16777216 := sizeLine_eq
  refine ⟨_, (pss_cons (ps_set (i := 1) sc_l_read.nd rfl (Or.inl rfl) (pe_bm PySem.F.plainAttrs_str PySem.F.slot_str_split PySem.F.type_str_split mt_splitMax (pv 0) (pa_cons pe_str (pa_cons pe_int pa_nil))))
    (pss_cons (ps_if (pt_cmpR op_ne (pe_callB call_len_seq (by rfl) T.n_len (by decide +kernel) (pa_cons (pv 1) pa_nil)) pe_int (nomark _))
      (pss_one (ps_ret pe_non))
      pss_nil)
    (pss_cons (ps_set (i := 2) sc_l_read.nd rfl (Or.inl rfl) (pe_tup (pa_cons (pe_cG (ok_l_digits T) T.d_l_digits.b takes0 hg (hr.mono (by decide)) T.d_l_digits.m T.d_l_digits.F.kp (pa_cons (pe_ix ix_list (pv 1) pe_int (fun _ _ => rfl)) pa_nil)) (pa_cons (pe_cG (ok_l_digits T) T.d_l_digits.b takes0 hg (hr.mono (by decide)) T.d_l_digits.m T.d_l_digits.F.kp (pa_cons (pe_ix ix_list (pv 1) pe_int (fun _ _ => rfl)) pa_nil)) (pa_cons (pe_ix ix_list (pv 1) pe_int (fun _ _ => rfl)) (pa_cons (pe_ix ix_list (pv 1) pe_int (fun _ _ => rfl)) pa_nil))))))
    (pss_one (ps_ret (pe_ifExp (pt_val (pe_cG (ok_l_is_line T) T.d_l_is_line.b takes0 hg (hr.mono (by decide)) T.d_l_is_line.m T.d_l_is_line.F.kp (pa_cons (pv 2) pa_nil))) (pv 2) pe_non)))))), ?_⟩
  walk_at "rd"
  refine ⟨rfl, _, _, ⟨rfl, rfl⟩, by decide +kernel, by decide, by decide, by omega, ?_⟩
  intro l hl
  obtain ⟨ps, hps⟩ : ∃ ps, Txt.splitMax z (Str.ofString " ") 3 = ps := ⟨_, rfl⟩
  rw [hps]
  have sub : ∀ p ∈ ps, p.length ≤ 600 ∧ Asc p := fun p hp => by
    have := splitMax_sub (x := z) (p := p) (k := 3) (by rw [hps]; exact hp)
    exact ⟨by omega, fun c hc => az c (this.2 c hc)⟩
  have S1 : Same H (upd H l (.lst (ps.map V.str))) := Same.new hl
  obtain ⟨H1, e1⟩ : ∃ H1, upd H l (.lst (ps.map V.str)) = H1 := ⟨_, rfl⟩
  have f1 : H1 l = some (.lst (ps.map V.str)) := by
    rw [← e1]
    exact upd_same
  rw [e1] at S1 ⊢
  refine ⟨_, rfl, _, .inl (.of f1), rfl, ?_⟩
  rw [List.length_map]
  by_cases h4 : ps.length = 4
  · obtain ⟨a, b, c, t, rfl⟩ : ∃ a b c t, ps = [a, b, c, t] := by
      match ps, h4 with
      | [a, b, c, t], _ => exact ⟨a, b, c, t, rfl⟩
    rw [if_neg (by show ¬ (decide ((4 : Int) = 4) = false); decide)]
    have f1' : SqL K H1 l [.str a, .str b, .str c, .str t] := .of f1
    have la := sub a (by simp)
    have lb := sub b (by simp)
    refine r_ixL f1' rfl ⟨a, rfl, la.2, la.1, fun H2 S2 => ?_⟩
    have f2 : SqL K H2 l [.str a, .str b, .str c, .str t] := .of (S2 _ _ f1)
    refine r_ixL f2 rfl ⟨b, rfl, lb.2, lb.1, fun H3 S3 => ?_⟩
    have f3 : SqL K H3 l [.str a, .str b, .str c, .str t] := .of (S3 _ _ (S2 _ _ f1))
    refine r_ixL f3 rfl ?_
    refine r_ixL f3 rfl ⟨by decide, fun p hp => ?_⟩
    have S13 : Same H H3 := S1.trans (S2.trans S3)
    have S14 := S13.trans (Same.new (o := .tup [.int (digV a), .int (digV b), .str c, .str t]) hp)
    have hpH := none_of S13 hp
    refine ⟨_, lineD (digV a) (digV b) c t, rfl, .tup upd_same (.cons (.int _) (.cons (.int _) (.cons (.str _) (.cons (.str _) .nil)))), ⟨fun z e => (by cases e), fun ds e z m => ?_⟩, fun H5 S5 => ⟨_, rfl, ?_⟩⟩
    · cases e
      have hm : z = c ∨ z = t := by simpa using m
      rcases hm with rfl | rfl
      · have := sub z (by simp)
        exact ⟨this.2, by omega⟩
      · have := sub z (by simp)
        exact ⟨this.2, by omega⟩
    · have ea : lnP z = if numS a = true ∧ numS b = true ∧ lineB (lineD (numV a) (numV b) c t) = true then some (numV a, numV b, c, t) else none := by
        unfold lnP
        rw [hps]
      have neg : ∀ (x : Int) (c t : Str), lineB (lineD (-1) x c t) = false ∧ lineB (lineD x (-1) c t) = false := fun x c t => by
        constructor
        · rfl
        · show (cntB (.int x) && (false && _)) = false
          simp
      cases na : numS a with
      | false =>
        have : digV a = -1 := by
          unfold digV
          rw [na]
          rfl
        rw [this, (neg _ c t).1]
        exact k1 (by rw [ea, na]; simp) _ (S14.trans (by rw [this] at S5; exact this ▸ S5))
      | true =>
        cases nb : numS b with
        | false =>
          have : digV b = -1 := by
            unfold digV
            rw [nb]
            rfl
          rw [this, (neg _ c t).2]
          exact k1 (by rw [ea, nb]; simp) _ (S14.trans S5)
        | true =>
          have va : digV a = numV a := by
            unfold digV
            rw [na]
            rfl
          have vb : digV b = numV b := by
            unfold digV
            rw [nb]
            rfl
          cases el : lineB (lineD (digV a) (digV b) c t) with
          | false =>
            rw [va, vb] at el
            exact k1 (by rw [ea, el]; simp) _ (S14.trans S5)
          | true =>
            have f5 := S5 _ _ (upd_same (H := H3) (a := p) (o := .tup [.int (digV a), .int (digV b), .str c, .str t]))
            refine k2 (digV a) (digV b) c t ?_ p _ hpH (S14.trans S5) f5
            rw [va, vb] at el ⊢
            rw [ea, na, nb, el]
            simp
  · rw [if_pos (by simpa using (show ¬ ((ps.length : Int) = 4) from by omega))]
    refine k1 ?_ H1 S1
    unfold lnP
    rw [hps]
    split
    · exact absurd rfl h4
    · rfl
end
end K01


namespace K01
open PySem L2 Nv

/-! draws -/
/-- the box of draws at p, of which at most N have been mixed -/
def BoxAt (H : Hp) (p : Addr) (N : Nat) : Prop := ∃ (n : Int) (b : Bool) (m c : Int), H p = some (.lst [.int n, .bl b, .int m, .int c]) ∧ 0 ≤ m ∧ m < 2147483648 ∧ 0 ≤ c ∧ c ≤ (N : Int)
theorem BoxAt.mono {H H' : Hp} {p : Addr} {N : Nat} (e : Same H H') (h : BoxAt H p N) : BoxAt H' p N := by
  obtain ⟨n, b, m, c, h, r⟩ := h
  exact ⟨n, b, m, c, e _ _ h, r⟩
theorem BoxAt.le {H : Hp} {p : Addr} {N M : Nat} (h : BoxAt H p N) (l : N ≤ M) : BoxAt H p M := by
  obtain ⟨n, b, m, c, h, r1, r2, r3, r4⟩ := h
  exact ⟨n, b, m, c, h, r1, r2, r3, by omega⟩
def spCell (K : PySem.W.Frag) : Sp := fun vs H Q _ => ∃ (a : Addr) (ns : List Int) (k : Int), vs = [.ref a, .int k] ∧ SqL K H a (ns.map V.int) ∧ 0 ≤ k ∧ k ≤ 1000 ∧ ∀ i H', Same H H' → Q (.int i) H'
def spBox : Sp := fun vs H Q _ => ∃ g, vs = [.int g] ∧ ∀ p H', H p = none → Same H H' → BoxAt H' p 0 → Q (.ref p) H'
def spTake : Sp := fun vs H Q _ => ∃ p m N, vs = [.ref p, .int m] ∧ BoxAt H p N ∧ N ≤ 1000000 ∧ 0 < m ∧ m < 1073741824 ∧
  ∀ d H', 0 ≤ d → d < m → BoxAt H' p (N + 1) → Ext1 p H H' → Q (.int d) H'
theorem fmod_in (a : Int) {m : Int} (h : 0 < m) : 0 ≤ a.fmod m ∧ a.fmod m < m := by
  rw [Int.fmod_eq_emod_of_nonneg a (Int.le_of_lt h)]
  exact ⟨Int.emod_nonneg a (by omega), Int.emod_lt_of_pos a h⟩
theorem at0 {α : Type} {xs : List α} {v : α} (h : xs[0]? = some v) : atI xs 0 = some v := atI_nat (j := 0) h
theorem at1 {α : Type} {xs : List α} {v : α} (h : xs[1]? = some v) : atI xs 1 = some v := atI_nat (j := 1) h
theorem at2 {α : Type} {xs : List α} {v : α} (h : xs[2]? = some v) : atI xs 2 = some v := atI_nat (j := 2) h
theorem at3 {α : Type} {xs : List α} {v : α} (h : xs[3]? = some v) : atI xs 3 = some v := atI_nat (j := 3) h
section
variable {P : Program} {w : World} {K : PySem.W.Frag} {mg : Str → Option Value} {base : Heap}
theorem ok_l_cell (T : Tx K mg) : FnG P w K mg base 1 T.d_l_cell.f T.d_l_cell.fd ["_law_script", "_law_k"] (spCell K) := by
  refine okG0 T.d_l_cell.F sc_l_cell (fun vs H Q E h => ?_) (fun cdv A outer s H vs Q E hg hr h => ?_)
  · obtain ⟨a, ns, k, rfl, _⟩ := h
    rfl
  obtain ⟨a, ns, k, rfl, hS, h0, h1, q⟩ := h
  refine ⟨_, (pss_one (ps_ret (pe_ifExp (pt_cmpR op_lt (pv 1) (pe_callB call_len_seq (by rfl) T.n_len (by decide +kernel) (pa_cons (pv 0) pa_nil)) (nomark _)) (pe_ix ix_list (pv 0) (pv 1) (fun _ _ => rfl)) (pe_op op_add (pe_op op_mul pe_int (pv 1)) (pe_op op_modN (pe_callB (cr_sum rfl) (by rfl) T.n_sum (by decide +kernel) (pa_cons (pe_slice sl_list (pv 0) po_none (po_some pe_int)) pa_nil)) pe_int))))), ?_⟩
  walk_at "rd"
  refine ⟨_, .inl hS, ?_⟩
  walk_at "rd"
  by_cases hk : k < ((ns.map V.int).length : Int)
  · rw [if_pos hk]
    obtain ⟨j, rfl⟩ : ∃ j : Nat, k = (j : Int) := ⟨k.toNat, by omega⟩
    have hj : j < ns.length := by
      rw [List.length_map] at hk
      omega
    refine r_ixL hS (atI_nat (j := j) (v := V.int ns[j]) (by simp [hj])) ?_
    exact q _ H (Same.refl H)
  · rw [if_neg hk]
    refine ⟨.inl (by decide), a, _, rfl, hS, fun p hp => ?_⟩
    walk_at "rd"
    have hc : cutV (ns.map V.int) none (some 1) = ((ns.drop (HT.sIx (ns.map V.int).length 0 none)).take (HT.sIx (ns.map V.int).length (ns.map V.int).length (some 1) - HT.sIx (ns.map V.int).length 0 none)).map V.int := by
      unfold cutV
      rw [List.map_take, List.map_drop]
    refine ⟨p, _, rfl, .inl (.inl (by rw [hc] at *; exact upd_same)), ?_⟩
    walk_at "rd"
    refine ⟨by decide, ?_⟩
    exact q _ _ (Same.new hp)
theorem ok_l_box (T : Tx K mg) : FnG P w K mg base 1 T.d_l_box.f T.d_l_box.fd ["_law_great"] spBox := by
  refine okG0 T.d_l_box.F sc_l_box (fun vs H Q E h => ?_) (fun cdv A outer s H vs Q E hg hr h => ?_)
  · obtain ⟨g, rfl, _⟩ := h
    rfl
  obtain ⟨g, rfl, q⟩ := h
  refine ⟨_, (pss_one (ps_ret (pe_lst1 (pa_cons (pe_callB call_abs (by rfl) T.n_abs (by decide +kernel) (pa_cons (pv 0) pa_nil)) (pa_cons (pe_cmpR op_ge (pe_callB call_abs (by rfl) T.n_abs (by decide +kernel) (pa_cons (pv 0) pa_nil)) (pe_op op_pow pe_int pe_int) (nomark _)) (pa_cons (pe_op op_modN (pe_callTy call_intI (by rfl) T.n_int (by decide +kernel) (pa_cons (pe_callB call_abs (by rfl) T.n_abs (by decide +kernel) (pa_cons (pv 0) pa_nil)) pa_nil)) pe_int) (pa_cons pe_int pa_nil))))))), ?_⟩
  walk_at "rd"
  refine ⟨by unfold CPow; decide, by decide, by decide, fun p hp _ => ?_⟩
  have f := fmod_in (if g < 0 then -g else g) (m := 2147483629) (by decide)
  exact q p _ hp (Same.new hp) ⟨_, _, _, _, upd_same, f.1, by omega, by decide, by decide⟩
theorem cmul_r {a b : Int} (h1 : -(2 ^ 64) < b) (h2 : b < 2 ^ 64) : CMul a b := .inr ⟨h1, h2⟩
theorem cmul_l {a b : Int} (h1 : -(2 ^ 64) < a) (h2 : a < 2 ^ 64) : CMul a b := .inl ⟨h1, h2⟩
theorem cpow_of {a e : Int} (h0 : 0 ≤ e) (h1 : e ≤ 1000000) (h2 : 0 ≤ a) (h3 : a < 2 ^ 64) : CPow a e := ⟨h0, h1, by omega⟩
theorem setIx {n : Nat} {j : Nat} (h : j < n) : ixN n (j : Int) = some j := by
  unfold ixN
  rw [if_pos (by omega), if_pos (by omega)]
  simp
local macro_rules | `(tactic| walk_at "mix") => `(tactic| (
  refine r_ixL (SqL.of (by assumption)) (at3 rfl) ?_
  walk_at "rd"
  refine r_setL (by assumption) (setIx (j := 3) (by show 3 < 4; decide)) ?_
  walk_at "rd"
  refine r_ixL (SqL.of upd_same) (at2 rfl) ?_
  walk_at "rd"
  refine r_ixL (SqL.of upd_same) (at3 rfl) ?_
  walk_at "rd"
  refine ⟨cmul_l (by decide) (by decide), cpow_of (by decide) (by decide) (by omega) (by omega), by decide, cmul_r (by decide) (by decide), ?_⟩
  refine r_ixL (SqL.of upd_same) (at3 rfl) ?_
  walk_at "rd"
  refine ⟨cmul_l (by decide) (by decide), cpow_of (by decide) (by decide) ?_ ?_, by decide, ⟨by decide, by decide⟩, by omega, ?_⟩))
theorem ok_l_take (T : Tx K mg) : FnG P w K mg base 1 T.d_l_take.f T.d_l_take.fd ["_law_box_here", "_law_many"] spTake := by
  refine okG0 T.d_l_take.F sc_l_take (fun vs H Q E h => ?_) (fun cdv A outer s H vs Q E hg hr h => ?_)
  · obtain ⟨p, m, N, rfl, _⟩ := h
    rfl
  obtain ⟨p, m, N, rfl, ⟨n, b, mm, c, hp, h1, h2, h3, h4⟩, hN, hm0, hm1, q⟩ := h
  refine ⟨_, (pss_cons (ps_if (PW.pt (pw_and (pt_val (pe_ix ix_list (pv 0) pe_int (fun _ _ => rfl))) (pw_and1 (pt_cmpR op_gt (pe_ix ix_list (pv 0) pe_int (fun _ _ => rfl)) pe_int (nomark _)))))
      (pss_cons (ps_set (i := 2) sc_l_take.nd rfl (Or.inl rfl) (pe_op op_modN (pe_callTy call_intI (by rfl) T.n_int (by decide +kernel) (pa_cons (pe_ix ix_list (pv 0) pe_int (fun _ _ => rfl)) pa_nil)) (pv 1)))
      (pss_cons (ps_asg (pe_op op_fdivN (pe_ix ix_list (pv 0) pe_int (fun _ _ => rfl)) (pv 1)) (pg_sub (pv 0) pe_int set_list))
      (pss_one (ps_ret (pv 2)))))
      pss_nil)
    (pss_cons (ps_asg (pe_op op_add (pe_ix ix_list (pv 0) pe_int (fun _ _ => rfl)) pe_int) (pg_sub (pv 0) pe_int set_list))
    (pss_cons (ps_set (i := 3) sc_l_take.nd rfl (Or.inl rfl) (pe_op op_modN (pe_callTy call_intI (by rfl) T.n_int (by decide +kernel) (pa_cons (pe_op op_pow (pe_op op_add (pe_op op_add (pe_ix ix_list (pv 0) pe_int (fun _ _ => rfl)) (pe_op op_mul pe_int (pe_ix ix_list (pv 0) pe_int (fun _ _ => rfl)))) pe_int) pe_int) pa_nil)) pe_int))
    (pss_one (ps_ret (pe_op op_modN (pe_op op_fdivN (pe_op op_modN (pe_callTy call_intI (by rfl) T.n_int (by decide +kernel) (pa_cons (pe_op op_pow (pe_op op_add (pe_op op_mul (pv 3) pe_int) (pe_op op_mul pe_int (pe_ix ix_list (pv 0) pe_int (fun _ _ => rfl)))) pe_int) pa_nil)) pe_int) pe_int) (pv 1))))))), ?_⟩
  walk_at "rd"
  refine r_ixL (SqL.of hp) (at1 rfl) ?_
  walk_at "rd"
  have f1 : ∀ a : Int, 0 ≤ a.fmod 2147483647 ∧ a.fmod 2147483647 < 2147483647 := fun a => fmod_in a (by decide)
  have fin : ∀ x : Int, Q (.int (x.fmod m)) (upd H p (.lst [.int n, .bl b, .int mm, .int (c + 1)])) := fun x =>
    q _ _ (fmod_in x hm0).1 (fmod_in x hm0).2 ⟨_, _, _, _, upd_same, h1, h2, by omega, by omega⟩ Ext1.upd
  by_cases hb : b = true
  · rw [if_pos hb]
    refine r_ixL (SqL.of hp) (at0 rfl) ?_
    walk_at "rd"
    by_cases hn : 0 < n
    · rw [if_pos hn]
      refine r_ixL (SqL.of hp) (at0 rfl) ?_
      walk_at "rd"
      refine ⟨by omega, ?_⟩
      refine r_ixL (SqL.of hp) (at0 rfl) ?_
      walk_at "rd"
      refine ⟨⟨by omega, by omega⟩, ?_⟩
      refine r_setL hp (setIx (j := 0) (by show 0 < 4; decide)) ?_
      exact q _ _ (fmod_in n hm0).1 (fmod_in n hm0).2 ⟨_, _, _, _, upd_same, h1, h2, h3, by omega⟩ Ext1.upd
    · rw [if_neg hn]
      walk_at "mix"
      · have := f1 ((mm + 15485863 * (c + 1) + 179424673) ^ (5 : Int).toNat)
        omega
      · have := f1 ((mm + 15485863 * (c + 1) + 179424673) ^ (5 : Int).toNat)
        omega
      · exact fin _
  · rw [if_neg hb]
    walk_at "mix"
    · have := f1 ((mm + 15485863 * (c + 1) + 179424673) ^ (5 : Int).toNat)
      omega
    · have := f1 ((mm + 15485863 * (c + 1) + 179424673) ^ (5 : Int).toNat)
      omega
    · exact fin _
end
end K01


namespace K01
open PySem L2 Nv

def isLD : PyData → Bool
  | .list _ => true
  | .dict _ => true
  | _ => false
/-- a copy of a list or a dict, all else itself; what it stands in is what the value stands in, or new -/
def spCopy : Sp := fun vs H Q _ => ∃ v d Hs, vs = [v] ∧ Same Hs H ∧ DV Hs v d ∧
  ∀ u H' Hs', Same H H' → Same Hs' H' → Same Hs Hs' → (∀ a o, Hs' a = some o → Hs a ≠ none ∨ H a = none) → DV Hs' u d → (isLD d = true → ∃ a, u = .ref a ∧ H a = none) → Q u H'
theorem sub_none {H H' : Hp} {a : Addr} (s : Same H H') (h : H' a = none) : H a = none := none_of s h
def flatD : PyData → Bool
  | .none => true
  | .bool _ => true
  | .int _ => true
  | .str _ => true
  | _ => false
def marked : PyData → PyData
  | .list ds => .list (ds ++ [.str (Str.ofString "more")])
  | .dict ds => .dict (ds ++ [(.str (Str.ofString "more"), .int 1)])
  | d => d
/-- what may be added to -/
structure Mrk (d : PyData) : Prop where
  sh : Shw 100000 40 d
  shm : Shw 390000 60 (marked d)
  li : ∀ ds, d = .list ds → ds.length ≤ 1000 ∧ ∀ x ∈ ds, flatD x = true
  di : ∀ ds, d = .dict ds → ds = [] ∨ ∃ k x, ds = [(.str k, x)] ∧ k ≠ Str.ofString "more" ∧ (flatD x = true ∨ ∃ es, x = .tuple es ∧ ∀ e ∈ es, flatD e = true)
def spVery : Sp := fun vs H Q _ => ∃ v d, vs = [v, v] ∧ DV H v d ∧ Mrk d ∧ ∀ H', (∀ a o, (isLD d = true → v ≠ .ref a) → H a = some o → H' a = some o) → Q (.bl true) H'
theorem dvk_one {H : Hp} {kvs : List (Key × V)} {k : Str} {x : PyData} (h : DVk H kvs [(PyData.str k, x)]) : ∃ v, kvs = [(.inr k, v)] ∧ DV H v x := by
  generalize e : [(PyData.str k, x)] = ds at h
  cases h with
  | nil => cases e
  | @cons k' v vs d ds a r =>
    injection e with e1 e2
    injection e1 with e3 e4
    subst e4
    subst e2
    cases r
    cases k' with
    | inl i => cases e3
    | inr y =>
      have : k = y := by
        have : PyData.str k = PyData.str y := e3
        injection this
      subst this
      exact ⟨v, rfl, a⟩
theorem dvs_snoc {H : Hp} {v : V} {d : PyData} : ∀ {xs : List V} {ds : List PyData}, DVs H xs ds → DV H v d → DVs H (xs ++ [v]) (ds ++ [d])
  | _, _, .nil, h => .cons h .nil
  | _, _, .cons a r, h => .cons a (dvs_snoc r h)
theorem dv_flat {H H' : Hp} {v : V} {d : PyData} (h : DV H v d) (f : flatD d = true) : DV H' v d := by
  cases h with
  | non => exact .non
  | bl b => exact .bl b
  | int i => exact .int i
  | str z => exact .str z
  | _ => cases f
theorem dvs_flat {H H' : Hp} : ∀ {xs : List V} {ds : List PyData}, DVs H xs ds → (∀ x ∈ ds, flatD x = true) → DVs H' xs ds
  | _, _, .nil, _ => .nil
  | _, _, .cons a r, f => .cons (dv_flat a (f _ (by simp))) (dvs_flat r fun x hx => f x (by simp [hx]))
section
variable {P : Program} {w : World} {K : PySem.W.Frag} {mg : Str → Option Value} {base : Heap}
theorem ok_l_equal (T : Tx K mg) : FnG P w K mg base 1 T.d_l_equal.f T.d_l_equal.fd ["_law_told_here", "_law_due"] (spEq K) := by
  refine okG0 T.d_l_equal.F sc_l_equal (fun vs H Q E h => ?_) (fun cdv A outer s H vs Q E hg hr h => ?_)
  · obtain ⟨v, u, d, rfl, _⟩ := h
    rfl
  obtain ⟨v, u, d, rfl, a, b, hv, hu, f, k⟩ := h
  refine ⟨_, (pss_one (ps_ret (pe_and (pe_cmpR (op_eqD hr.units) (pv 0) (pv 1) (nomark _)) (pe_one (pe_cmpR op_eq (pe_callB (call_reprD hg hr.units) (by rfl) T.n_repr (by decide +kernel) (pa_cons (pv 0) pa_nil)) (pe_callB (call_reprD hg hr.units) (by rfl) T.n_repr (by decide +kernel) (pa_cons (pv 1) pa_nil)) (nomark _)))))), ?_⟩
  walk_at "rd"
  refine r_eqF a b f ?_
  walk_at "rd"
  refine r_reprF a hv f ?_
  refine r_reprF b hu f ?_
  refine ⟨by simp [scal], ?_⟩
  simpa using k
theorem ok_l_copy (T : Tx K mg) : FnG P w K mg base 1 T.d_l_copy.f T.d_l_copy.fd ["_law_value"] spCopy := by
  refine okG0 T.d_l_copy.F sc_l_copy (fun vs H Q E h => ?_) (fun cdv A outer s H vs Q E hg hr h => ?_)
  · obtain ⟨v, d, Hs, rfl, _⟩ := h
    rfl
  obtain ⟨v, d, Hs, rfl, sb, hd0, k⟩ := h
  have hd := hd0.mono sb
  refine ⟨_, (pss_cons (ps_if (pt_val (pe_callB call_isiA (by rfl) T.n_isinstance (by decide +kernel) (pa_cons (pv 0) (pa_cons (pe_bltn (v := .ty "list") (by rfl) T.n_list (by decide +kernel) rfl) pa_nil))))
      (pss_one (ps_ret (pe_callTy call_list_new (by rfl) T.n_list (by decide +kernel) (pa_cons (pv 0) pa_nil))))
      pss_nil)
    (pss_one (ps_ret (pe_ifExp (pt_val (pe_callB call_isiA (by rfl) T.n_isinstance (by decide +kernel) (pa_cons (pv 0) (pa_cons (pe_bltn (v := .ty "dict") (by rfl) T.n_dict (by decide +kernel) rfl) pa_nil)))) (pe_callTy call_dictD (by rfl) T.n_dict (by decide +kernel) (pa_cons (pv 0) pa_nil)) (pv 0))))), ?_⟩
  walk_at "rd"
  refine r_isiD hd (kit_list d) ?_
  have self : isLD d = false → Q v H := fun e => k v H Hs (Same.refl H) sb (Same.refl Hs) (fun a o h => .inl (by rw [h]; simp)) hd0 (fun q => by rw [e] at q; cases q)
  cases hd0 with
  | @lst a xs ds ha na hrs =>
    simp only [isL]
    walk_at "rd"
    refine ⟨xs, .inl (.of (sb _ _ ha)), fun l hl nl => ?_⟩
    have hl' := none_of sb hl
    refine k _ _ (upd Hs l (.lst xs)) (Same.new hl) ?_ (Same.new hl') ?_ (.lst upd_same nl (hrs.mono (Same.new hl'))) (fun _ => ⟨l, rfl, hl⟩)
    · intro b o hb
      by_cases e : b = l
      · subst e
        rw [upd_same] at hb ⊢
        exact hb
      · rw [upd_ne e] at hb ⊢
        exact sb _ _ hb
    · intro b o hb
      by_cases e : b = l
      · subst e
        exact .inr hl
      · rw [upd_ne e] at hb
        exact .inl (by rw [hb]; simp)
  | @dct a kvs ds ha hrs =>
    simp only [isL]
    walk_at "rd"
    refine r_isiD hd (kit_dict _) ?_
    simp only [isD]
    walk_at "rd"
    refine ⟨_, .inl (sb _ _ ha), fun l hl => ?_⟩
    have hl' := none_of sb hl
    refine k _ _ (upd Hs l (.dK kvs)) (Same.new hl) ?_ (Same.new hl') ?_ (.dct upd_same (hrs.mono (Same.new hl'))) (fun _ => ⟨l, rfl, hl⟩)
    · intro b o hb
      by_cases e : b = l
      · subst e
        rw [upd_same] at hb ⊢
        exact hb
      · rw [upd_ne e] at hb ⊢
        exact sb _ _ hb
    · intro b o hb
      by_cases e : b = l
      · subst e
        exact .inr hl
      · rw [upd_ne e] at hb
        exact .inl (by rw [hb]; simp)
  | non =>
    simp only [isL]
    walk_at "rd"
    refine r_isiD hd (kit_dict _) ?_
    simp only [isD]
    walk_at "rd"
    exact self rfl
  | bl b =>
    simp only [isL]
    walk_at "rd"
    refine r_isiD hd (kit_dict _) ?_
    simp only [isD]
    walk_at "rd"
    exact self rfl
  | int i =>
    simp only [isL]
    walk_at "rd"
    refine r_isiD hd (kit_dict _) ?_
    simp only [isD]
    walk_at "rd"
    exact self rfl
  | str z =>
    simp only [isL]
    walk_at "rd"
    refine r_isiD hd (kit_dict _) ?_
    simp only [isD]
    walk_at "rd"
    exact self rfl
  | @tup a xs ds ha hrs =>
    simp only [isL]
    walk_at "rd"
    refine r_isiD hd (kit_dict _) ?_
    simp only [isD]
    walk_at "rd"
    exact self rfl
theorem okh_l_very (T : Tx K mg) : FnGH P w K mg base 1 T.d_l_very.f T.d_l_very.fd ["_law_given", "_law_value"] spVery := by
  refine okGH T.d_l_very.F sc_l_very (fun vs H Q E h => ?_) (fun cdv A outer s H vs Q E p hg hr0 h => ?_)
  · obtain ⟨v, d, rfl, _⟩ := h
    rfl
  obtain ⟨v, d, rfl, hd, hm, k⟩ := h
  have hr : HU (A.deeper (PyProof.Rows.envOfC "_law_very" (defScope s_l_very) s.heap.objs.size T.d_l_very.f cdv)) := ⟨roomHU hr0⟩
  refine ⟨_, (pss_cons (ps_if (pt_val (pe_callB call_isiA (by rfl) T.n_isinstance (by decide +kernel) (pa_cons (pv 1) (pa_cons (pe_bltn (v := .ty "list") (by rfl) T.n_list (by decide +kernel) rfl) pa_nil))))
      (pss_one (ps_expr (pe_bm PySem.F.plainAttrs_list PySem.F.slot_list_append PySem.F.type_list_append mt_append (pv 1) (pa_cons pe_str pa_nil))))
      pss_nil)
    (pss_cons (ps_if (pt_val (pe_callB call_isiA (by rfl) T.n_isinstance (by decide +kernel) (pa_cons (pv 1) (pa_cons (pe_bltn (v := .ty "dict") (by rfl) T.n_dict (by decide +kernel) rfl) pa_nil))))
      (pss_one (ps_asg pe_int (pg_sub (pv 1) pe_str (set_dict (Nat.lt_of_le_of_lt (Nat.add_le_add_left (by decide) _) hr.units)))))
      pss_nil)
    (pss_one (ps_ret (pe_cmpR op_eq (pe_callB (call_reprA hg hr.units) (by rfl) T.n_repr (by decide +kernel) (pa_cons (pv 0) pa_nil)) (pe_callB (call_reprA hg hr.units) (by rfl) T.n_repr (by decide +kernel) (pa_cons (pv 1) pa_nil)) (nomark _)))))), ?_⟩
  walk_at "rd"
  have same : ∀ (H1 : Hp) (d1 : PyData), DV H1 v d1 → Shw 390000 60 d1 → (∀ a o, (isLD d = true → v ≠ .ref a) → H a = some o → H1 a = some o) →
      rReprA [v] H1 (fun x H2 => rReprA [v] H2 fun y H3 => scal x y = true ∧ Q (V.bl (decide (x = y))) H3) := by
    intro H1 d1 h1 sh ex
    refine r_reprA h1 sh (by omega) (by omega) ?_
    refine r_reprA h1 sh (by omega) (by omega) ?_
    refine ⟨rfl, ?_⟩
    rw [decide_eq_true rfl]
    exact k H1 ex
  have same0 : isLD d = false → rReprA [v] H (fun x H2 => rReprA [v] H2 fun y H3 => scal x y = true ∧ Q (V.bl (decide (x = y))) H3) := fun e =>
    same H d hd (hm.sh.le (by decide) (by decide)) (fun a o _ h => h)
  cases hd with
  | @lst a xs ds ha na hrs =>
    have l1 := hm.li ds rfl
    refine r_isiD (K := K) (DV.lst ha na hrs) (kit_list _) ?_
    simp only [isL]
    walk_at "rd"
    refine ⟨.inl ⟨rfl, _, .inl (.inl ha)⟩, a, xs, _, rfl, rfl, ha, ?_, ?_⟩
    · have := hrs.len
      have sz : sizeLine = 16777216 := sizeLine_eq
      omega
    · have h2 : DV (upd H a (.lst (xs ++ [V.str (Str.ofString "more")]))) (.ref a) (marked (.list ds)) := .lst upd_same na (dvs_snoc (dvs_flat hrs l1.2) (.str _))
      refine r_isiD (K := K) h2 (kit_dict _) ?_
      simp only [marked, isD]
      walk_at "rd"
      refine same _ _ h2 hm.shm fun b o nb hb => ?_
      rw [upd_ne (fun e => nb rfl (by rw [e]))]
      exact hb
  | @dct a kvs ds ha hrs =>
    refine r_isiD (K := K) (DV.dct ha hrs) (kit_list _) ?_
    simp only [isL]
    walk_at "rd"
    refine r_isiD (K := K) (DV.dct ha hrs) (kit_dict _) ?_
    simp only [isD]
    walk_at "rd"
    have fin : ∀ kvs', putK kvs (.inr (Str.ofString "more")) (V.int 1) = kvs' → DVk (upd H a (.dK kvs')) kvs' (ds ++ [(.str (Str.ofString "more"), .int 1)]) → kvs.length < 5 →
        rSetD (V.ref a) (V.str (Str.ofString "more")) (V.int 1) H fun H3 => rReprA [V.ref a] H3 fun x H1 => rReprA [V.ref a] H1 fun y H2 => scal x y = true ∧ Q (V.bl (decide (x = y))) H2 := by
      intro kvs' e h2 hl
      refine ⟨a, _, rfl, DPut.k (k := .inr (Str.ofString "more")) ha (by rw [sizeLine_eq]; omega), ?_⟩
      rw [e]
      refine same _ (marked (.dict ds)) (.dct upd_same h2) hm.shm fun b o nb hb => ?_
      rw [upd_ne (fun e => nb rfl (by rw [e]))]
      exact hb
    rcases hm.di ds rfl with rfl | ⟨ky, x, rfl, nk, fx⟩
    · cases hrs
      exact fin _ rfl (.cons (k := .inr (Str.ofString "more")) (.int 1) .nil) (by decide)
    · obtain ⟨vx, rfl, hx⟩ := dvk_one hrs
      have pe : putK [((Sum.inr ky : Key), vx)] (.inr (Str.ofString "more")) (V.int 1) = [(.inr ky, vx), (.inr (Str.ofString "more"), .int 1)] := by
        unfold putK
        simp [nk]
      refine fin _ pe (.cons (k := .inr ky) ?_ (.cons (k := .inr (Str.ofString "more")) (.int 1) .nil)) (by show 1 < 5; decide)
      rcases fx with fx | ⟨es, rfl, fe⟩
      · exact dv_flat hx fx
      · cases hx with
        | @tup b ys es hb hys =>
          refine .tup ?_ (dvs_flat hys fe)
          rw [upd_ne (fun e => by rw [e, ha] at hb; cases hb)]
          exact hb
  | non =>
    refine r_isiD (K := K) DV.non (kit_list _) ?_
    simp only [isL]
    walk_at "rd"
    refine r_isiD (K := K) DV.non (kit_dict _) ?_
    simp only [isD]
    walk_at "rd"
    exact same0 rfl
  | bl b =>
    refine r_isiD (K := K) (DV.bl b) (kit_list _) ?_
    simp only [isL]
    walk_at "rd"
    refine r_isiD (K := K) (DV.bl b) (kit_dict _) ?_
    simp only [isD]
    walk_at "rd"
    exact same0 rfl
  | int b =>
    refine r_isiD (K := K) (DV.int b) (kit_list _) ?_
    simp only [isL]
    walk_at "rd"
    refine r_isiD (K := K) (DV.int b) (kit_dict _) ?_
    simp only [isD]
    walk_at "rd"
    exact same0 rfl
  | str b =>
    refine r_isiD (K := K) (DV.str b) (kit_list _) ?_
    simp only [isL]
    walk_at "rd"
    refine r_isiD (K := K) (DV.str b) (kit_dict _) ?_
    simp only [isD]
    walk_at "rd"
    exact same0 rfl
  | @tup a xs ds ha hrs =>
    refine r_isiD (K := K) (DV.tup ha hrs) (kit_list _) ?_
    simp only [isL]
    walk_at "rd"
    refine r_isiD (K := K) (DV.tup ha hrs) (kit_dict _) ?_
    simp only [isD]
    walk_at "rd"
    exact same0 rfl
end
end K01


namespace K01
open PySem L2 Nv

theorem join_sgs (l : List Nat) : Txt.join (Str.ofString "") (l.map fun c => (⟨#[c]⟩ : Str)) = tx l := join_signs l
def alpha : Str := " !\"#$&'()*+,-./0123456789:;<=>?@ABCDEFGHIJKLMNOPQRSTUVWXYZ[\\]^_`abcdefghijklmnopqrstuvwxyz{|}~"
theorem alpha_pl : Pl alpha := pl_of (by decide +kernel)
theorem alpha_at {d : Int} (h0 : 0 ≤ d) (h1 : d < 94) : ∃ c, pc c = true ∧ atI alpha.cps.toList d = some c := by
  obtain ⟨j, rfl⟩ : ∃ j : Nat, d = (j : Int) := ⟨d.toNat, by omega⟩
  have hj : j < alpha.cps.toList.length := by
    have : alpha.cps.toList.length = 94 := by decide +kernel
    omega
  exact ⟨alpha.cps.toList[j], alpha_pl _ (List.getElem_mem hj), atI_nat (by simp [hj])⟩
def abc : Str := "abcdefghijklmnopqrstuvwxyz"
theorem abc_low : ∀ c ∈ abc.cps.toList, low c = true := by decide +kernel
theorem abc_at {d : Int} (h0 : 0 ≤ d) (h1 : d < 26) : ∃ c, low c = true ∧ atI abc.cps.toList d = some c := by
  obtain ⟨j, rfl⟩ : ∃ j : Nat, d = (j : Int) := ⟨d.toNat, by omega⟩
  have hj : j < abc.cps.toList.length := by
    have : abc.cps.toList.length = 26 := by decide +kernel
    omega
  exact ⟨abc.cps.toList[j], abc_low _ (List.getElem_mem hj), atI_nat (by simp [hj])⟩
/-- a text of m drawn signs -/
def spSome (g : Nat → Bool) : Sp := fun vs H Q _ => ∃ p, ∃ (m : Nat), ∃ N, vs = [.ref p, .int (m : Int)] ∧ BoxAt H p N ∧ N ≤ 900000 ∧ m ≤ 64 ∧
  ∀ l H', l.length = m → (∀ c ∈ l, g c = true) → BoxAt H' p (N + m) → Ext1 p H H' → Q (.str (tx l)) H'
def spNumber : Sp := fun vs H Q _ => ∃ p N, vs = [.ref p] ∧ BoxAt H p N ∧ N ≤ 900000 ∧ ∀ i H', 0 ≤ i → i ≤ 10 ^ 20 → BoxAt H' p (N + 2) → Ext1 p H H' → Q (.int i) H'
section
variable {P : Program} {w : World} {K : PySem.W.Frag} {mg : Str → Option Value} {base : Heap}
theorem ok_l_any (T : Tx K mg) : FnG P w K mg base 2 T.d_l_any.f T.d_l_any.fd ["_law_box_here", "_law_many"] (spSome pc) := by
  refine okG0 T.d_l_any.F sc_l_any (fun vs H Q E h => ?_) (fun cdv A outer s H vs Q E hg hr h => ?_)
  · obtain ⟨p, m, N, rfl, _⟩ := h
    rfl
  obtain ⟨p, mn, N, rfl, hp4, hN, hm, k⟩ := h
  refine ⟨_, (pss_cons (ps_set (i := 2) sc_l_any.nd rfl (Or.inr rfl) pe_str)
    (pss_one (ps_ret (pe_join pe_str (pe_lc (own := [("_law_turn", 3)]) (g := gName 3) (tt := tYes) rfl sc_l_any.nd (pi_range1 (by rfl) T.n_range (pa_cons (pv 1) pa_nil)) (blkOk_by (N := ["_law_box_here", "_law_many", "_law_signs", "_law_turn"]) (sc := defScope s_l_any) (by decide +kernel)) (fun _ _ _ _ _ => pg_name (i := 3) sc_l_any.nd rfl (Or.inl rfl)) (fun _ _ _ _ _ => pts_nil) (fun _ _ _ _ _ => (pe_ix ix_str (pv 2) (pe_cG (ok_l_take T) T.d_l_take.b takes0 hg (hr.mono (by decide)) T.d_l_take.m T.d_l_take.F.kp (pa_cons (pv 0) (pa_cons (pe_callB call_len_str (by rfl) T.n_len (by decide +kernel) (pa_cons (pv 2) pa_nil)) pa_nil))) (fun _ _ => rfl)))))))), ?_⟩
  walk_at "rd"
  have sz : sizeLine = 16777216 := sizeLine_eq
  have el : (Str.ofString "").length = 0 := by decide +kernel
  obtain ⟨A0, hA0⟩ : ∃ A0, Str.ofString " !\"#$&'()*+,-./0123456789:;<=>?@ABCDEFGHIJKLMNOPQRSTUVWXYZ[\\]^_`abcdefghijklmnopqrstuvwxyz{|}~" = A0 := ⟨_, rfl⟩
  have al : A0.length = 94 := by
    rw [← hA0]
    decide +kernel
  have am : ∀ {d : Int}, 0 ≤ d → d < 94 → ∃ c, pc c = true ∧ atI A0.cps.toList d = some c := by
    intro d h0 h1
    rw [← hA0]
    exact alpha_at h0 h1
  rw [hA0]
  refine ⟨⟨_, rfl⟩, _, rfl, (mn : Int), rfl, by omega, by omega, fun D hD => ?_⟩
  obtain ⟨_, _, _, _, hpB, _⟩ := id hp4
  have nD : D ≠ p := fun z => by
    rw [z, hpB] at hD
    cases hD
  have E5 : ∀ o, Ext1 p H (upd H D o) := fun o a u na ha => by
    rw [upd_ne (ne_of_none ha hD)]
    exact ha
  have mto : (mn : Int).toNat = mn := by omega
  refine lc_range (lo := 0) (n := (mn : Int).toNat) (fun i H' => ∃ l : List Nat, l.length = i ∧ (∀ c ∈ l, pc c = true) ∧ H' D = some (.lst (l.map fun c => V.str ⟨#[c]⟩)) ∧ BoxAt H' p (N + i) ∧ Ext1 p H H')
    ⟨[], rfl, (by simp), upd_same, ?_, E5 _⟩ ?_ ?_
  · obtain ⟨n, b, m, cc, hx, r⟩ := hp4
    exact ⟨n, b, m, cc, by rw [upd_ne (Ne.symm nD)]; exact hx, r⟩
  · rintro i H' hi ⟨l, hl, hb, hD', hB, hE⟩
    refine ⟨rfl, ?_⟩
    walk_at "rd"
    refine ⟨by omega, ?_⟩
    rw [al]
    refine ⟨p, 94, _, rfl, hB, by omega, by decide, by decide, fun d H5 d0 d1 hB5 e5 => ?_⟩
    obtain ⟨c2, hc2, hat2⟩ := am d0 d1
    refine ⟨_, _, c2, rfl, rfl, by omega, hat2, l.map fun c => V.str ⟨#[c]⟩, e5 _ _ nD hD', ?_, l ++ [c2], by simp [hl], ?_, ?_, ?_, ?_⟩
    · rw [List.length_map, hl, sz]
      omega
    · intro c hc
      rcases List.mem_append.mp hc with h | h
      · exact hb c h
      · have : c = c2 := by simpa using h
        rw [this]
        exact hc2
    · simp
    · obtain ⟨n, b, m, cc, hx, r1, r2, r3, r4⟩ := hB5
      exact ⟨n, b, m, cc, by rw [upd_ne (Ne.symm nD)]; exact hx, r1, r2, r3, by omega⟩
    · intro a o na ha
      rw [upd_ne (ne_of_none ha hD)]
      exact e5 a o na (hE a o na ha)
  · rintro H' ⟨l, hl, hb, hD', hB, hE⟩
    refine ⟨D, rfl, l.map fun c => ⟨#[c]⟩, .inl (.inl (.inl ?_)), ?_, ?_⟩
    · rw [hD']
      simp [List.map_map, Function.comp_def]
    · rw [el]
      have hs : ((l.map fun c => (⟨#[c]⟩ : Str)).map fun x => x.length).sum = l.length := by
        clear hl hb hD'
        induction l with
        | nil => rfl
        | cons a r ih => simp only [List.map_cons, List.sum_cons, ih, List.length_cons]; show 1 + _ = _; omega
      rw [hs]
      omega
    · rw [join_sgs]
      exact k l H' (by omega) hb (hB.le (by omega)) hE
theorem ok_l_letters (T : Tx K mg) : FnG P w K mg base 2 T.d_l_letters.f T.d_l_letters.fd ["_law_box_here", "_law_many"] (spSome low) := by
  refine okG0 T.d_l_letters.F sc_l_letters (fun vs H Q E h => ?_) (fun cdv A outer s H vs Q E hg hr h => ?_)
  · obtain ⟨p, m, N, rfl, _⟩ := h
    rfl
  obtain ⟨p, mn, N, rfl, hp4, hN, hm, k⟩ := h
  refine ⟨_, (pss_cons (ps_set (i := 2) sc_l_letters.nd rfl (Or.inr rfl) pe_str)
    (pss_one (ps_ret (pe_join pe_str (pe_lc (own := [("_law_turn", 3)]) (g := gName 3) (tt := tYes) rfl sc_l_letters.nd (pi_range1 (by rfl) T.n_range (pa_cons (pv 1) pa_nil)) (blkOk_by (N := ["_law_box_here", "_law_many", "_law_letters_here", "_law_turn"]) (sc := defScope s_l_letters) (by decide +kernel)) (fun _ _ _ _ _ => pg_name (i := 3) sc_l_letters.nd rfl (Or.inl rfl)) (fun _ _ _ _ _ => pts_nil) (fun _ _ _ _ _ => (pe_ix ix_str (pv 2) (pe_cG (ok_l_take T) T.d_l_take.b takes0 hg (hr.mono (by decide)) T.d_l_take.m T.d_l_take.F.kp (pa_cons (pv 0) (pa_cons pe_int pa_nil))) (fun _ _ => rfl)))))))), ?_⟩
  walk_at "rd"
  have sz : sizeLine = 16777216 := sizeLine_eq
  have el : (Str.ofString "").length = 0 := by decide +kernel
  obtain ⟨A0, hA0⟩ : ∃ A0, Str.ofString "abcdefghijklmnopqrstuvwxyz" = A0 := ⟨_, rfl⟩
  have al : A0.length = 26 := by
    rw [← hA0]
    decide +kernel
  have am : ∀ {d : Int}, 0 ≤ d → d < 26 → ∃ c, low c = true ∧ atI A0.cps.toList d = some c := by
    intro d h0 h1
    rw [← hA0]
    exact abc_at h0 h1
  rw [hA0]
  refine ⟨⟨_, rfl⟩, _, rfl, (mn : Int), rfl, by omega, by omega, fun D hD => ?_⟩
  obtain ⟨_, _, _, _, hpB, _⟩ := id hp4
  have nD : D ≠ p := fun z => by
    rw [z, hpB] at hD
    cases hD
  have E5 : ∀ o, Ext1 p H (upd H D o) := fun o a u na ha => by
    rw [upd_ne (ne_of_none ha hD)]
    exact ha
  have mto : (mn : Int).toNat = mn := by omega
  refine lc_range (lo := 0) (n := (mn : Int).toNat) (fun i H' => ∃ l : List Nat, l.length = i ∧ (∀ c ∈ l, low c = true) ∧ H' D = some (.lst (l.map fun c => V.str ⟨#[c]⟩)) ∧ BoxAt H' p (N + i) ∧ Ext1 p H H')
    ⟨[], rfl, (by simp), upd_same, ?_, E5 _⟩ ?_ ?_
  · obtain ⟨n, b, m, cc, hx, r⟩ := hp4
    exact ⟨n, b, m, cc, by rw [upd_ne (Ne.symm nD)]; exact hx, r⟩
  · rintro i H' hi ⟨l, hl, hb, hD', hB, hE⟩
    refine ⟨rfl, ?_⟩
    walk_at "rd"
    refine ⟨p, 26, _, rfl, hB, by omega, by decide, by decide, fun d H5 d0 d1 hB5 e5 => ?_⟩
    obtain ⟨c2, hc2, hat2⟩ := am d0 d1
    refine ⟨_, _, c2, rfl, rfl, by omega, hat2, l.map fun c => V.str ⟨#[c]⟩, e5 _ _ nD hD', ?_, l ++ [c2], by simp [hl], ?_, ?_, ?_, ?_⟩
    · rw [List.length_map, hl, sz]
      omega
    · intro c hc
      rcases List.mem_append.mp hc with h | h
      · exact hb c h
      · have : c = c2 := by simpa using h
        rw [this]
        exact hc2
    · simp
    · obtain ⟨n, b, m, cc, hx, r1, r2, r3, r4⟩ := hB5
      exact ⟨n, b, m, cc, by rw [upd_ne (Ne.symm nD)]; exact hx, r1, r2, r3, by omega⟩
    · intro a o na ha
      rw [upd_ne (ne_of_none ha hD)]
      exact e5 a o na (hE a o na ha)
  · rintro H' ⟨l, hl, hb, hD', hB, hE⟩
    refine ⟨D, rfl, l.map fun c => ⟨#[c]⟩, .inl (.inl (.inl ?_)), ?_, ?_⟩
    · rw [hD']
      simp [List.map_map, Function.comp_def]
    · rw [el]
      have hs : ((l.map fun c => (⟨#[c]⟩ : Str)).map fun x => x.length).sum = l.length := by
        clear hl hb hD'
        induction l with
        | nil => rfl
        | cons a r ih => simp only [List.map_cons, List.sum_cons, ih, List.length_cons]; show 1 + _ = _; omega
      rw [hs]
      omega
    · rw [join_sgs]
      exact k l H' (by omega) hb (hB.le (by omega)) hE
theorem ok_l_number (T : Tx K mg) : FnG P w K mg base 2 T.d_l_number.f T.d_l_number.fd ["_law_box_here"] spNumber := by
  refine okG0 T.d_l_number.F sc_l_number (fun vs H Q E h => ?_) (fun cdv A outer s H vs Q E hg hr h => ?_)
  · obtain ⟨p, N, rfl, _⟩ := h
    rfl
  obtain ⟨p, N, rfl, hp, hN, k⟩ := h
  refine ⟨_, (pss_cons (ps_set (i := 1) sc_l_number.nd rfl (Or.inl rfl) (pe_cG (ok_l_take T) T.d_l_take.b takes0 hg (hr.mono (by decide)) T.d_l_take.m T.d_l_take.F.kp (pa_cons (pv 0) (pa_cons pe_int pa_nil))))
    (pss_cons (ps_if (pt_cmpR op_eq (pv 1) pe_int (nomark _))
      (pss_one (ps_ret (pe_op op_add pe_int (pe_cG (ok_l_take T) T.d_l_take.b takes0 hg (hr.mono (by decide)) T.d_l_take.m T.d_l_take.F.kp (pa_cons (pv 0) (pa_cons pe_int pa_nil))))))
      pss_nil)
    (pss_cons (ps_if (pt_cmpR op_eq (pv 1) pe_int (nomark _))
      (pss_one (ps_ret (pe_op op_add (pe_op op_sub (pe_op op_pow pe_int pe_int) pe_int) (pe_cG (ok_l_take T) T.d_l_take.b takes0 hg (hr.mono (by decide)) T.d_l_take.m T.d_l_take.F.kp (pa_cons (pv 0) (pa_cons pe_int pa_nil))))))
      pss_nil)
    (pss_one (ps_ret (pe_cG (ok_l_take T) T.d_l_take.b takes0 hg (hr.mono (by decide)) T.d_l_take.m T.d_l_take.F.kp (pa_cons (pv 0) (pa_cons pe_int pa_nil)))))))), ?_⟩
  walk_at "rd"
  refine ⟨p, 6, N, rfl, hp, by omega, by decide, by decide, fun kind H1 k0 k1 hp1 e1 => ?_⟩
  walk_at "rd"
  refine ⟨rfl, ?_⟩
  by_cases h4 : kind = 4
  · rw [if_pos (by rw [h4])]
    refine ⟨p, 90, _, rfl, hp1, by omega, by decide, by decide, fun d H2 d0 d1 hp2 e2 => ?_⟩
    simp only [e_ri0]
    exact k _ H2 (by omega) (by omega) hp2 (e1.trans e2)
  · rw [if_neg (by simpa using h4)]
    refine ⟨rfl, ?_⟩
    by_cases h5 : kind = 5
    · rw [if_pos (by rw [h5])]
      refine ⟨cpow_of (by decide) (by decide) (by decide) (by decide), ?_⟩
      refine ⟨p, 100, _, rfl, hp1, by omega, by decide, by decide, fun d H2 d0 d1 hp2 e2 => ?_⟩
      simp only [e_ri0]
      have e19 : (10 : Int) ^ Int.toNat 19 = 10000000000000000000 := by decide
      exact k _ H2 (by omega) (by omega) hp2 (e1.trans e2)
    · rw [if_neg (by simpa using h5)]
      refine ⟨p, 10, _, rfl, hp1, by omega, by decide, by decide, fun d H2 d0 d1 hp2 e2 => ?_⟩
      exact k _ H2 (by omega) (by omega) hp2 (e1.trans e2)
/-- a drawn line -/
structure LnOk (h n : Int) (c t : List Nat) : Prop where
  h0 : 0 ≤ h
  h1 : h ≤ 10 ^ 20
  n0 : 0 ≤ n
  n1 : n ≤ 10 ^ 20
  c0 : 1 ≤ c.length
  c1 : c.length ≤ 8
  cl : ∀ d ∈ c, low d = true
  t1 : t.length ≤ 40
  tp : ∀ d ∈ t, pc d = true
def spLine : Sp := fun vs H Q _ => ∃ p N, vs = [.ref p] ∧ BoxAt H p N ∧ N ≤ 800000 ∧ ∀ h n c t a H', LnOk h n c t → H a = none → H' a = some (.tup [.int h, .int n, .str (tx c), .str (tx t)]) → BoxAt H' p (N + 60) → Ext1 p H H' → Q (.ref a) H'
theorem ext_none {p a : Addr} {H H' : Hp} (hp : ∃ o, H p = some o) (e : Ext1 p H H') (h : H' a = none) (np : a ≠ p) : H a = none := by
  cases q : H a with
  | none => rfl
  | some o =>
    rw [e a o np q] at h
    cases h
theorem box_some {H : Hp} {p : Addr} {N : Nat} (h : BoxAt H p N) : ∃ o, H p = some o := by
  obtain ⟨_, _, _, _, h, _⟩ := h
  exact ⟨_, h⟩
theorem box_new {H : Hp} {p a : Addr} {N : Nat} {o : HO} (h : BoxAt H p N) (ha : H a = none) : BoxAt (upd H a o) p N := h.mono (Same.new ha)
theorem ok_l_line (T : Tx K mg) : FnG P w K mg base 3 T.d_l_line.f T.d_l_line.fd ["_law_box_here"] spLine := by
  refine okG0 T.d_l_line.F sc_l_line (fun vs H Q E h => ?_) (fun cdv A outer s H vs Q E hg hr h => ?_)
  · obtain ⟨p, N, rfl, _⟩ := h
    rfl
  obtain ⟨p, N, rfl, hp, hN, k⟩ := h
  refine ⟨_, (pss_cons (ps_par (i := 1) (j := 2) rfl sc_l_line.nd rfl rfl (by decide) rfl rfl (pa_cons (pe_cG (ok_l_take T) T.d_l_take.b takes0 hg (hr.mono (by decide)) T.d_l_take.m T.d_l_take.F.kp (pa_cons (pv 0) (pa_cons pe_int pa_nil))) (pa_cons (pe_cG (ok_l_take T) T.d_l_take.b takes0 hg (hr.mono (by decide)) T.d_l_take.m T.d_l_take.F.kp (pa_cons (pv 0) (pa_cons pe_int pa_nil))) pa_nil)) (by rfl))
    (pss_cons (ps_set (i := 3) sc_l_line.nd rfl (Or.inl rfl) (pe_cG (ok_l_letters T) T.d_l_letters.b takes0 hg (hr.mono (by decide)) T.d_l_letters.m T.d_l_letters.F.kp (pa_cons (pv 0) (pa_cons (pe_ix ix_list (pe_lst1 (pa_cons pe_int (pa_cons pe_int (pa_cons pe_int (pa_cons pe_int (pa_cons pe_int pa_nil)))))) (pv 2) (fun _ _ => rfl)) pa_nil))))
    (pss_cons (ps_set (i := 4) sc_l_line.nd rfl (Or.inl rfl) (pe_cG (ok_l_any T) T.d_l_any.b takes0 hg (hr.mono (by decide)) T.d_l_any.m T.d_l_any.F.kp (pa_cons (pv 0) (pa_cons (pe_ix ix_list (pe_lst1 (pa_cons pe_int (pa_cons pe_int (pa_cons pe_int (pa_cons pe_int (pa_cons pe_int (pa_cons pe_int pa_nil))))))) (pv 1) (fun _ _ => rfl)) pa_nil))))
    (pss_cons (ps_if (pt_cmpR op_eq (pv 1) pe_int (nomark _))
      (pss_one (ps_set (i := 4) sc_l_line.nd rfl (Or.inl rfl) (pe_ix ix_list (pe_lst1 (pa_cons pe_str (pa_cons pe_str (pa_cons pe_str (pa_cons pe_str (pa_cons pe_str (pa_cons pe_str pa_nil))))))) (pe_cG (ok_l_take T) T.d_l_take.b takes0 hg (hr.mono (by decide)) T.d_l_take.m T.d_l_take.F.kp (pa_cons (pv 0) (pa_cons pe_int pa_nil))) (fun _ _ => rfl))))
      pss_nil)
    (pss_one (ps_ret (pe_tup (pa_cons (pe_cG (ok_l_number T) T.d_l_number.b takes0 hg (hr.mono (by decide)) T.d_l_number.m T.d_l_number.F.kp (pa_cons (pv 0) pa_nil)) (pa_cons (pe_cG (ok_l_number T) T.d_l_number.b takes0 hg (hr.mono (by decide)) T.d_l_number.m T.d_l_number.F.kp (pa_cons (pv 0) pa_nil)) (pa_cons (pv 3) (pa_cons (pv 4) pa_nil))))))))))), ?_⟩
  walk_at "rd"
  refine ⟨p, 6, N, rfl, hp, by omega, by decide, by decide, fun kind H1 k0 k1 hp1 e1 => ?_⟩
  refine ⟨p, 5, _, rfl, hp1, by omega, by decide, by decide, fun long H2 l0 l1 hp2 e2 => ?_⟩
  walk_at "rd"
  refine ⟨by decide, fun q1 hq1 nq1 => ?_⟩
  obtain ⟨H3, e3, S3, f3⟩ := gen_new (.lst [V.int 1, V.int 8, V.int 4, V.int 7, V.int 2]) hq1
  simp only [e3]
  have hp3 := BoxAt.mono S3 hp2
  have E3 : Ext1 p H H3 := (e1.trans e2).trans (Nv.Same.ext1 S3)
  obtain ⟨lc, hlc, a1, a2⟩ : ∃ lc : Nat, atI [V.int 1, V.int 8, V.int 4, V.int 7, V.int 2] long = some (V.int (lc : Int)) ∧ 1 ≤ lc ∧ lc ≤ 8 := by
    have : long = 0 ∨ long = 1 ∨ long = 2 ∨ long = 3 ∨ long = 4 := by omega
    rcases this with rfl | rfl | rfl | rfl | rfl
    · exact ⟨1, atI_nat (j := 0) rfl, by omega, by omega⟩
    · exact ⟨8, atI_nat (j := 1) rfl, by omega, by omega⟩
    · exact ⟨4, atI_nat (j := 2) rfl, by omega, by omega⟩
    · exact ⟨7, atI_nat (j := 3) rfl, by omega, by omega⟩
    · exact ⟨2, atI_nat (j := 4) rfl, by omega, by omega⟩
  refine r_ixL (.of f3) hlc ?_
  refine ⟨p, lc, _, rfl, hp3, by omega, by omega, fun c H4 c1 c2 hp4 e4 => ?_⟩
  walk_at "rd"
  refine ⟨by decide, fun q2 hq2 nq2 => ?_⟩
  obtain ⟨H5, e5, S5, f5⟩ := gen_new (.lst [V.int 0, V.int 40, V.int 1, V.int 39, V.int 6, V.int 0]) hq2
  simp only [e5]
  have hp5 := BoxAt.mono S5 hp4
  have E5 : Ext1 p H H5 := (E3.trans e4).trans (Nv.Same.ext1 S5)
  obtain ⟨lt, hlt, b2⟩ : ∃ lt : Nat, atI [V.int 0, V.int 40, V.int 1, V.int 39, V.int 6, V.int 0] kind = some (V.int (lt : Int)) ∧ lt ≤ 40 := by
    have : kind = 0 ∨ kind = 1 ∨ kind = 2 ∨ kind = 3 ∨ kind = 4 ∨ kind = 5 := by omega
    rcases this with rfl | rfl | rfl | rfl | rfl | rfl
    · exact ⟨0, atI_nat (j := 0) rfl, by omega⟩
    · exact ⟨40, atI_nat (j := 1) rfl, by omega⟩
    · exact ⟨1, atI_nat (j := 2) rfl, by omega⟩
    · exact ⟨39, atI_nat (j := 3) rfl, by omega⟩
    · exact ⟨6, atI_nat (j := 4) rfl, by omega⟩
    · exact ⟨0, atI_nat (j := 5) rfl, by omega⟩
  refine r_ixL (.of f5) hlt ?_
  refine ⟨p, lt, _, rfl, hp5, by omega, by omega, fun t0 H6 t1 t2 hp6 e6 => ?_⟩
  walk_at "rd"
  have E6 := E5.trans e6
  have fin : ∀ (t : List Nat) (H7 : Hp), t.length ≤ 40 → (∀ d ∈ t, pc d = true) → BoxAt H7 p (N + 54) → Ext1 p H H7 →
      spNumber [V.ref p] H7 (fun x H1 => spNumber [V.ref p] H1 (fun x_1 H2 => 0 + 1 + 1 + 1 + 1 ≤ sizeLine ∧ ∀ (q : Addr), H2 q = none → Q (V.ref q) (upd H2 q (HO.tup [x, x_1, V.str (tx c), V.str (tx t)]))) (fun _ _ _ => False)) (fun _ _ _ => False) := by
    intro t H7 ht1 htp hb E7
    refine ⟨p, _, rfl, hb, by omega, fun h H8 h0 h1 hb8 e8 => ?_⟩
    refine ⟨p, _, rfl, hb8, by omega, fun n H9 n0 n1 hb9 e9 => ⟨by decide, fun q hq => ?_⟩⟩
    have E9 := (E7.trans e8).trans e9
    have nqp : q ≠ p := fun z => by
      obtain ⟨o, ho⟩ := box_some hb9
      rw [z, ho] at hq
      cases hq
    refine k h n c t q _ ⟨h0, h1, n0, n1, by omega, by omega, c2, ht1, htp⟩ (ext_none (box_some hp) E9 hq nqp) upd_same ((box_new hb9 hq).le (by omega)) (E9.trans (Nv.Same.ext1 (Same.new hq)))
  refine ⟨rfl, ?_⟩
  by_cases h5 : kind = 5
  · rw [if_pos h5]
    refine ⟨by decide, fun q3 hq3 nq3 => ?_⟩
    obtain ⟨H7, e7, S7, f7⟩ := gen_new (.lst [V.str (Str.ofString "rings at five"), V.str (Str.ofString " a"), V.str (Str.ofString "a "), V.str (Str.ofString "0 1 a b"), V.str (Str.ofString "  "), V.str (Str.ofString "2 0 bell ")]) hq3
    simp only [e7]
    have hp7 := BoxAt.mono S7 hp6
    have nq : q3 ≠ p := fun z => by
      obtain ⟨o, ho⟩ := box_some hp6
      rw [z, ho] at hq3
      cases hq3
    refine ⟨p, 6, _, rfl, hp7, by omega, by decide, by decide, fun d H8 d0 d1 hp8 e8 => ?_⟩
    obtain ⟨z, hz, zl, zp⟩ : ∃ z, atI [V.str (Str.ofString "rings at five"), V.str (Str.ofString " a"), V.str (Str.ofString "a "), V.str (Str.ofString "0 1 a b"), V.str (Str.ofString "  "), V.str (Str.ofString "2 0 bell ")] d = some (V.str z) ∧ (sg z).length ≤ 40 ∧ (sg z).all pc = true := by
      have : d = 0 ∨ d = 1 ∨ d = 2 ∨ d = 3 ∨ d = 4 ∨ d = 5 := by omega
      rcases this with rfl | rfl | rfl | rfl | rfl | rfl
      · exact ⟨_, atI_nat (j := 0) rfl, by decide +kernel, by decide +kernel⟩
      · exact ⟨_, atI_nat (j := 1) rfl, by decide +kernel, by decide +kernel⟩
      · exact ⟨_, atI_nat (j := 2) rfl, by decide +kernel, by decide +kernel⟩
      · exact ⟨_, atI_nat (j := 3) rfl, by decide +kernel, by decide +kernel⟩
      · exact ⟨_, atI_nat (j := 4) rfl, by decide +kernel, by decide +kernel⟩
      · exact ⟨_, atI_nat (j := 5) rfl, by decide +kernel, by decide +kernel⟩
    refine r_ixL (.of (e8 _ _ nq f7)) hz ?_
    have := fin (sg z) H8 zl (fun d hd => List.all_eq_true.mp zp d hd) (hp8.le (by omega)) ((E6.trans (Nv.Same.ext1 S7)).trans e8)
    rw [tx_sg] at this
    exact this
  · rw [if_neg h5]
    exact fin t0 H6 (by omega) t2 (hp6.le (by omega)) E6
end
end K01


namespace K01
open PySem L2 Nv

/-- small odd things -/
inductive Od : PyData → Prop
  | str {z : Str} (a : Asc z) (l : z.length ≤ 120) : Od (.str z)
  | non : Od .none
  | bl (b : Bool) : Od (.bool b)
  | int {i : Int} (h : -(10 ^ 20) ≤ i ∧ i ≤ 10 ^ 20) : Od (.int i)
  | lst {z : Str} (a : Asc z) (l : z.length ≤ 120) : Od (.list [.str z])
  | tup {z : Str} (a : Asc z) (l : z.length ≤ 120) : Od (.tuple [.str z])
  | t0 : Od (.tuple [.int 0])
  | l0 : Od (.list [.int 0])
theorem Od.shw {d : PyData} (h : Od d) : Shw 200 1 d := by
  cases h with
  | str a l => exact (Shw.str (D := 1) a).le (by omega) (by omega)
  | non => exact Shw.non
  | bl b => exact Shw.bl b
  | @int i h => exact (Shw.int (D := 1) (i := i) (by omega)).le (by omega) (by omega)
  | lst a l => exact (Shw.list (Shws.cons (D := 0) (Shw.str a) (Shws.nil (W := 0)))).le (by omega) (by omega)
  | tup a l => exact (Shw.tuple (Shws.cons (D := 0) (Shw.str a) (Shws.nil (W := 0)))).le (by omega) (by omega)
  | t0 => exact (Shw.tuple (Shws.cons (D := 0) (Shw.int (i := 0) (by decide)) (Shws.nil (W := 0)))).le (by omega) (by omega)
  | l0 => exact (Shw.list (Shws.cons (D := 0) (Shw.int (i := 0) (by decide)) (Shws.nil (W := 0)))).le (by omega) (by omega)
def spOd : Sp := fun vs H Q _ => ∃ p z N, vs = [.ref p, .str z] ∧ BoxAt H p N ∧ N ≤ 900000 ∧ Asc z ∧ z.length ≤ 40 ∧ (0 < z.length) ∧
  ∀ u d H', DV H' u d → Od d → BoxAt H' p (N + 4) → Ext1 p H H' → Q u H'
def spOdT : Sp := fun vs H Q _ => ∃ p z N, vs = [.ref p, .str z] ∧ BoxAt H p N ∧ N ≤ 900000 ∧ Asc z ∧ z.length ≤ 40 ∧
  ∀ u d H', DV H' u d → Od d → BoxAt H' p (N + 4) → Ext1 p H H' → Q u H'
theorem asc_of {z : Str} (h : (sg z).all (fun c => decide (c < 128)) = true) : Asc z := fun c hc => by
  have := List.all_eq_true.mp h c hc
  simpa using this
theorem cut_le (z : Str) (lo hi : Option Int) : (cutS z lo hi).length ≤ z.length := cutS_length z lo hi
theorem atI_mem {α : Type} {xs : List α} {i : Int} (h0 : 0 ≤ i) (h1 : i < (xs.length : Int)) : ∃ v, atI xs i = some v ∧ v ∈ xs := by
  obtain ⟨j, rfl⟩ : ∃ j : Nat, i = (j : Int) := ⟨i.toNat, by omega⟩
  have hj : j < xs.length := by omega
  exact ⟨xs[j], atI_nat (by simp [hj]), List.getElem_mem hj⟩
theorem box_ne {H : Hp} {p q : Addr} {N : Nat} (h : BoxAt H p N) (hq : H q = none) : q ≠ p := fun z => by
  obtain ⟨o, ho⟩ := box_some h
  rw [z, ho] at hq
  cases hq
section
variable {P : Program} {w : World} {K : PySem.W.Frag} {mg : Str → Option Value} {base : Heap}
theorem ok_l_odd_cell (T : Tx K mg) : FnG P w K mg base 2 T.d_l_odd_cell.f T.d_l_odd_cell.fd ["_law_box_here", "_law_cell_here"] spOd := by
  refine okG0 T.d_l_odd_cell.F sc_l_odd_cell (fun vs H Q E h => ?_) (fun cdv A outer s H vs Q E hg hr h => ?_)
  · obtain ⟨p, z, N, rfl, _⟩ := h
    rfl
  obtain ⟨p, z, N, rfl, hp, hN, az, lz, l0, k⟩ := h
  have sz : sizeLine = 16777216 := sizeLine_eq
  refine ⟨_, (pss_cons (ps_par (i := 2) (j := 3) rfl sc_l_odd_cell.nd rfl rfl (by decide) rfl rfl (pa_cons (pe_cG (ok_l_take T) T.d_l_take.b takes0 hg (hr.mono (by decide)) T.d_l_take.m T.d_l_take.F.kp (pa_cons (pv 0) (pa_cons pe_int pa_nil))) (pa_cons (pe_cG (ok_l_take T) T.d_l_take.b takes0 hg (hr.mono (by decide)) T.d_l_take.m T.d_l_take.F.kp (pa_cons (pv 0) (pa_cons (pe_callB call_len_str (by rfl) T.n_len (by decide +kernel) (pa_cons (pv 1) pa_nil)) pa_nil))) pa_nil)) (by rfl))
    (pss_cons (ps_if (pt_cmpR op_lt (pv 2) pe_int (nomark _))
      (pss_cons (ps_set (i := 4) sc_l_odd_cell.nd rfl (Or.inl rfl) (pe_ix ix_str pe_str (pe_cG (ok_l_take T) T.d_l_take.b takes0 hg (hr.mono (by decide)) T.d_l_take.m T.d_l_take.F.kp (pa_cons (pv 0) (pa_cons pe_int pa_nil))) (fun _ _ => rfl)))
      (pss_one (ps_ret (pe_ix ix_list (pe_lst1 (pa_cons (pe_op op_add_str (pe_op op_add_str (pe_slice sl_str (pv 1) po_none (po_some (pv 3))) (pv 4)) (pe_slice sl_str (pv 1) (po_some (pe_op op_add (pv 3) pe_int)) po_none)) (pa_cons (pe_op op_add_str (pe_op op_add_str (pe_slice sl_str (pv 1) po_none (po_some (pv 3))) (pv 4)) (pe_slice sl_str (pv 1) (po_some (pv 3)) po_none)) (pa_cons (pe_op op_add_str (pv 1) (pv 4)) (pa_cons (pe_op op_add_str (pv 4) (pv 1)) pa_nil))))) (pv 2) (fun _ _ => rfl)))))
      pss_nil)
    (pss_one (ps_ret (pe_ix ix_list (pe_lst1 (pa_cons (pe_op op_add_str (pv 1) (pe_op op_mul_str pe_str (pe_op op_sub pe_int (pe_callB call_len_str (by rfl) T.n_len (by decide +kernel) (pa_cons (pv 1) pa_nil))))) (pa_cons (pe_slice sl_str (pv 1) (po_some pe_int) po_none) (pa_cons pe_str (pa_cons pe_non (pa_cons (pe_lst1 (pa_cons (pv 1) pa_nil)) (pa_cons (pe_op op_add_str (pv 1) pe_str) pa_nil))))))) (pe_op op_sub (pv 2) pe_int) (fun _ _ => rfl)))))), ?_⟩
  walk_at "rd"
  refine ⟨p, 10, N, rfl, hp, by omega, by decide, by decide, fun kind H1 k0 k1 hp1 e1 => ?_⟩
  refine ⟨by omega, ?_⟩
  refine ⟨p, (z.length : Int), _, rfl, hp1, by omega, by omega, by omega, fun at_ H2 a0 a1 hp2 e2 => ?_⟩
  walk_at "rd"
  by_cases h4 : kind < 4
  · rw [if_pos h4]
    refine ⟨p, 10, _, rfl, hp2, by omega, by decide, by decide, fun d H3 d0 d1 hp3 e3 => ?_⟩
    obtain ⟨c, hc, c1⟩ : ∃ c, atI (Str.ofString " 0A_`{z-~\n").cps.toList d = some c ∧ c < 128 := by
      obtain ⟨c, h1, h2⟩ := atI_mem (xs := (Str.ofString " 0A_`{z-~\n").cps.toList) d0 (by
        have : (Str.ofString " 0A_`{z-~\n").cps.toList.length = 10 := by decide +kernel
        omega)
      exact ⟨c, h1, (show ∀ c ∈ (Str.ofString " 0A_`{z-~\n").cps.toList, c < 128 from by decide +kernel) c h2⟩
    have ls : (Str.ofString " 0A_`{z-~\n").length ≤ sizeLine := by
      have : (Str.ofString " 0A_`{z-~\n").length = 10 := by decide +kernel
      omega
    simp only [e_ixS]
    refine ⟨c, ls, hc, ?_⟩
    have one : (⟨#[c]⟩ : Str).length = 1 := rfl
    have q1 := cutS_length z none (some at_)
    have q2 := cutS_length z (some (at_ + 1)) none
    have q3 := cutS_length z (some at_) none
    refine ⟨by omega, _, rfl, by omega, by omega, by rw [append_len]; omega, by omega, _, rfl, by omega, by omega, by rw [append_len]; omega, _, rfl, by omega, _, rfl, by omega, by decide, fun q hq nq => ?_⟩
    obtain ⟨H4, e4, S4, f4⟩ := gen_new (.lst [V.str (cutS z none (some at_) ++ ⟨#[c]⟩ ++ cutS z (some (at_ + 1)) none), V.str (cutS z none (some at_) ++ ⟨#[c]⟩ ++ cutS z (some at_) none), V.str (z ++ ⟨#[c]⟩), V.str (⟨#[c]⟩ ++ z)]) hq
    simp only [e4]
    obtain ⟨v, hv, hm⟩ := atI_mem (xs := [V.str (cutS z none (some at_) ++ ⟨#[c]⟩ ++ cutS z (some (at_ + 1)) none), V.str (cutS z none (some at_) ++ ⟨#[c]⟩ ++ cutS z (some at_) none), V.str (z ++ ⟨#[c]⟩), V.str (⟨#[c]⟩ ++ z)]) k0 h4
    refine r_ixL (.of f4) hv ?_
    have bx : BoxAt H4 p (N + 4) := (BoxAt.mono S4 hp3).le (by omega)
    have ex := ((e1.trans e2).trans e3).trans (Nv.Same.ext1 S4)
    have ac := Asc.one c1
    simp only [List.mem_cons, List.not_mem_nil, or_false] at hm
    rcases hm with rfl | rfl | rfl | rfl
    · exact k _ _ H4 (.str _) (.str (((az.cut _ _).app ac).app (az.cut _ _)) (by rw [append_len, append_len]; omega)) bx ex
    · exact k _ _ H4 (.str _) (.str (((az.cut _ _).app ac).app (az.cut _ _)) (by rw [append_len, append_len]; omega)) bx ex
    · exact k _ _ H4 (.str _) (.str (az.app ac) (by rw [append_len]; omega)) bx ex
    · exact k _ _ H4 (.str _) (.str (ac.app az) (by rw [append_len]; omega)) bx ex
  · rw [if_neg h4]
    have aa : Asc (Str.ofString "a") := asc_of (by decide +kernel)
    have la : (Str.ofString "a").length = 1 := by decide +kernel
    obtain ⟨M, hM⟩ : ∃ M, Txt.mul (Str.ofString "a") (9 - (z.length : Int)) = M := ⟨_, rfl⟩
    have lm : M.length ≤ 9 := by
      have := mul_len (Str.ofString "a") (9 - (z.length : Int))
      rw [la, hM] at this
      omega
    have am : Asc M := by
      rw [← hM]
      exact aa.mul _
    have mo : MulOk (Str.ofString "a") (9 - (z.length : Int)) := mulOk_of (by omega) (by omega) (by omega)
    have zz : Asc (Str.ofString "z") := asc_of (by decide +kernel)
    have lzz : (Str.ofString "z").length = 1 := by decide +kernel
    rw [hM]
    refine ⟨by omega, mo, by omega, by omega, by decide, fun q hq nq => ⟨by omega, by decide, fun q' hq' nq' => ?_⟩⟩
    obtain ⟨H3, e3, S3, f3⟩ := gen_new (.lst [V.str z]) hq
    simp only [e3] at hq' ⊢
    obtain ⟨H4, e4, S4, f4⟩ := gen_new (.lst [V.str (z ++ M), V.str (cutS z (some 1) none), V.str (Str.ofString ""), V.non, V.ref q, V.str (z ++ Str.ofString "z")]) hq'
    simp only [e4]
    obtain ⟨v, hv, hm⟩ := atI_mem (xs := [V.str (z ++ M), V.str (cutS z (some 1) none), V.str (Str.ofString ""), V.non, V.ref q, V.str (z ++ Str.ofString "z")]) (i := kind - 4) (by omega) (by show kind - 4 < 6; omega)
    refine r_ixL (.of f4) hv ?_
    have S2 := S3.trans S4
    have bx : BoxAt H4 p (N + 4) := (BoxAt.mono S2 hp2).le (by omega)
    have ex := (e1.trans e2).trans (Nv.Same.ext1 S2)
    have q1 := cutS_length z (some 1) none
    simp only [List.mem_cons, List.not_mem_nil, or_false] at hm
    rcases hm with rfl | rfl | rfl | rfl | rfl | rfl
    · exact k _ _ H4 (.str _) (.str (az.app am) (by rw [append_len]; omega)) bx ex
    · exact k _ _ H4 (.str _) (.str (az.cut _ _) (by omega)) bx ex
    · exact k _ _ H4 (.str _) (.str (asc_of (by decide +kernel)) (by decide +kernel)) bx ex
    · exact k _ _ H4 .non .non bx ex
    · exact k _ _ H4 (.lst (S4 _ _ f3) nq (.cons (.str _) .nil)) (.lst az (by omega)) bx ex
    · exact k _ _ H4 (.str _) (.str (az.app zz) (by rw [append_len]; omega)) bx ex
theorem ok_l_odd_text (T : Tx K mg) : FnG P w K mg base 2 T.d_l_odd_text.f T.d_l_odd_text.fd ["_law_box_here", "_law_text"] (spOdT) := by
  refine okG0 T.d_l_odd_text.F sc_l_odd_text (fun vs H Q E h => ?_) (fun cdv A outer s H vs Q E hg hr h => ?_)
  · obtain ⟨p, z, N, rfl, _⟩ := h
    rfl
  obtain ⟨p, z, N, rfl, hp, hN, az, lz, k⟩ := h
  have sz : sizeLine = 16777216 := sizeLine_eq
  refine ⟨_, (pss_cons (ps_par (i := 2) (j := 3) rfl sc_l_odd_text.nd rfl rfl (by decide) rfl rfl (pa_cons (pe_cG (ok_l_take T) T.d_l_take.b takes0 hg (hr.mono (by decide)) T.d_l_take.m T.d_l_take.F.kp (pa_cons (pv 0) (pa_cons pe_int pa_nil))) (pa_cons (pe_cG (ok_l_take T) T.d_l_take.b takes0 hg (hr.mono (by decide)) T.d_l_take.m T.d_l_take.F.kp (pa_cons (pv 0) (pa_cons (pe_op op_add (pe_callB call_len_str (by rfl) T.n_len (by decide +kernel) (pa_cons (pv 1) pa_nil)) pe_int) pa_nil))) pa_nil)) (by rfl))
    (pss_cons (ps_if (pt_cmpR op_eq (pv 2) pe_int (nomark _))
      (pss_one (ps_ret (pe_op op_add_str (pe_op op_add_str (pe_slice sl_str (pv 1) po_none (po_some (pv 3))) (pe_ix ix_str pe_str (pe_cG (ok_l_take T) T.d_l_take.b takes0 hg (hr.mono (by decide)) T.d_l_take.m T.d_l_take.F.kp (pa_cons (pv 0) (pa_cons pe_int pa_nil))) (fun _ _ => rfl))) (pe_slice sl_str (pv 1) (po_some (pv 3)) po_none))))
      pss_nil)
    (pss_one (ps_ret (pe_ix ix_list (pe_lst1 (pa_cons (pe_op op_add_str (pv 1) (pe_op op_mul_str pe_str (pe_op op_sub pe_int (pe_callB call_len_str (by rfl) T.n_len (by decide +kernel) (pa_cons (pv 1) pa_nil))))) (pa_cons (pe_slice sl_str (pv 1) (po_some pe_int) po_none) (pa_cons pe_non (pa_cons pe_int (pa_cons (pe_lst1 (pa_cons (pv 1) pa_nil)) (pa_cons (pe_tup (pa_cons (pv 1) pa_nil)) (pa_cons pe_bl (pa_cons (pe_op op_add_str (pv 1) pe_str) pa_nil))))))))) (pv 2) (fun _ _ => rfl)))))), ?_⟩
  walk_at "rd"
  refine ⟨p, 9, N, rfl, hp, by omega, by decide, by decide, fun kind H1 k0 k1 hp1 e1 => ?_⟩
  refine ⟨by omega, ?_⟩
  refine ⟨p, (z.length : Int) + 1, _, rfl, hp1, by omega, by omega, by omega, fun at_ H2 a0 a1 hp2 e2 => ?_⟩
  walk_at "rd"
  refine ⟨rfl, ?_⟩
  have q1 := cutS_length z none (some at_)
  have q3 := cutS_length z (some at_) none
  have q2 := cutS_length z (some 1) none
  by_cases h8 : kind = 8
  · rw [if_pos h8]
    refine ⟨by omega, p, 2, _, rfl, hp2, by omega, by decide, by decide, fun d H3 d0 d1 hp3 e3 => ?_⟩
    obtain ⟨c, hc, c1⟩ : ∃ c, atI (Str.ofString "\n\t").cps.toList d = some c ∧ c < 128 := by
      obtain ⟨c, h1, h2⟩ := atI_mem (xs := (Str.ofString "\n\t").cps.toList) d0 (by
        have : (Str.ofString "\n\t").cps.toList.length = 2 := by decide +kernel
        omega)
      exact ⟨c, h1, (show ∀ c ∈ (Str.ofString "\n\t").cps.toList, c < 128 from by decide +kernel) c h2⟩
    have ls : (Str.ofString "\n\t").length ≤ sizeLine := by
      have : (Str.ofString "\n\t").length = 2 := by decide +kernel
      omega
    simp only [e_ixS]
    refine ⟨c, ls, hc, ?_⟩
    have one : (⟨#[c]⟩ : Str).length = 1 := rfl
    have ac := Asc.one c1
    refine ⟨_, rfl, by omega, by omega, by rw [append_len]; omega, ?_⟩
    exact k _ _ H3 (.str _) (.str (((az.cut _ _).app ac).app (az.cut _ _)) (by rw [append_len, append_len]; omega)) (hp3.le (by omega)) ((e1.trans e2).trans e3)
  · rw [if_neg h8]
    have aa : Asc (Str.ofString "~") := asc_of (by decide +kernel)
    have la : (Str.ofString "~").length = 1 := by decide +kernel
    have bb : Asc (Str.ofString " ") := asc_of (by decide +kernel)
    have lb : (Str.ofString " ").length = 1 := by decide +kernel
    obtain ⟨M, hM⟩ : ∃ M, Txt.mul (Str.ofString "~") (41 - (z.length : Int)) = M := ⟨_, rfl⟩
    have lm : M.length ≤ 41 := by
      have := mul_len (Str.ofString "~") (41 - (z.length : Int))
      rw [la, hM] at this
      omega
    have am : Asc M := by
      rw [← hM]
      exact aa.mul _
    have mo : MulOk (Str.ofString "~") (41 - (z.length : Int)) := mulOk_of (by omega) (by omega) (by omega)
    rw [hM]
    refine ⟨by omega, mo, by omega, by omega, by decide, fun q hq nq => ⟨by decide, fun q' hq' => ⟨by omega, by decide, fun r hr3 nr => ?_⟩⟩⟩
    obtain ⟨H3, e3, S3, f3⟩ := gen_new (.lst [V.str z]) hq
    simp only [e3] at hq' hr3 ⊢
    obtain ⟨H4, e4, S4, f4⟩ := gen_new (.tup [V.str z]) hq'
    simp only [e4] at hr3 ⊢
    obtain ⟨H5, e5, S5, f5⟩ := gen_new (.lst [V.str (z ++ M), V.str (cutS z (some 1) none), V.non, V.int 5, V.ref q, V.ref q', V.bl true, V.str (z ++ Str.ofString " ")]) hr3
    simp only [e5]
    obtain ⟨v, hv, hm⟩ := atI_mem (xs := [V.str (z ++ M), V.str (cutS z (some 1) none), V.non, V.int 5, V.ref q, V.ref q', V.bl true, V.str (z ++ Str.ofString " ")]) (i := kind) (by omega) (by show kind < 8; omega)
    refine r_ixL (.of f5) hv ?_
    have S2 := (S3.trans S4).trans S5
    have bx : BoxAt H5 p (N + 4) := (BoxAt.mono S2 hp2).le (by omega)
    have ex := (e1.trans e2).trans (Nv.Same.ext1 S2)
    simp only [List.mem_cons, List.not_mem_nil, or_false] at hm
    rcases hm with rfl | rfl | rfl | rfl | rfl | rfl | rfl | rfl
    · exact k _ _ H5 (.str _) (.str (az.app am) (by rw [append_len]; omega)) bx ex
    · exact k _ _ H5 (.str _) (.str (az.cut _ _) (by omega)) bx ex
    · exact k _ _ H5 .non .non bx ex
    · exact k _ _ H5 (.int 5) (.int (by decide)) bx ex
    · exact k _ _ H5 (.lst (S5 _ _ (S4 _ _ f3)) nq (.cons (.str _) .nil)) (.lst az (by omega)) bx ex
    · exact k _ _ H5 (.tup (S5 _ _ f4) (.cons (.str _) .nil)) (.tup az (by omega)) bx ex
    · exact k _ _ H5 (.bl true) (.bl true) bx ex
    · exact k _ _ H5 (.str _) (.str (az.app bb) (by rw [append_len]; omega)) bx ex
end
end K01


namespace K01
open PySem L2 Nv

/-- a value that is handed to the questions -/
structure Vd (d : PyData) : Prop where
  m : Mrk d
  la : LensA d
  it : Ints d
theorem Od.asc {z : Str} (h : Od (.str z)) : Asc z ∧ z.length ≤ 120 := by
  cases h with
  | str a l => exact ⟨a, l⟩
theorem Od.bound {i : Int} (h : Od (.int i)) : -(10 ^ 20) ≤ i ∧ i ≤ 10 ^ 20 := by
  cases h with
  | int h => exact h
theorem Od.shws : ∀ {ds : List PyData}, (∀ d ∈ ds, Od d) → Shws (201 * ds.length) 1 ds
  | [], _ => Shws.nil
  | d :: ds, h => by
    have := Shws.cons (h d (by simp)).shw (Od.shws (ds := ds) fun x hx => h x (by simp [hx]))
    exact this.le (by simp only [List.length_cons]; omega) (Nat.le_refl _)
theorem Vd.tuple {ds : List PyData} (h : ∀ d ∈ ds, Od d) (l : ds.length ≤ 8) : Vd (.tuple ds) := by
  have s := Shw.tuple (Od.shws h)
  refine ⟨⟨s.le (by omega) (by decide), s.le (by omega) (by decide), fun es e => (by cases e), fun es e => (by cases e)⟩, ⟨fun z e => (by cases e), fun es e z m => ?_⟩, fun es e i m => ?_⟩
  · cases e
    have := (h _ m).asc
    exact ⟨this.1, by omega⟩
  · cases e
    have := (h _ m).bound
    omega
theorem Od.flat {d : PyData} (h : Od d) : flatD d = true ∨ ∃ e, (d = .list [e] ∨ d = .tuple [e]) ∧ flatD e = true := by
  cases h with
  | str a l => exact .inl rfl
  | non => exact .inl rfl
  | bl b => exact .inl rfl
  | int h => exact .inl rfl
  | lst a l => exact .inr ⟨_, .inl rfl, rfl⟩
  | tup a l => exact .inr ⟨_, .inr rfl, rfl⟩
  | t0 => exact .inr ⟨_, .inr rfl, rfl⟩
  | l0 => exact .inr ⟨_, .inl rfl, rfl⟩
theorem more_asc : Asc (Str.ofString "more") := asc_of (by decide +kernel)
theorem more_len : (Str.ofString "more").length = 4 := by decide +kernel
theorem Vd.list {ds : List PyData} (h : ∀ d ∈ ds, Od d) (f : ∀ d ∈ ds, flatD d = true) (l : ds.length ≤ 8) : Vd (.list ds) := by
  have s := Shw.list (Od.shws h)
  have s2 := Shw.list (Od.shws (ds := ds ++ [.str (Str.ofString "more")]) (fun d hd => by
    rcases List.mem_append.mp hd with hd | hd
    · exact h d hd
    · have : d = .str (Str.ofString "more") := by simpa using hd
      rw [this]
      exact .str more_asc (by rw [more_len]; decide)))
  refine ⟨⟨s.le (by omega) (by decide), s2.le (by simp; omega) (by decide), fun es e => ?_, fun es e => (by cases e)⟩, ⟨fun z e => (by cases e), fun es e z m => (by cases e)⟩, fun es e i m => (by cases e)⟩
  cases e
  exact ⟨by omega, f⟩
theorem Od.vd {d : PyData} (h : Od d) : Vd d := by
  have fin : isLD d = false → (∀ es, d ≠ .tuple es) → Vd d := fun e1 e2 => by
    have mk : marked d = d := by
      cases d with
      | list ds => cases e1
      | dict ds => cases e1
      | _ => rfl
    refine ⟨⟨h.shw.le (by decide) (by decide), by rw [mk]; exact h.shw.le (by decide) (by decide), fun es e => ?_, fun es e => ?_⟩, ⟨fun z e => ?_, fun es e => absurd e (e2 es)⟩, fun es e => absurd e (e2 es)⟩
    · rw [e] at e1
      cases e1
    · rw [e] at e1
      cases e1
    · subst e
      have := h.asc
      exact ⟨this.1, by omega⟩
  cases h with
  | str a l => exact fin rfl (fun es e => by cases e)
  | non => exact fin rfl (fun es e => by cases e)
  | bl b => exact fin rfl (fun es e => by cases e)
  | int h => exact fin rfl (fun es e => by cases e)
  | lst a l => exact Vd.list (by simpa using Od.str a l) (by simp [flatD]) (by show 1 ≤ 8; decide)
  | tup a l => exact Vd.tuple (by simpa using Od.str a l) (by show 1 ≤ 8; decide)
  | t0 => exact Vd.tuple (by simpa using Od.int (i := 0) (by decide)) (by decide)
  | l0 => exact Vd.list (by simpa using Od.int (i := 0) (by decide)) (by simp [flatD]) (by decide)
theorem Od.lst1 {ds : List PyData} (h : Od (.list ds)) : ds.length = 1 ∧ ∀ x ∈ ds, flatD x = true := by
  cases h with
  | lst a l => exact ⟨rfl, by simp [flatD]⟩
  | l0 => exact ⟨rfl, by simp [flatD]⟩
theorem Od.tup1 {ds : List PyData} (h : Od (.tuple ds)) : ∀ x ∈ ds, flatD x = true := by
  cases h with
  | tup a l => simp [flatD]
  | t0 => simp [flatD]
theorem od_upd {H : Hp} {v : V} {d : PyData} {l : Addr} {a b c e : V} {o : HO} (h : DV H v d) (od : Od d) (hl : H l = some (.lst [a, b, c, e])) : DV (upd H l o) v d := by
  cases h with
  | non => exact .non
  | bl b => exact .bl b
  | int i => exact .int i
  | str z => exact .str z
  | @lst q ys ds hb nb r =>
    have ne : q ≠ l := fun z => by
      rw [z, hl] at hb
      cases hb
      have h1 := r.len
      have h2 := od.lst1.1
      simp only [List.length_cons, List.length_nil] at h1
      omega
    exact .lst (by rw [upd_ne ne]; exact hb) nb (dvs_flat r od.lst1.2)
  | @tup q ys ds hb r =>
    have ne : q ≠ l := fun z => by
      rw [z, hl] at hb
      cases hb
    exact .tup (by rw [upd_ne ne]; exact hb) (dvs_flat r od.tup1)
  | dct hb r => cases od
theorem od_same {H H' : Hp} {v : V} {d : PyData} {p : Addr} (h : DV H v d) (od : Od d) (hp : ∃ a b c e, H p = some (.lst [a, b, c, e])) (e : Ext1 p H H') : DV H' v d := by
  obtain ⟨_, _, _, _, hl⟩ := hp
  cases h with
  | non => exact .non
  | bl b => exact .bl b
  | int i => exact .int i
  | str z => exact .str z
  | @lst q ys ds hb nb r =>
    have ne : q ≠ p := fun z => by
      rw [z, hl] at hb
      cases hb
      have h1 := r.len
      have h2 := od.lst1.1
      simp only [List.length_cons, List.length_nil] at h1
      omega
    exact .lst (e _ _ ne hb) nb (dvs_flat r od.lst1.2)
  | @tup q ys ds hb r =>
    have ne : q ≠ p := fun z => by
      rw [z, hl] at hb
      cases hb
    exact .tup (e _ _ ne hb) (dvs_flat r od.tup1)
  | dct hb r => cases od
theorem box_lst {H : Hp} {p : Addr} {N : Nat} (h : BoxAt H p N) : ∃ a b c e, H p = some (.lst [a, b, c, e]) := by
  obtain ⟨_, _, _, _, h, _⟩ := h
  exact ⟨_, _, _, _, h⟩
theorem box_upd {H : Hp} {p l : Addr} {N : Nat} {o : HO} (h : BoxAt H p N) (n : l ≠ p) : BoxAt (upd H l o) p N := by
  obtain ⟨i, b, m, c, hx, r⟩ := h
  exact ⟨i, b, m, c, by rw [upd_ne (Ne.symm n)]; exact hx, r⟩
theorem ext_upd {H H' : Hp} {p l : Addr} {o : HO} (e : Ext1 p H H') (n : H l = none) : Ext1 p H (upd H' l o) := fun b u nb hb => by
  rw [upd_ne (ne_of_none hb n)]
  exact e b u nb hb
theorem Vd.dict {ds : List PyData} (h : ∀ d ∈ ds, Od d) (f : ∀ d ∈ ds, flatD d = true) (l : ds.length ≤ 8) : Vd (.dict [(.str (Str.ofString "line"), .tuple ds)]) := by
  have s := Shw.tuple (Od.shws h)
  have kl : Asc (Str.ofString "line") := asc_of (by decide +kernel)
  have ll : (Str.ofString "line").length = 4 := by decide +kernel
  have sk : Shw (Str.ofString "line").length 2 (.str (Str.ofString "line")) := Shw.str kl
  have sm : Shw (Str.ofString "more").length 2 (.str (Str.ofString "more")) := Shw.str more_asc
  have si : Shw 71 2 (.int 1) := Shw.int (i := 1) (by decide)
  have ml := more_len
  refine ⟨⟨(Shw.dict1 sk s).le (by omega) (by decide), (Shw.dict2 sk s sm si).le (by omega) (by decide), fun es e => (by cases e), fun es e => ?_⟩, ⟨fun z e => (by cases e), fun es e => (by cases e)⟩, fun es e => (by cases e)⟩
  cases e
  refine .inr ⟨_, _, rfl, by decide +kernel, .inr ⟨_, rfl, f⟩⟩
theorem Vd.tup2 {ds : List PyData} (h : ∀ d ∈ ds, Od d) (l : ds.length ≤ 8) : Vd (.tuple [.tuple ds]) := by
  have s := Shw.tuple (Shws.cons (Shw.tuple (Od.shws h)) (Shws.nil (W := 0)))
  refine ⟨⟨s.le (by omega) (by decide), s.le (by omega) (by decide), fun es e => (by cases e), fun es e => (by cases e)⟩, ⟨fun z e => (by cases e), fun es e z m => ?_⟩, fun es e i m => ?_⟩
  · cases e
    simp at m
  · cases e
    simp at m
/-! data that the box is no part of -/
def boxy : List PyData → Bool
  | [.int _, .bool _, .int _, .int _] => true
  | _ => false
mutual
def nbD : PyData → Bool
  | .list ds => !boxy ds && nbDs ds
  | .tuple ds => nbDs ds
  | .dict kvs => nbKv kvs
  | _ => true
def nbDs : List PyData → Bool
  | [] => true
  | d :: r => nbD d && nbDs r
def nbKv : List (PyData × PyData) → Bool
  | [] => true
  | (_, d) :: r => nbD d && nbKv r
end
theorem boxy_of {H : Hp} {n m c : Int} {b : Bool} {ds : List PyData} (h : DVs H [.int n, .bl b, .int m, .int c] ds) : boxy ds = true := by
  have l := h.len
  match ds, l with
  | [d0, d1, d2, d3], _ =>
    cases h with
    | cons a h => cases h with
      | cons b h => cases h with
        | cons c h => cases h with
          | cons d h =>
            cases a
            cases b
            cases c
            cases d
            rfl
section
variable {H H' : Hp} {p : Addr}
mutual
theorem DV.ext (b : ∃ n b m c, H p = some (.lst [.int n, .bl b, .int m, .int c])) (e : Ext1 p H H') : ∀ {v : V} {d : PyData}, DV H v d → nbD d = true → DV H' v d
  | _, _, .non, _ => .non
  | _, _, .bl b, _ => .bl b
  | _, _, .int i, _ => .int i
  | _, _, .str x, _ => .str x
  | _, _, @DV.lst _ a xs ds h n r, q => by
    simp only [nbD, Bool.and_eq_true, Bool.not_eq_true'] at q
    refine .lst (e _ _ (fun z => ?_) h) n (DVs.ext b e r q.2)
    obtain ⟨_, _, _, _, hb⟩ := b
    rw [z, hb] at h
    cases h
    rw [boxy_of r] at q
    cases q.1
  | _, _, @DV.tup _ a xs ds h r, q => by
    simp only [nbD] at q
    refine .tup (e _ _ (fun z => ?_) h) (DVs.ext b e r q)
    obtain ⟨_, _, _, _, hb⟩ := b
    rw [z, hb] at h
    cases h
  | _, _, @DV.dct _ a xs ds h r, q => by
    simp only [nbD] at q
    refine .dct (e _ _ (fun z => ?_) h) (DVk.ext b e r q)
    obtain ⟨_, _, _, _, hb⟩ := b
    rw [z, hb] at h
    cases h
theorem DVs.ext (b : ∃ n b m c, H p = some (.lst [.int n, .bl b, .int m, .int c])) (e : Ext1 p H H') : ∀ {vs : List V} {ds : List PyData}, DVs H vs ds → nbDs ds = true → DVs H' vs ds
  | _, _, .nil, _ => .nil
  | _, _, .cons h r, q => by
    simp only [nbDs, Bool.and_eq_true] at q
    exact .cons (DV.ext b e h q.1) (DVs.ext b e r q.2)
theorem DVk.ext (b : ∃ n b m c, H p = some (.lst [.int n, .bl b, .int m, .int c])) (e : Ext1 p H H') : ∀ {vs : List (Key × V)} {ds : List (PyData × PyData)}, DVk H vs ds → nbKv ds = true → DVk H' vs ds
  | _, _, .nil, _ => .nil
  | _, _, .cons h r, q => by
    simp only [nbKv, Bool.and_eq_true] at q
    exact .cons (DV.ext b e h q.1) (DVk.ext b e r q.2)
end
end
theorem BoxAt.at {H : Hp} {p : Addr} {N : Nat} (h : BoxAt H p N) : ∃ n b m c, H p = some (.lst [.int n, .bl b, .int m, .int c]) := by
  obtain ⟨n, b, m, c, h, _⟩ := h
  exact ⟨n, b, m, c, h⟩
theorem Od.nb {d : PyData} (h : Od d) : nbD d = true := by
  cases h <;> rfl
theorem nb4 {a b c d : PyData} (ha : Od a) (hb : Od b) (hc : Od c) (hd : Od d) : nbD (.tuple [a, b, c, d]) = true := by
  simp only [nbD, nbDs, ha.nb, hb.nb, hc.nb, hd.nb, Bool.and_self]
def spOdd (K : PySem.W.Frag) : Sp := fun vs H Q _ => ∃ p a N h n c t, vs = [.ref p, .ref a] ∧ BoxAt H p N ∧ N ≤ 800000 ∧ LnOk h n c t ∧ H a = some (.tup [.int h, .int n, .str (tx c), .str (tx t)]) ∧
  ∀ u d H', (∀ H'', Ext1 p H' H'' → DV H'' u d) → Vd d → BoxAt H' p (N + 12) → Ext1 p H H' → Q u H'
section
variable {P : Program} {w : World} {K : PySem.W.Frag} {mg : Str → Option Value} {base : Heap}
theorem ok_l_odd (T : Tx K mg) : FnG P w K mg base 3 T.d_l_odd.f T.d_l_odd.fd ["_law_box_here", "_law_line_here"] (spOdd K) := by
  refine okG0 T.d_l_odd.F sc_l_odd (fun vs H Q E h => ?_) (fun cdv A outer s H vs Q E hg hr h => ?_)
  · obtain ⟨p, a, N, h, n, c, t, rfl, _⟩ := h
    rfl
  obtain ⟨p, a, N, h, n, c, t, rfl, hp, hN, ok, ha, k0⟩ := h
  have k : ∀ u d H', DV H' u d → Vd d → BoxAt H' p (N + 12) → Ext1 p H H' → nbD d = true → Q u H' := fun u d H' dv vd bx ex nb => k0 u d H' (fun H'' e => DV.ext bx.at e dv nb) vd bx ex
  have sz : sizeLine = 16777216 := sizeLine_eq
  refine ⟨_, (pss_cons (ps_par (i := 2) (j := 3) rfl sc_l_odd.nd rfl rfl (by decide) rfl rfl (pa_cons (pe_cG (ok_l_take T) T.d_l_take.b takes0 hg (hr.mono (by decide)) T.d_l_take.m T.d_l_take.F.kp (pa_cons (pv 0) (pa_cons pe_int pa_nil))) (pa_cons (pe_cG (ok_l_take T) T.d_l_take.b takes0 hg (hr.mono (by decide)) T.d_l_take.m T.d_l_take.F.kp (pa_cons (pv 0) (pa_cons pe_int pa_nil))) pa_nil)) (by rfl))
    (pss_cons (ps_set (i := 4) sc_l_odd.nd rfl (Or.inl rfl) (pe_callTy call_list_new (by rfl) T.n_list (by decide +kernel) (pa_cons (pv 1) pa_nil)))
    (C8.pss_cut (ps_if (pt_cmpR op_lt (pv 2) pe_int (nomark _))
      (pss_cons (ps_par (i := 5) (j := 6) rfl sc_l_odd.nd rfl rfl (by decide) rfl rfl (pa_cons (pe_lst1 (pa_cons (pe_un un_neg pe_int) (pa_cons pe_bl (pa_cons pe_bl (pa_cons pe_non (pa_cons pe_str (pa_cons pe_str (pa_cons (pe_tup (pa_cons pe_int pa_nil)) (pa_cons (pe_lst1 (pa_cons pe_int pa_nil)) (pa_cons (pe_op op_pow pe_int pe_int) (pa_cons (pe_un un_neg (pe_op op_pow pe_int pe_int)) pa_nil))))))))))) (pa_cons (pe_cG (ok_l_take T) T.d_l_take.b takes0 hg (hr.mono (by decide)) T.d_l_take.m T.d_l_take.F.kp (pa_cons (pv 0) (pa_cons pe_int pa_nil))) pa_nil)) (by rfl))
      (pss_cons (ps_asg (pe_ix ix_list (pv 5) (pv 3) (fun _ _ => rfl)) (pg_sub (pv 4) (pv 2) set_list))
      (pss_one (ps_asg (pe_ifExp (pt_cmpR op_eq (pe_op op_modN (pv 6) pe_int) pe_int (nomark _)) (pe_ix ix_list (pv 5) (pe_callTy call_intI (by rfl) T.n_int (by decide +kernel) (pa_cons (pe_op op_fdivN (pv 6) pe_int) pa_nil)) (fun _ _ => rfl)) (pe_ix ix_list (pv 4) (pe_op op_sub pe_int (pv 2)) (fun _ _ => rfl))) (pg_sub (pv 4) (pe_op op_sub pe_int (pv 2)) set_list)))))
      pss_nil)
    (C8.pss_cut (ps_if (pt_cmpR op_eq (pv 2) pe_int (nomark _))
      (pss_one (ps_asg (pe_cG (ok_l_odd_cell T) T.d_l_odd_cell.b takes0 hg (hr.mono (by decide)) T.d_l_odd_cell.m T.d_l_odd_cell.F.kp (pa_cons (pv 0) (pa_cons (pe_ix ix_tup (pv 1) pe_int (fun _ _ => rfl)) pa_nil))) (pg_sub (pv 4) pe_int set_list)))
      pss_nil)
    (C8.pss_cut (ps_if (pt_cmpR op_eq (pv 2) pe_int (nomark _))
      (pss_one (ps_asg (pe_cG (ok_l_odd_text T) T.d_l_odd_text.b takes0 hg (hr.mono (by decide)) T.d_l_odd_text.m T.d_l_odd_text.F.kp (pa_cons (pv 0) (pa_cons (pe_ix ix_tup (pv 1) pe_int (fun _ _ => rfl)) pa_nil))) (pg_sub (pv 4) pe_int set_list)))
      pss_nil)
    (pss_cons (ps_if (pt_cmpR op_eq (pv 2) pe_int (nomark _))
      (pss_cons (ps_set (i := 5) sc_l_odd.nd rfl (Or.inl rfl) (pe_lst1 (pa_cons (pe_callTy call_tuple_of (by rfl) T.n_tuple (by decide +kernel) (pa_cons (pe_slice sl_list (pv 4) po_none (po_some pe_int)) pa_nil)) (pa_cons (pe_callTy call_tuple_of (by rfl) T.n_tuple (by decide +kernel) (pa_cons (pe_op op_cat (pv 4) (pe_lst1 (pa_cons pe_str pa_nil))) pa_nil)) (pa_cons (pv 4) (pa_cons (pe_tup pa_nil) (pa_cons pe_non (pa_cons pe_str (pa_cons (pe_callTy call_tuple_of (by rfl) T.n_tuple (by decide +kernel) (pa_cons (pe_slice sl_list (pv 4) (po_some pe_int) po_none) pa_nil)) (pa_cons pe_int pa_nil))))))))))
      (pss_one (ps_ret (pe_ix ix_list (pe_op op_cat (pv 5) (pe_lst1 (pa_cons (pe_callTy (call_dictP rfl) (by rfl) T.n_dict (by decide +kernel) (pa_cons (pe_lst1 (pa_cons (pe_tup (pa_cons pe_str (pa_cons (pv 1) pa_nil))) pa_nil)) pa_nil)) (pa_cons (pe_tup (pa_cons (pv 1) pa_nil)) pa_nil)))) (pv 3) (fun _ _ => rfl)))))
      pss_nil)
    (pss_cons (ps_if (pt_cmpR op_eq (pv 2) pe_int (nomark _))
      (pss_one (ps_ret (pe_tup (pa_cons (pe_ix ix_list (pv 4) pe_int (fun _ _ => rfl)) (pa_cons (pe_ix ix_list (pv 4) pe_int (fun _ _ => rfl)) (pa_cons (pe_ix ix_list (pv 4) pe_int (fun _ _ => rfl)) (pa_cons (pe_ix ix_list (pv 4) pe_int (fun _ _ => rfl)) pa_nil)))))))
      pss_nil)
    (pss_one (ps_ret (pe_callTy call_tuple_of (by rfl) T.n_tuple (by decide +kernel) (pa_cons (pv 4) pa_nil))))))))))), ?_⟩
  walk_at "rd"
  refine ⟨p, 6, N, rfl, hp, by omega, by decide, by decide, fun place H1 k0 k1 hp1 e1 => ?_⟩
  refine ⟨p, 10, _, rfl, hp1, by omega, by decide, by decide, fun which H2 w0 w1 hp2 e2 => ?_⟩
  walk_at "rd"
  have h0 := ok.h0
  have h1 := ok.h1
  have n0 := ok.n0
  have n1 := ok.n1
  have o0 : Od (.int h) := .int (by omega)
  have o1 : Od (.int n) := .int (by omega)
  have ac : Asc (tx c) := fun d hd => low_lt (ok.cl d (by simpa [tx] using hd))
  have at' : Asc (tx t) := (Pl.tx ok.tp).asc
  have lc : (tx c).length ≤ 8 := by rw [tx_len]; exact ok.c1
  have lc0 : 0 < (tx c).length := by rw [tx_len]; exact ok.c0
  have lt : (tx t).length ≤ 40 := by rw [tx_len]; exact ok.t1
  have o2 : Od (.str (tx c)) := .str ac (by omega)
  have o3 : Od (.str (tx t)) := .str at' (by omega)
  have nap : a ≠ p := fun z => by
    obtain ⟨_, _, _, _, hx, _⟩ := hp
    rw [z, hx] at ha
    cases ha
  have ha2 := e2 _ _ nap (e1 _ _ nap ha)
  refine ⟨_, .inr (SqT.of ha2), fun l hl nl => ?_⟩
  obtain ⟨H3, e3, S3, f3⟩ := gen_new (.lst [V.int h, V.int n, V.str (tx c), V.str (tx t)]) hl
  simp only [e3]
  have nlp : l ≠ p := box_ne hp2 hl
  have nla : l ≠ a := fun z => by
    rw [z, ha2] at hl
    cases hl
  have hp3 := BoxAt.mono S3 hp2
  have E3 : Ext1 p H H3 := (e1.trans e2).trans (Nv.Same.ext1 S3)
  have lH : H l = none := ext_none (box_some hp) (e1.trans e2) hl nlp
  let Mid : Nat → L2.St → Hp → Prop := fun b σ' H' => ∃ v0 d0 v1 d1 v2 d2 v3 d3 y5 y6, σ' = [some (.ref p), some (.ref a), some (.int place), some (.int which), some (.ref l), y5, y6] ∧
    H' l = some (.lst [v0, v1, v2, v3]) ∧ DV H' v0 d0 ∧ DV H' v1 d1 ∧ DV H' v2 d2 ∧ DV H' v3 d3 ∧ Od d0 ∧ Od d1 ∧ Od d2 ∧ Od d3 ∧ BoxAt H' p (N + b) ∧ Ext1 p H H' ∧
    (place = 4 → v0 = .int h ∧ v1 = .int n ∧ v2 = .str (tx c) ∧ v3 = .str (tx t))
  refine ⟨Mid 3, ?_, ?_⟩
  · walk_at "rd"
    by_cases hp2' : place < 2
    · rw [if_pos hp2']
      refine ⟨by decide, fun q1 hq1 => ⟨by decide, fun q2 hq2 nq2 => ?_⟩⟩
      refine ⟨cpow_of (by decide) (by decide) (by decide) (by decide), cpow_of (by decide) (by decide) (by decide) (by decide), by decide, fun q3 hq3 nq3 => ?_⟩
      obtain ⟨H4, e4, S4, f4⟩ := gen_new (.tup [V.int 0]) hq1
      simp only [e4] at hq2 hq3 ⊢
      obtain ⟨H5, e5, S5, f5⟩ := gen_new (.lst [V.int 0]) hq2
      simp only [e5] at hq3 ⊢
      obtain ⟨H6, e6, S6, f6⟩ := gen_new (.lst [V.int (-1), V.bl true, V.bl false, V.non, V.str (Str.ofString "0"), V.str (Str.ofString ""), V.ref q1, V.ref q2, V.int (10 ^ Int.toNat 19), V.int (-10 ^ Int.toNat 19)]) hq3
      simp only [e6]
      have hp6 := BoxAt.mono S6 (BoxAt.mono S5 (BoxAt.mono S4 hp3))
      have nq3p : q3 ≠ p := box_ne (BoxAt.mono S5 (BoxAt.mono S4 hp3)) hq3
      refine ⟨p, 30, _, rfl, hp6, by omega, by decide, by decide, fun more H7 m0 m1 hp7 e7 => ?_⟩
      have f7 := e7 _ _ nq3p f6
      have odd : ∀ {i : Int}, 0 ≤ i → i < 10 → ∃ v d, atI [V.int (-1), V.bl true, V.bl false, V.non, V.str (Str.ofString "0"), V.str (Str.ofString ""), V.ref q1, V.ref q2, V.int (10 ^ Int.toNat 19), V.int (-10 ^ Int.toNat 19)] i = some v ∧ DV H7 v d ∧ Od d := by
        intro i i0 i1
        obtain ⟨v, hv, hm⟩ := atI_mem (xs := [V.int (-1), V.bl true, V.bl false, V.non, V.str (Str.ofString "0"), V.str (Str.ofString ""), V.ref q1, V.ref q2, V.int (10 ^ Int.toNat 19), V.int (-10 ^ Int.toNat 19)]) i0 i1
        have nq1p : q1 ≠ p := box_ne hp3 hq1
        have nq2p : q2 ≠ p := box_ne (BoxAt.mono S4 hp3) hq2
        have g1 := e7 _ _ nq1p (S6 _ _ (S5 _ _ f4))
        have g2 := e7 _ _ nq2p (S6 _ _ f5)
        simp only [List.mem_cons, List.not_mem_nil, or_false] at hm
        rcases hm with rfl | rfl | rfl | rfl | rfl | rfl | rfl | rfl | rfl | rfl
        · exact ⟨_, _, hv, .int _, .int (by decide)⟩
        · exact ⟨_, _, hv, .bl _, .bl _⟩
        · exact ⟨_, _, hv, .bl _, .bl _⟩
        · exact ⟨_, _, hv, .non, .non⟩
        · exact ⟨_, _, hv, .str _, .str (asc_of (by decide +kernel)) (by decide +kernel)⟩
        · exact ⟨_, _, hv, .str _, .str (asc_of (by decide +kernel)) (by decide +kernel)⟩
        · exact ⟨_, _, hv, .tup g1 (.cons (.int 0) .nil), .t0⟩
        · exact ⟨_, _, hv, .lst g2 nq2 (.cons (.int 0) .nil), .l0⟩
        · exact ⟨_, _, hv, .int _, .int (by decide)⟩
        · exact ⟨_, _, hv, .int _, .int (by decide)⟩
      have E7 : Ext1 p H H7 := (E3.trans (Nv.Same.ext1 ((S4.trans S5).trans S6))).trans e7
      have l7 := e7 _ _ nlp (S6 _ _ (S5 _ _ (S4 _ _ f3)))
      have pl : place = 0 ∨ place = 1 := by omega
      obtain ⟨v, d, hv, hdv, hod⟩ := odd w0 w1
      refine r_ixL (.of f7) hv ?_
      have nq3l : q3 ≠ l := fun z => by
        rw [z] at hq3
        have := S5 _ _ (S4 _ _ f3)
        rw [this] at hq3
        cases hq3
      have fin : ∀ (u0 : V) (g0 : PyData) (u1 : V) (g1 : PyData), DV H7 u0 g0 → Od g0 → DV H7 u1 g1 → Od g1 →
          Mid 3 [some (.ref p), some (.ref a), some (.int place), some (.int which), some (.ref l), some (.ref q3), some (.int more)] (upd H7 l (.lst [u0, u1, .str (tx c), .str (tx t)])) :=
        fun u0 g0 u1 g1 z0 y0 z1 y1 => ⟨_, _, _, _, _, _, _, _, _, _, rfl, upd_same, od_upd z0 y0 l7, od_upd z1 y1 l7, .str _, .str _, y0, y1, o2, o3, box_upd hp7 nlp, ext_upd E7 lH, fun q => by omega⟩
      have fd : more.fdiv 3 = more / 3 := Int.fdiv_eq_ediv_of_nonneg _ (by decide)
      obtain ⟨v2, d2, hv2, hdv2, hod2⟩ := odd (i := more.fdiv 3) (by rw [fd]; omega) (by rw [fd]; omega)
      rcases pl with rfl | rfl
      · refine r_setL l7 (j := 0) rfl ?_
        simp only [e_ri]
        refine ⟨by decide, rfl, ?_⟩
        by_cases hm : V.int (more.fmod 3) = V.int 0
        · rw [if_pos hm]
          refine ⟨⟨by decide, by decide⟩, _, rfl, ?_⟩
          refine r_ixL (xs := [V.int (-1), V.bl true, V.bl false, V.non, V.str (Str.ofString "0"), V.str (Str.ofString ""), V.ref q1, V.ref q2, V.int (10 ^ Int.toNat 19), V.int (-10 ^ Int.toNat 19)]) (.of (by rw [upd_ne nq3l]; exact f7)) hv2 ?_
          refine r_setL upd_same (j := 1) rfl ?_
          rw [upd_upd]
          exact fin v d v2 d2 hdv hod hdv2 hod2
        · rw [if_neg hm]
          refine r_ixL (.of upd_same) (atI_nat (j := 1) rfl) ?_
          refine r_setL upd_same (j := 1) rfl ?_
          rw [upd_upd]
          exact fin v d (.int n) (.int n) hdv hod (.int n) o1
      · refine r_setL l7 (j := 1) rfl ?_
        simp only [e_ri]
        refine ⟨by decide, rfl, ?_⟩
        by_cases hm : V.int (more.fmod 3) = V.int 0
        · rw [if_pos hm]
          refine ⟨⟨by decide, by decide⟩, _, rfl, ?_⟩
          refine r_ixL (xs := [V.int (-1), V.bl true, V.bl false, V.non, V.str (Str.ofString "0"), V.str (Str.ofString ""), V.ref q1, V.ref q2, V.int (10 ^ Int.toNat 19), V.int (-10 ^ Int.toNat 19)]) (.of (by rw [upd_ne nq3l]; exact f7)) hv2 ?_
          refine r_setL upd_same (j := 0) rfl ?_
          rw [upd_upd]
          exact fin v2 d2 v d hdv2 hod2 hdv hod
        · rw [if_neg hm]
          refine r_ixL (.of upd_same) (atI_nat (j := 0) rfl) ?_
          refine r_setL upd_same (j := 0) rfl ?_
          rw [upd_upd]
          exact fin (.int h) (.int h) v d (.int h) o0 hdv hod
    · rw [if_neg hp2']
      exact ⟨_, _, _, _, _, _, _, _, _, _, rfl, f3, .int h, .int n, .str _, .str _, o0, o1, o2, o3, hp3.le (by omega), E3, fun _ => ⟨rfl, rfl, rfl, rfl⟩⟩
  rintro σ1 H4 ⟨v0, d0, v1, d1, v2, d2, v3, d3, y5, y6, rfl, f4, x0, x1, x2, x3, p0, p1, p2, p3, hp4, E4, pl4⟩
  refine ⟨Mid 7, ?_, ?_⟩
  · walk_at "rd"
    refine ⟨rfl, ?_⟩
    by_cases h2 : place = 2
    · rw [if_pos h2]
      refine r_ixT (SqT.of (E4 _ _ nap ha)) (atI_nat (j := 2) rfl) ?_
      refine ⟨p, _, _, rfl, hp4, by omega, ac, by omega, lc0, fun u d H5 hu od hp5 e5 => ?_⟩
      have l5 := e5 _ _ nlp f4
      refine r_setL l5 (j := 2) rfl ?_
      have bl := box_lst hp4
      exact ⟨_, _, _, _, _, _, _, _, _, _, rfl, upd_same, od_upd (od_same x0 p0 bl e5) p0 l5, od_upd (od_same x1 p1 bl e5) p1 l5, od_upd hu od l5, od_upd (od_same x3 p3 bl e5) p3 l5, p0, p1, od, p3, box_upd (hp5.le (by omega)) nlp, ext_upd (E4.trans e5) lH, fun q => by omega⟩
    · rw [if_neg h2]
      exact ⟨_, _, _, _, _, _, _, _, _, _, rfl, f4, x0, x1, x2, x3, p0, p1, p2, p3, hp4.le (by omega), E4, pl4⟩
  clear x0 x1 x2 x3 p0 p1 p2 p3 hp4 E4 pl4 f4
  rintro σ1 H4 ⟨v0, d0, v1, d1, v2, d2, v3, d3, y5, y6, rfl, f4, x0, x1, x2, x3, p0, p1, p2, p3, hp4, E4, pl4⟩
  refine ⟨Mid 11, ?_, ?_⟩
  · walk_at "rd"
    refine ⟨rfl, ?_⟩
    by_cases h2 : place = 3
    · rw [if_pos h2]
      refine r_ixT (SqT.of (E4 _ _ nap ha)) (atI_nat (j := 3) rfl) ?_
      refine ⟨p, _, _, rfl, hp4, by omega, at', by omega, fun u d H5 hu od hp5 e5 => ?_⟩
      have l5 := e5 _ _ nlp f4
      refine r_setL l5 (j := 3) rfl ?_
      have bl := box_lst hp4
      exact ⟨_, _, _, _, _, _, _, _, _, _, rfl, upd_same, od_upd (od_same x0 p0 bl e5) p0 l5, od_upd (od_same x1 p1 bl e5) p1 l5, od_upd (od_same x2 p2 bl e5) p2 l5, od_upd hu od l5, p0, p1, p2, od, box_upd (hp5.le (by omega)) nlp, ext_upd (E4.trans e5) lH, fun q => by omega⟩
    · rw [if_neg h2]
      exact ⟨_, _, _, _, _, _, _, _, _, _, rfl, f4, x0, x1, x2, x3, p0, p1, p2, p3, hp4.le (by omega), E4, pl4⟩
  clear x0 x1 x2 x3 p0 p1 p2 p3 hp4 E4 pl4 f4
  rintro σ1 H4 ⟨v0, d0, v1, d1, v2, d2, v3, d3, y5, y6, rfl, f4, x0, x1, x2, x3, p0, p1, p2, p3, hp4, E4, pl4⟩
  have ha4 := E4 _ _ nap ha
  walk_at "rd"
  refine ⟨rfl, ?_⟩
  by_cases h4 : place = 4
  · rw [if_pos h4]
    obtain ⟨rfl, rfl, rfl, rfl⟩ := pl4 h4
    clear x0 x1 x2 x3
    refine ⟨l, _, rfl, .of f4, fun s1 hs1 => ?_⟩
    have c1 : cutV [V.int h, V.int n, V.str (tx c), V.str (tx t)] none (some 3) = [V.int h, V.int n, V.str (tx c)] := rfl
    have c2 : cutV [V.int h, V.int n, V.str (tx c), V.str (tx t)] (some 1) none = [V.int n, V.str (tx c), V.str (tx t)] := rfl
    rw [c1]
    obtain ⟨G1, g1, T1, y1⟩ := gen_new (.lst [V.int h, V.int n, V.str (tx c)]) hs1
    simp only [g1]
    refine ⟨_, rfl, _, .inl ⟨.of y1, fun t1 ht1 => ⟨by decide, fun s2 hs2 ns2 => ?_⟩⟩⟩
    obtain ⟨G2, g2, T2, y2⟩ := gen_new (.tup [V.int h, V.int n, V.str (tx c)]) ht1
    simp only [g2] at hs2 ⊢
    obtain ⟨G3, g3, T3, y3⟩ := gen_new (.lst [V.str (Str.ofString "")]) hs2
    simp only [g3]
    have T13 := (T1.trans T2).trans T3
    refine ⟨l, s2, _, _, rfl, rfl, T13 _ _ f4, y3, by show 5 ≤ sizeLine; decide, fun s3 hs3 => ?_⟩
    obtain ⟨G4, g4, T4, y4⟩ := gen_new (.lst ([V.int h, V.int n, V.str (tx c), V.str (tx t)] ++ [V.str (Str.ofString "")])) hs3
    simp only [g4]
    refine ⟨_, rfl, _, .inl ⟨.of y4, fun t2 ht2 => ⟨by decide, fun t3 ht3 => ?_⟩⟩⟩
    obtain ⟨G5, g5, T5, y5⟩ := gen_new (.tup ([V.int h, V.int n, V.str (tx c), V.str (tx t)] ++ [V.str (Str.ofString "")])) ht2
    simp only [g5] at ht3 ⊢
    obtain ⟨G6, g6, T6, y6⟩ := gen_new (.tup []) ht3
    simp only [g6]
    have T46 := (T4.trans T5).trans T6
    have f6 := T46 _ _ (T13 _ _ f4)
    refine ⟨l, _, rfl, .of f6, fun s4 hs4 => ?_⟩
    rw [c2]
    obtain ⟨G7, g7, T7, y7⟩ := gen_new (.lst [V.int n, V.str (tx c), V.str (tx t)]) hs4
    simp only [g7]
    refine ⟨_, rfl, _, .inl ⟨.of y7, fun t4 ht4 => ⟨by decide, fun L hL nL => ⟨by decide, fun t5 ht5 => ⟨by decide, fun s5 hs5 ns5 => ?_⟩⟩⟩⟩⟩
    obtain ⟨G8, g8, T8, y8⟩ := gen_new (.tup [V.int n, V.str (tx c), V.str (tx t)]) ht4
    simp only [g8] at hL ht5 hs5 ⊢
    obtain ⟨G9, g9, T9, y9⟩ := gen_new (.lst [V.ref t1, V.ref t2, V.ref l, V.ref t3, V.non, V.str (Str.ofString "a b"), V.ref t4, V.int 5]) hL
    simp only [g9] at ht5 hs5 ⊢
    obtain ⟨G10, g10, T10, y10⟩ := gen_new (.tup [V.str (Str.ofString "line"), V.ref a]) ht5
    simp only [g10] at hs5 ⊢
    obtain ⟨G11, g11, T11, y11⟩ := gen_new (.lst [V.ref t5]) hs5
    simp only [g11]
    refine ⟨[t5], .of y11, [(.inr (Str.ofString "line"), V.ref a)], .cons (.of (T11 _ _ y10)) .nil, ?_⟩
    have mk : mergeK [] [((.inr (Str.ofString "line") : Key), V.ref a)] = [(.inr (Str.ofString "line"), V.ref a)] := by
      simp [mergeK, putK]
    rw [mk]
    refine fun dd hdd => ⟨by decide, fun t6 ht6 => ⟨by decide, fun s6 hs6 ns6 => ?_⟩⟩
    obtain ⟨G12, g12, T12, y12⟩ := gen_new (.dK [((.inr (Str.ofString "line") : Key), V.ref a)]) hdd
    simp only [g12] at ht6 hs6 ⊢
    obtain ⟨G13, g13, T13', y13⟩ := gen_new (.tup [V.ref a]) ht6
    simp only [g13] at hs6 ⊢
    obtain ⟨G14, g14, T14, y14⟩ := gen_new (.lst [V.ref dd, V.ref t6]) hs6
    simp only [g14]
    have T914 := ((T10.trans T11).trans T12).trans (T13'.trans T14)
    refine ⟨L, s6, _, _, rfl, rfl, T914 _ _ y9, y14, by show 10 ≤ sizeLine; decide, fun s7 hs7 => ?_⟩
    obtain ⟨G15, g15, T15, y15⟩ := gen_new (.lst ([V.ref t1, V.ref t2, V.ref l, V.ref t3, V.non, V.str (Str.ofString "a b"), V.ref t4, V.int 5] ++ [V.ref dd, V.ref t6])) hs7
    simp only [g15]
    have T1415 := T14.trans T15
    have T915 := T914.trans T15
    have T8_15 := T9.trans T915
    have T6_15 := (T7.trans T8).trans T8_15
    have T4_15 := (T5.trans T6).trans T6_15
    have T2_15 := (T3.trans T4).trans T4_15
    have T0_15 := (T1.trans T2).trans T2_15
    obtain ⟨v, hv, hm⟩ := atI_mem (xs := [V.ref t1, V.ref t2, V.ref l, V.ref t3, V.non, V.str (Str.ofString "a b"), V.ref t4, V.int 5] ++ [V.ref dd, V.ref t6]) w0 w1
    refine r_ixL (.of y15) hv ?_
    have bx : BoxAt G15 p (N + 12) := (BoxAt.mono T0_15 hp4).le (by omega)
    have ex := E4.trans (Nv.Same.ext1 T0_15)
    have oe : Od (.str (Str.ofString "")) := .str (asc_of (by decide +kernel)) (by decide +kernel)
    simp only [List.cons_append, List.nil_append, List.mem_cons, List.not_mem_nil, or_false] at hm
    have ln : DV G15 (.ref a) (.tuple [.int h, .int n, .str (tx c), .str (tx t)]) := .tup (T0_15 _ _ ha4) (.cons (.int _) (.cons (.int _) (.cons (.str _) (.cons (.str _) .nil))))
    have all4 : ∀ d ∈ [PyData.int h, PyData.int n, PyData.str (tx c), PyData.str (tx t)], Od d := by
      intro d hd
      simp only [List.mem_cons, List.not_mem_nil, or_false] at hd
      rcases hd with rfl | rfl | rfl | rfl <;> assumption
    have flat4 : ∀ d ∈ [PyData.int h, PyData.int n, PyData.str (tx c), PyData.str (tx t)], flatD d = true := by
      intro d hd
      simp only [List.mem_cons, List.not_mem_nil, or_false] at hd
      rcases hd with rfl | rfl | rfl | rfl <;> rfl
    rcases hm with rfl | rfl | rfl | rfl | rfl | rfl | rfl | rfl | rfl | rfl
    · exact k _ (.tuple [.int h, .int n, .str (tx c)]) _ (.tup (T2_15 _ _ y2) (.cons (.int _) (.cons (.int _) (.cons (.str _) .nil)))) (Vd.tuple (fun d hd => all4 d (by
        simp only [List.mem_cons, List.not_mem_nil, or_false] at hd ⊢
        rcases hd with rfl | rfl | rfl <;> simp)) (by show 3 ≤ 8; decide)) bx ex rfl
    · exact k _ (.tuple [.int h, .int n, .str (tx c), .str (tx t), .str (Str.ofString "")]) _ (.tup (T6_15 _ _ (T6 _ _ y5)) (.cons (.int _) (.cons (.int _) (.cons (.str _) (.cons (.str _) (.cons (.str _) .nil)))))) (Vd.tuple (by
        intro d hd
        simp only [List.mem_cons, List.not_mem_nil, or_false] at hd
        rcases hd with rfl | rfl | rfl | rfl | rfl <;> assumption) (by show 5 ≤ 8; decide)) bx ex rfl
    · exact k _ (.list [.int h, .int n, .str (tx c), .str (tx t)]) _ (.lst (T0_15 _ _ f4) nl (.cons (.int _) (.cons (.int _) (.cons (.str _) (.cons (.str _) .nil))))) (Vd.list all4 flat4 (by show 4 ≤ 8; decide)) bx ex rfl
    · exact k _ (.tuple []) _ (.tup (T6_15 _ _ y6) .nil) (Vd.tuple (by simp) (by decide)) bx ex rfl
    · exact k _ _ _ .non Od.non.vd bx ex rfl
    · exact k _ _ _ (.str _) (Od.str (asc_of (by decide +kernel)) (by decide +kernel)).vd bx ex rfl
    · exact k _ (.tuple [.int n, .str (tx c), .str (tx t)]) _ (.tup (T8_15 _ _ y8) (.cons (.int _) (.cons (.str _) (.cons (.str _) .nil)))) (Vd.tuple (fun d hd => all4 d (by
        simp only [List.mem_cons, List.not_mem_nil, or_false] at hd ⊢
        rcases hd with rfl | rfl | rfl <;> simp)) (by show 3 ≤ 8; decide)) bx ex rfl
    · exact k _ _ _ (.int 5) (Od.int (i := 5) (by decide)).vd bx ex rfl
    · exact k _ _ _ (.dct (T1415 _ _ (T13' _ _ y12)) (.cons (k := .inr (Str.ofString "line")) ln .nil)) (Vd.dict all4 flat4 (by show 4 ≤ 8; decide)) bx ex rfl
    · exact k _ _ _ (.tup (T1415 _ _ y13) (.cons ln .nil)) (Vd.tup2 all4 (by show 4 ≤ 8; decide)) bx ex rfl
  · rw [if_neg h4]
    refine ⟨rfl, ?_⟩
    by_cases h5 : place = 5
    · rw [if_pos h5]
      refine r_ixL (.of f4) (atI_nat (j := 1) rfl) ?_
      refine r_ixL (.of f4) (atI_nat (j := 0) rfl) ?_
      refine r_ixL (.of f4) (atI_nat (j := 2) rfl) ?_
      refine r_ixL (.of f4) (atI_nat (j := 3) rfl) ⟨by decide, fun q hq => ?_⟩
      have S5 := Same.new (o := .tup [v1, v0, v2, v3]) hq
      exact k _ (.tuple [d1, d0, d2, d3]) _ (.tup upd_same (.cons (x1.mono S5) (.cons (x0.mono S5) (.cons (x2.mono S5) (.cons (x3.mono S5) .nil))))) (Vd.tuple (by
        intro d hd
        simp only [List.mem_cons, List.not_mem_nil, or_false] at hd
        rcases hd with rfl | rfl | rfl | rfl <;> assumption) (by show 4 ≤ 8; decide)) ((BoxAt.mono S5 hp4).le (by omega)) (E4.trans (Nv.Same.ext1 S5)) (nb4 p1 p0 p2 p3)
    · rw [if_neg h5]
      refine ⟨_, .inl ⟨.of f4, fun q hq => ?_⟩⟩
      have S5 := Same.new (o := .tup [v0, v1, v2, v3]) hq
      exact k _ (.tuple [d0, d1, d2, d3]) _ (.tup upd_same (.cons (x0.mono S5) (.cons (x1.mono S5) (.cons (x2.mono S5) (.cons (x3.mono S5) .nil))))) (Vd.tuple (by
        intro d hd
        simp only [List.mem_cons, List.not_mem_nil, or_false] at hd
        rcases hd with rfl | rfl | rfl | rfl <;> assumption) (by show 4 ≤ 8; decide)) ((BoxAt.mono S5 hp4).le (by omega)) (E4.trans (Nv.Same.ext1 S5)) (nb4 p0 p1 p2 p3)
end
end K01


namespace K01
open PySem L2 Nv

section
open PySem.Spec PyProof.Rows
/-- join within a comprehension -/
def rJoin (K : PySem.W.Frag) : V → List V → Hp → VK → Prop := fun x xs H Q => ∃ (a : Str) (p : Addr) (ys : List Str), x = .str a ∧ xs = [.ref p] ∧ (SqL K H p (ys.map V.str) ∨ SqT K H p (ys.map V.str)) ∧
  (ys.map (·.length)).sum + ys.length * a.length ≤ 16777216 ∧ Q (.str (Txt.join a ys)) H
theorem pe_joinK {X : Cx} {K : PySem.W.Frag} {o e : Expr} {to te : TE} {apos pos : Pos} (h : X.K = K) (ho : PE X o to) (he : PE X e te) (hs : starEach [e] X.env = [(false, eval e X.env)] := by rfl)
    (hb : attributeBase o "join" X.env (eval o X.env) = eval o X.env := by rfl) (hl : (apos.endLine == pos.line) = true := by rfl) : PE X (.Call (.Attribute o "join" apos) [e] [] pos) (tM1 (rJoin K) to te) := by
  subst h
  exact pe_join ho he hs hb hl
end
def wsW (ws : List Str) : Nat := (ws.map fun w => w.length + 1).sum
theorem split_W (z : Str) : wsW (Txt.split z (Str.ofString " ")) = z.length + 1 := by
  have e := StrLaws.join_split z (Str.ofString " ")
  have l := (split_len z).1
  have e2 : (Builtin.Str.glued (Str.ofString " ") (Txt.split z (Str.ofString " "))).length = z.length := by
    rw [StrLaws.glued_eq_join, e]
  rw [size_glued, sp_len] at e2
  have : ∀ ws : List Str, wsW ws = (ws.map (·.length)).sum + ws.length := by
    intro ws
    induction ws with
    | nil => rfl
    | cons a r ih =>
      unfold wsW at ih ⊢
      simp only [List.map_cons, List.sum_cons, List.length_cons, ih]
      omega
  rw [this]
  omega
theorem wsW_mem {w : Str} : ∀ {ws : List Str}, w ∈ ws → w.length + 1 ≤ wsW ws
  | a :: r, h => by
    unfold wsW
    simp only [List.map_cons, List.sum_cons]
    rcases List.mem_cons.mp h with rfl | h
    · omega
    · have := wsW_mem h
      unfold wsW at this
      omega
theorem wsW_app (a b : List Str) : wsW (a ++ b) = wsW a + wsW b := by
  unfold wsW
  rw [List.map_append, List.sum_append]
theorem wsW_set (x : Str) : ∀ (ws : List Str) (i : Nat), wsW (ws.set i x) ≤ wsW ws + x.length + 1
  | [], i => by
    simp [wsW]
  | a :: r, 0 => by
    unfold wsW
    simp only [List.set_cons_zero, List.map_cons, List.sum_cons]
    omega
  | a :: r, i + 1 => by
    have := wsW_set x r i
    unfold wsW at this ⊢
    simp only [List.set_cons_succ, List.map_cons, List.sum_cons]
    omega
theorem wsW_cut (ws : List Str) (i : Nat) : wsW (ws.take i) + wsW (ws.drop i) = wsW ws := by
  rw [← wsW_app, List.take_append_drop]
theorem wsW_len (ws : List Str) : wsW ws = (ws.map (·.length)).sum + ws.length := by
  induction ws with
  | nil => rfl
  | cons a r ih =>
    unfold wsW at ih ⊢
    simp only [List.map_cons, List.sum_cons, List.length_cons, ih]
    omega
theorem asc_join (ws : List Str) (h : ∀ w ∈ ws, Asc w) : Asc (Txt.join (Str.ofString " ") ws) := by
  show Asc (Builtin.Str.glued (Str.ofString " ") ws)
  cases ws with
  | nil => exact Asc.empty
  | cons a r =>
    have key : ∀ (r : List Str) (acc : Array Nat), (∀ w ∈ r, Asc w) → (∀ c ∈ acc.toList, c < 128) → ∀ c ∈ (r.foldl (fun acc p => acc ++ (Str.ofString " ").cps ++ p.cps) acc).toList, c < 128 := by
      intro r
      induction r with
      | nil => intro acc _ h c hc; exact h c hc
      | cons b r ih =>
        intro acc hr ha
        refine ih _ (fun w hw => hr w (by simp [hw])) fun c hc => ?_
        have e : (Str.ofString " ").cps.toList = [32] := by decide +kernel
        rw [Array.toList_append, Array.toList_append, e] at hc
        rcases List.mem_append.mp hc with hc | hc
        · rcases List.mem_append.mp hc with hc | hc
          · exact ha c hc
          · have : c = 32 := by simpa using hc
            omega
        · exact hr b (by simp) c hc
    exact key r a.cps (fun w hw => h w (by simp [hw])) (h a (by simp))
theorem cutV_from (xs : List V) (b : Nat) : cutV xs (some (b : Int)) none = xs.drop b := by
  unfold cutV
  rw [HT.sIx_nat, HT.sIx_none]
  by_cases h2 : b ≤ xs.length
  · rw [Nat.min_eq_left h2, List.take_of_length_le (by rw [List.length_drop]; exact Nat.le_refl _)]
  · rw [Nat.min_eq_right (by omega), List.drop_eq_nil_of_le (Nat.le_refl _), List.drop_eq_nil_of_le (by omega), List.take_nil]
theorem eqv_nil' (ds : List PyData) : PyData.eqv (.list ds) (.list []) = ds.isEmpty := by
  cases ds <;> simp [PyData.eqv, PyData.eqvAll]
theorem r_eq_nil {K : PySem.W.Frag} {H : Hp} {Q : VK} {v : V} {p : Addr} {ds : List PyData} {W D : Nat} (a : Dp K H v (.list ds)) (f : Ft W D (.list ds)) (h : D ≤ 60) (hp : H p = some (.lst [])) (q : Q (.bl ds.isEmpty) H) : rEqD K v (.ref p) H Q := by
  have sh : SeqAt.shaped (.list ds) = true := by
    unfold SeqAt.shaped
    have := f.s.p
    rw [f.c, Bool.true_and, decide_eq_true_eq]
    omega
  exact ⟨_, _, a, .lst (.of hp) .nil, sh, by decide, by rw [eqv_nil']; exact q⟩
def spSp : Sp := fun vs H Q _ => ∃ p z N, vs = [.ref p, .str z] ∧ BoxAt H p N ∧ N ≤ 800000 ∧ Asc z ∧ z.length ≤ 100 ∧ 0 < z.length ∧
  ∀ y H', Asc y → y.length ≤ 500 → BoxAt H' p (N + 12) → Ext1 p H H' → Q (.str y) H'
section
variable {P : Program} {w : World} {K : PySem.W.Frag} {mg : Str → Option Value} {base : Heap}
theorem ok_l_spoilt (T : Tx K mg) : FnG P w K mg base 3 T.d_l_spoilt.f T.d_l_spoilt.fd ["_law_box_here", "_law_text"] spSp := by
  refine okG0 T.d_l_spoilt.F sc_l_spoilt (fun vs H Q E h => ?_) (fun cdv A outer s H vs Q E hg hr h => ?_)
  · obtain ⟨p, z, N, rfl, _⟩ := h
    rfl
  obtain ⟨p, z, N, rfl, hp, hN, az, lz, l0, k⟩ := h
  have sz : sizeLine = 16777216 := sizeLine_eq
  refine ⟨_, (pss_cons (ps_par (i := 2) (j := 3) rfl sc_l_spoilt.nd rfl rfl (by decide) rfl rfl (pa_cons (pe_cG (ok_l_take T) T.d_l_take.b takes0 hg (hr.mono (by decide)) T.d_l_take.m T.d_l_take.F.kp (pa_cons (pv 0) (pa_cons pe_int pa_nil))) (pa_cons (pe_cG (ok_l_take T) T.d_l_take.b takes0 hg (hr.mono (by decide)) T.d_l_take.m T.d_l_take.F.kp (pa_cons (pv 0) (pa_cons pe_int pa_nil))) pa_nil)) (by rfl))
    (C8.pss_cut (ps_set (i := 4) sc_l_spoilt.nd rfl (Or.inl rfl) (pe_cG (ok_l_take T) T.d_l_take.b takes0 hg (hr.mono (by decide)) T.d_l_take.m T.d_l_take.F.kp (pa_cons (pv 0) (pa_cons (pe_ifExp (pt_cmpR op_eq (pv 3) pe_int (nomark _)) (pe_callB call_len_str (by rfl) T.n_len (by decide +kernel) (pa_cons (pv 1) pa_nil)) (pe_callB (call_min2 rfl) (by rfl) T.n_min (by decide +kernel) (pa_cons (pe_callB call_len_str (by rfl) T.n_len (by decide +kernel) (pa_cons (pv 1) pa_nil)) (pa_cons pe_int pa_nil)))) pa_nil))))
    (C8.pss_cut (ps_set (i := 5) sc_l_spoilt.nd rfl (Or.inl rfl) (pe_ifExp (pt_cmpR op_eq (pv 3) pe_int (nomark _)) (pe_cG (ok_l_any T) T.d_l_any.b takes0 hg (hr.mono (by decide)) T.d_l_any.m T.d_l_any.F.kp (pa_cons (pv 0) (pa_cons pe_int pa_nil))) (pe_ix ix_str pe_str (pe_cG (ok_l_take T) T.d_l_take.b takes0 hg (hr.mono (by decide)) T.d_l_take.m T.d_l_take.F.kp (pa_cons (pv 0) (pa_cons pe_int pa_nil))) (fun _ _ => rfl))))
    (pss_cons (ps_if (pt_cmpR op_lt (pv 2) pe_int (nomark _))
      (pss_one (ps_ret (pe_ix ix_list (pe_lst1 (pa_cons (pe_op op_add_str (pe_op op_add_str (pe_slice sl_str (pv 1) po_none (po_some (pv 4))) (pv 5)) (pe_slice sl_str (pv 1) (po_some (pv 4)) po_none)) (pa_cons (pe_op op_add_str (pe_slice sl_str (pv 1) po_none (po_some (pv 4))) (pe_slice sl_str (pv 1) (po_some (pe_op op_add (pv 4) pe_int)) po_none)) (pa_cons (pe_op op_add_str (pe_op op_add_str (pe_slice sl_str (pv 1) po_none (po_some (pv 4))) (pv 5)) (pe_slice sl_str (pv 1) (po_some (pe_op op_add (pv 4) pe_int)) po_none)) pa_nil)))) (pv 2) (fun _ _ => rfl))))
      pss_nil)
    (pss_cons (ps_if (pt_cmpR op_eq (pv 2) pe_int (nomark _))
      (pss_one (ps_ret (pe_op op_add_str (pe_op op_add_str (pe_op op_add_str (pe_slice sl_str (pv 1) po_none (po_some (pv 4))) (pe_slice sl_str (pv 1) (po_some (pe_op op_add (pv 4) pe_int)) (po_some (pe_op op_add (pv 4) pe_int)))) (pe_slice sl_str (pv 1) (po_some (pv 4)) (po_some (pe_op op_add (pv 4) pe_int)))) (pe_slice sl_str (pv 1) (po_some (pe_op op_add (pv 4) pe_int)) po_none))))
      pss_nil)
    (pss_cons (ps_if (pt_cmpR op_eq (pv 2) pe_int (nomark _))
      (pss_one (ps_ret (pe_op op_add_str (pv 1) pe_str)))
      pss_nil)
    (pss_cons (ps_set (i := 6) sc_l_spoilt.nd rfl (Or.inl rfl) (pe_bm PySem.F.plainAttrs_str PySem.F.slot_str_split PySem.F.type_str_split mt_split (pv 1) (pa_cons pe_str pa_nil)))
    (pss_cons (ps_par (i := 7) (j := 8) rfl sc_l_spoilt.nd rfl rfl (by decide) rfl rfl (pa_cons (pe_cG (ok_l_take T) T.d_l_take.b takes0 hg (hr.mono (by decide)) T.d_l_take.m T.d_l_take.F.kp (pa_cons (pv 0) (pa_cons (pe_callB (call_min2 rfl) (by rfl) T.n_min (by decide +kernel) (pa_cons pe_int (pa_cons (pe_callB call_len_seq (by rfl) T.n_len (by decide +kernel) (pa_cons (pv 6) pa_nil)) pa_nil))) pa_nil))) (pa_cons (pe_cG (ok_l_take T) T.d_l_take.b takes0 hg (hr.mono (by decide)) T.d_l_take.m T.d_l_take.F.kp (pa_cons (pv 0) (pa_cons (pe_callB call_len_seq (by rfl) T.n_len (by decide +kernel) (pa_cons (pv 6) pa_nil)) pa_nil))) pa_nil)) (by rfl))
    (C8.pss_cut (ps_if (pt_cmpR op_eq (pv 2) pe_int (nomark _))
      (pss_cons (ps_set (i := 9) sc_l_spoilt.nd rfl (Or.inl rfl) (pe_ix ix_list (pv 6) (pv 7) (fun _ _ => rfl)))
      (pss_cons (ps_asg (pe_ix ix_list (pv 6) (pv 8) (fun _ _ => rfl)) (pg_sub (pv 6) (pv 7) set_list))
      (pss_one (ps_asg (pv 9) (pg_sub (pv 6) (pv 8) set_list)))))
      pss_nil)
    (C8.pss_cut (ps_if (pt_cmpR op_eq (pv 2) pe_int (nomark _))
      (pss_one (ps_asg (pe_op op_add_str (pe_ix ix_list (pe_lst1 (pa_cons pe_str (pa_cons pe_str (pa_cons pe_str (pa_cons pe_str (pa_cons pe_str pa_nil)))))) (pe_cG (ok_l_take T) T.d_l_take.b takes0 hg (hr.mono (by decide)) T.d_l_take.m T.d_l_take.F.kp (pa_cons (pv 0) (pa_cons pe_int pa_nil))) (fun _ _ => rfl)) (pe_ix ix_list (pv 6) (pv 7) (fun _ _ => rfl))) (pg_sub (pv 6) (pv 7) set_list)))
      pss_nil)
    (C8.pss_cut (ps_if (pt_cmpR op_eq (pv 2) pe_int (nomark _))
      (pss_one (ps_set (i := 6) sc_l_spoilt.nd rfl (Or.inl rfl) (pe_op op_cat (pe_slice sl_list (pv 6) po_none (po_some (pv 7))) (pe_slice sl_list (pv 6) (po_some (pe_op op_add (pv 7) pe_int)) po_none))))
      pss_nil)
    (C8.pss_cut (ps_if (pt_cmpR op_eq (pv 2) pe_int (nomark _))
      (pss_one (ps_set (i := 6) sc_l_spoilt.nd rfl (Or.inl rfl) (pe_op op_cat (pe_op op_cat (pe_slice sl_list (pv 6) po_none (po_some (pv 7))) (pe_lst1 (pa_cons (pe_ix ix_list (pv 6) (pv 7) (fun _ _ => rfl)) pa_nil))) (pe_slice sl_list (pv 6) (po_some (pv 7)) po_none))))
      pss_nil)
    (C8.pss_cut (ps_if (pt_cmpR op_eq (pv 2) pe_int (nomark _))
      (pss_one (ps_asg (pe_op op_add_str (pe_ix ix_list (pv 6) (pv 7) (fun _ _ => rfl)) (pe_ix ix_list (pe_lst1 (pa_cons pe_str (pa_cons pe_str (pa_cons pe_str (pa_cons pe_str (pa_cons (pe_op op_mul_str pe_str pe_int) pa_nil)))))) (pe_cG (ok_l_take T) T.d_l_take.b takes0 hg (hr.mono (by decide)) T.d_l_take.m T.d_l_take.F.kp (pa_cons (pv 0) (pa_cons pe_int pa_nil))) (fun _ _ => rfl))) (pg_sub (pv 6) (pv 7) set_list)))
      pss_nil)
    (pss_one (ps_ret (pe_join pe_str (pv 6))))))))))))))))), ?_⟩
  walk_at "rd"
  refine ⟨p, 10, N, rfl, hp, by omega, by decide, by decide, fun which H1 w0 w1 hp1 e1 => ?_⟩
  refine ⟨p, 3, _, rfl, hp1, by omega, by decide, by decide, fun near H2 n0 n1 hp2 e2 => ?_⟩
  have E2 := e1.trans e2
  let Mid0 : L2.St → Hp → Prop := fun σ' H' => ∃ (at_ : Int), 0 ≤ at_ ∧ at_ < z.length ∧ σ' = [some (.ref p), some (.str z), some (.int which), some (.int near), some (.int at_), none, none, none, none, none] ∧
    BoxAt H' p (N + 3) ∧ Ext1 p H H'
  let Mid : L2.St → Hp → Prop := fun σ' H' => ∃ (at_ : Int) (c : Nat), 0 ≤ at_ ∧ at_ < z.length ∧ c < 128 ∧ σ' = [some (.ref p), some (.str z), some (.int which), some (.int near), some (.int at_), some (.str ⟨#[c]⟩), none, none, none, none] ∧
    BoxAt H' p (N + 4) ∧ Ext1 p H H'
  walk_at "rd"
  refine ⟨Mid0, ?_, ?_⟩
  · walk_at "rd"
    refine ⟨rfl, ?_⟩
    by_cases hn : near = 0
    · rw [if_pos hn]
      refine ⟨by omega, p, _, _, rfl, hp2, by omega, by omega, by omega, fun at_ H3 a0 a1 hp3 e3 => ?_⟩
      exact ⟨at_, a0, a1, rfl, hp3, E2.trans e3⟩
    · rw [if_neg hn]
      refine ⟨by omega, ?_⟩
      refine ⟨_, _, ⟨rfl, rfl⟩, p, _, _, rfl, hp2, by omega, by split <;> omega, by split <;> omega, fun at_ H3 a0 a1 hp3 e3 => ?_⟩
      exact ⟨at_, a0, by split at a1 <;> omega, rfl, hp3, E2.trans e3⟩
  rintro σ1 H3 ⟨at_, a0, a1, rfl, hp3, E3⟩
  refine ⟨Mid, ?_, ?_⟩
  · walk_at "rd"
    refine ⟨rfl, ?_⟩
    by_cases h2 : near = 2
    · rw [if_pos h2]
      refine ⟨p, 1, _, rfl, hp3, by omega, by decide, fun l H4 hl hb hp4 e4 => ?_⟩
      obtain ⟨c, rfl⟩ : ∃ c, l = [c] := by
        match l, hl with
        | [c], _ => exact ⟨c, rfl⟩
      have := pc_lt (hb c (by simp))
      exact ⟨at_, c, a0, a1, by omega, rfl, hp4, E3.trans e4⟩
    · rw [if_neg h2]
      refine ⟨p, 9, _, rfl, hp3, by omega, by decide, by decide, fun d H4 d0 d1 hp4 e4 => ?_⟩
      obtain ⟨c, hc, c1⟩ : ∃ c, atI (Str.ofString " 0190a z\n").cps.toList d = some c ∧ c < 128 := by
        obtain ⟨c, h1, h2⟩ := atI_mem (xs := (Str.ofString " 0190a z\n").cps.toList) d0 (by
          have : (Str.ofString " 0190a z\n").cps.toList.length = 9 := by decide +kernel
          omega)
        exact ⟨c, h1, (show ∀ c ∈ (Str.ofString " 0190a z\n").cps.toList, c < 128 from by decide +kernel) c h2⟩
      have ls : (Str.ofString " 0190a z\n").length ≤ sizeLine := by
        have : (Str.ofString " 0190a z\n").length = 9 := by decide +kernel
        omega
      simp only [e_ixS]
      exact ⟨c, ls, hc, at_, c, a0, a1, c1, rfl, hp4, E3.trans e4⟩
  clear hp3 E3 a0 a1
  rintro σ1 H4 ⟨at_, c, a0, a1, c1, rfl, hp4, E4⟩
  walk_at "rd"
  have one : (⟨#[c]⟩ : Str).length = 1 := rfl
  have ac := Asc.one c1
  have cl : ∀ lo hi, (cutS z lo hi).length ≤ z.length := fun lo hi => cutS_length _ _ _
  by_cases h3 : which < 3
  · rw [if_pos h3]
    have q1 := cl none (some at_)
    have q2 := cl (some at_) none
    have q3 := cl (some (at_ + 1)) none
    refine ⟨by omega, by omega, by omega, by rw [append_len]; omega, by omega, by omega, by omega, by omega, by omega, by omega, by rw [append_len]; omega, by decide, fun q hq nq => ?_⟩
    obtain ⟨H5, e5, S5, f5⟩ := gen_new (.lst [V.str (cutS z none (some at_) ++ ⟨#[c]⟩ ++ cutS z (some at_) none), V.str (cutS z none (some at_) ++ cutS z (some (at_ + 1)) none), V.str (cutS z none (some at_) ++ ⟨#[c]⟩ ++ cutS z (some (at_ + 1)) none)]) hq
    simp only [e5]
    obtain ⟨v, hv, hm⟩ := atI_mem (xs := [V.str (cutS z none (some at_) ++ ⟨#[c]⟩ ++ cutS z (some at_) none), V.str (cutS z none (some at_) ++ cutS z (some (at_ + 1)) none), V.str (cutS z none (some at_) ++ ⟨#[c]⟩ ++ cutS z (some (at_ + 1)) none)]) w0 h3
    refine r_ixL (.of f5) hv ?_
    have bx := (BoxAt.mono S5 hp4).le (show N + 4 ≤ N + 12 by omega)
    have ex := E4.trans (Nv.Same.ext1 S5)
    simp only [List.mem_cons, List.not_mem_nil, or_false] at hm
    rcases hm with rfl | rfl | rfl
    · exact k _ H5 (((az.cut _ _).app ac).app (az.cut _ _)) (by rw [append_len, append_len]; omega) bx ex
    · exact k _ H5 ((az.cut _ _).app (az.cut _ _)) (by rw [append_len]; omega) bx ex
    · exact k _ H5 (((az.cut _ _).app ac).app (az.cut _ _)) (by rw [append_len, append_len]; omega) bx ex
  rw [if_neg h3]
  refine ⟨rfl, ?_⟩
  by_cases h33 : which = 3
  · rw [if_pos h33]
    have q1 := cl none (some at_)
    have q2 := cl (some (at_ + 1)) (some (at_ + 2))
    have q3 := cl (some at_) (some (at_ + 1))
    have q4 := cl (some (at_ + 2)) none
    refine ⟨by omega, by omega, by omega, by omega, by rw [append_len]; omega, by omega, by rw [append_len, append_len]; omega, ?_⟩
    exact k _ H4 ((((az.cut _ _).app (az.cut _ _)).app (az.cut _ _)).app (az.cut _ _)) (by rw [append_len, append_len, append_len]; omega) (hp4.le (by omega)) E4
  rw [if_neg h33]
  refine ⟨rfl, ?_⟩
  by_cases h9 : which = 9
  · rw [if_pos h9]
    have nl : (Str.ofString "\n").length = 1 := by decide +kernel
    refine ⟨by omega, ?_⟩
    exact k _ H4 (az.app (asc_of (by decide +kernel))) (by rw [append_len]; omega) (hp4.le (by omega)) E4
  rw [if_neg h9]
  have W0 := split_W z
  have len0 := split_len z
  obtain ⟨ws, hws⟩ : ∃ ws, Txt.split z (Str.ofString " ") = ws := ⟨_, rfl⟩
  rw [hws] at W0 len0
  have asc0 : ∀ w ∈ ws, Asc w := fun w hw c hc => az c ((split_sub (x := z) (p := w) (by rw [hws]; exact hw)).2 c hc)
  refine ⟨rfl, by decide +kernel, by omega, ?_⟩
  rw [hws]
  intro l hl
  obtain ⟨H5, e5, S5, f5⟩ := gen_new (.lst (ws.map V.str)) hl
  simp only [e5]
  have nlp : l ≠ p := box_ne hp4 hl
  have lH : H l = none := ext_none (box_some hp) E4 hl nlp
  have hp5 := BoxAt.mono S5 hp4
  have ml : ((ws.map V.str).length : Int) = (ws.length : Int) := by rw [List.length_map]
  refine ⟨_, rfl, _, .inl (.of f5), _, _, ⟨rfl, rfl⟩, ?_⟩
  rw [ml]
  refine ⟨p, _, _, rfl, hp5, by omega, by split <;> omega, by split <;> omega, fun one H6 o0 o1 hp6 e6 => ?_⟩
  have f6 := e6 _ _ nlp f5
  refine ⟨_, rfl, _, .inl (.of f6), ?_⟩
  rw [ml]
  refine ⟨p, _, _, rfl, hp6, by omega, by omega, by omega, fun other H7 t0 t1 hp7 e7 => ?_⟩
  have f7 := e7 _ _ nlp f6
  have E7 := ((E4.trans (Nv.Same.ext1 S5)).trans e6).trans e7
  obtain ⟨on, rfl⟩ : ∃ j : Nat, one = (j : Int) := ⟨one.toNat, by omega⟩
  obtain ⟨ot, rfl⟩ : ∃ j : Nat, other = (j : Int) := ⟨other.toNat, by omega⟩
  have hon : on < ws.length := by
    split at o1 <;> omega
  have hot : ot < ws.length := by omega
  have ion : atI (ws.map V.str) (on : Int) = some (V.str ws[on]) := atI_nat (by simp [hon])
  have iot : atI (ws.map V.str) (ot : Int) = some (V.str ws[ot]) := atI_nat (by simp [hot])
  have lon := wsW_mem (List.getElem_mem hon)
  have lot := wsW_mem (List.getElem_mem hot)
  have aon := asc0 _ (List.getElem_mem hon)
  have aot := asc0 _ (List.getElem_mem hot)
  have jon : ixN (ws.map V.str).length (on : Int) = some on := by
    unfold ixN
    rw [List.length_map, if_pos (by omega), if_pos (by omega)]
    rfl
  have jot : ixN (ws.map V.str).length (ot : Int) = some ot := by
    unfold ixN
    rw [List.length_map, if_pos (by omega), if_pos (by omega)]
    rfl
  let MidW : Int → Nat → L2.St → Hp → Prop := fun b mm σ' H' => ∃ (l' : Addr) (ws' : List Str) (y9 : Option V), σ' = [some (.ref p), some (.str z), some (.int which), some (.int near), some (.int at_), some (.str ⟨#[c]⟩), some (.ref l'), some (.int (on : Int)), some (.int (ot : Int)), y9] ∧
    H' l' = some (.lst (ws'.map V.str)) ∧ wsW ws' ≤ 3 * wsW ws + 60 ∧ (∀ w ∈ ws', Asc w) ∧ BoxAt H' p (N + mm) ∧ Ext1 p H H' ∧ (b ≤ which → l' = l ∧ ws' = ws)
  refine ⟨MidW 5 7, ?_, ?_⟩
  · walk_at "rd"
    refine ⟨rfl, ?_⟩
    by_cases h4 : which = 4
    · rw [if_pos h4]
      refine r_ixL (.of f7) ion ?_
      refine r_ixL (.of f7) iot ?_
      refine r_setL f7 jon ?_
      refine r_setL upd_same (by rw [List.length_set]; exact jot) ?_
      rw [upd_upd]
      refine ⟨l, (ws.set on ws[ot]).set ot ws[on], _, rfl, by rw [upd_same, List.map_set, List.map_set], ?_, ?_, box_upd (hp7.le (by omega)) nlp, ext_upd E7 lH, fun q => by omega⟩
      · have a1 := wsW_set ws[on] (ws.set on ws[ot]) ot
        have a2 := wsW_set ws[ot] ws on
        omega
      · intro w hw
        rcases List.mem_or_eq_of_mem_set hw with hw | rfl
        · rcases List.mem_or_eq_of_mem_set hw with hw | rfl
          · exact asc0 w hw
          · exact aot
        · exact aon
    · rw [if_neg h4]
      exact ⟨l, ws, _, rfl, f7, by omega, asc0, hp7.le (by omega), E7, fun _ => ⟨rfl, rfl⟩⟩
  clear hp7 E7 f7 e7 e6 f6 hp6 f5 hp5
  rintro σ1 H8 ⟨l', ws', y9, rfl, f8, hw8, ha8, hp8, E8, pl⟩
  refine ⟨MidW 6 8, ?_, ?_⟩
  · walk_at "rd"
    refine ⟨rfl, ?_⟩
    by_cases h5 : which = 5
    · rw [if_pos h5]
      obtain ⟨rfl, rfl⟩ := pl (by omega)
      refine ⟨by decide, fun q hq nq => ?_⟩
      obtain ⟨G, eg, SG, fg⟩ := gen_new (.lst [V.str (Str.ofString "0"), V.str (Str.ofString "+"), V.str (Str.ofString "-"), V.str (Str.ofString " "), V.str (Str.ofString "_")]) hq
      simp only [eg]
      have nqp : q ≠ p := box_ne hp8 hq
      refine ⟨p, 5, _, rfl, BoxAt.mono SG hp8, by omega, by decide, by decide, fun d G2 d0 d1 hp9 e9 => ?_⟩
      obtain ⟨v, hv, hm⟩ := atI_mem (xs := [V.str (Str.ofString "0"), V.str (Str.ofString "+"), V.str (Str.ofString "-"), V.str (Str.ofString " "), V.str (Str.ofString "_")]) d0 d1
      obtain ⟨x, rfl, xl, xa⟩ : ∃ x, v = V.str x ∧ x.length ≤ 41 ∧ Asc x := by
        simp only [List.mem_cons, List.not_mem_nil, or_false] at hm
        rcases hm with rfl | rfl | rfl | rfl | rfl
        · exact ⟨_, rfl, by decide +kernel, asc_of (by decide +kernel)⟩
        · exact ⟨_, rfl, by decide +kernel, asc_of (by decide +kernel)⟩
        · exact ⟨_, rfl, by decide +kernel, asc_of (by decide +kernel)⟩
        · exact ⟨_, rfl, by decide +kernel, asc_of (by decide +kernel)⟩
        · exact ⟨_, rfl, by decide +kernel, asc_of (by decide +kernel)⟩
      refine r_ixL (.of (e9 _ _ nqp fg)) hv ?_
      have fw := e9 _ _ nlp (SG _ _ f8)
      refine r_ixL (.of fw) ion ⟨_, rfl, _, rfl, by omega, ?_⟩
      refine r_setL fw jon ?_
      refine ⟨l', ws'.set on (x ++ ws'[on]), _, rfl, by rw [upd_same, List.map_set], ?_, ?_, box_upd (hp9.le (by omega)) nlp, ext_upd ((E8.trans (Nv.Same.ext1 SG)).trans e9) lH, fun q => by omega⟩
      · have := wsW_set (x ++ ws'[on]) ws' on
        rw [append_len] at this
        omega
      · intro w hw
        rcases List.mem_or_eq_of_mem_set hw with hw | rfl
        · exact ha8 w hw
        · exact xa.app aon
    · rw [if_neg h5]
      exact ⟨l', ws', _, rfl, f8, hw8, ha8, hp8.le (by omega), E8, fun q => pl (by omega)⟩
  clear f8 hw8 ha8 hp8 E8 pl
  rintro σ1 H9 ⟨l', ws', y9, rfl, f8, hw8, ha8, hp8, E8, pl⟩
  refine ⟨MidW 7 8, ?_, ?_⟩
  · walk_at "rd"
    refine ⟨rfl, ?_⟩
    by_cases h5 : which = 6
    · rw [if_pos h5]
      obtain ⟨rfl, rfl⟩ := pl (by omega)
      have c1 := cutV_to (ws'.map V.str) on
      have c2 := cutV_from (ws'.map V.str) (on + 1)
      rw [show ((on + 1 : Nat) : Int) = (on : Int) + 1 from by omega] at c2
      refine ⟨l', _, rfl, .of f8, fun q1 hq1 => ?_⟩
      rw [c1]
      obtain ⟨G1, g1, S1, y1⟩ := gen_new (.lst ((ws'.map V.str).take on)) hq1
      simp only [g1]
      refine ⟨l', _, rfl, .of (S1 _ _ f8), fun q2 hq2 => ?_⟩
      rw [c2]
      obtain ⟨G2, g2, S2, y2⟩ := gen_new (.lst ((ws'.map V.str).drop (on + 1))) hq2
      simp only [g2]
      refine ⟨q1, q2, _, _, rfl, rfl, S2 _ _ y1, y2, ?_, fun q3 hq3 => ?_⟩
      · rw [List.length_take, List.length_drop, List.length_map]
        omega
      · have S3 := (S1.trans S2).trans (Same.new (o := .lst ((ws'.map V.str).take on ++ (ws'.map V.str).drop (on + 1))) hq3)
        refine ⟨q3, ws'.take on ++ ws'.drop (on + 1), _, rfl, by rw [upd_same, List.map_append, List.map_take, List.map_drop], ?_, ?_, BoxAt.mono S3 (hp8.le (by omega)), E8.trans (Nv.Same.ext1 S3), fun q => by omega⟩
        · have a1 := wsW_cut ws' on
          have a2 := wsW_cut (ws'.drop on) 1
          rw [List.drop_drop] at a2
          rw [wsW_app]
          omega
        · intro w hw
          rcases List.mem_append.mp hw with hw | hw
          · exact ha8 w (List.mem_of_mem_take hw)
          · exact ha8 w (List.mem_of_mem_drop hw)
    · rw [if_neg h5]
      exact ⟨l', ws', _, rfl, f8, hw8, ha8, hp8.le (by omega), E8, fun q => pl (by omega)⟩
  clear f8 hw8 ha8 hp8 E8 pl
  rintro σ1 H10 ⟨l', ws', y9, rfl, f8, hw8, ha8, hp8, E8, pl⟩
  refine ⟨MidW 8 8, ?_, ?_⟩
  · walk_at "rd"
    refine ⟨rfl, ?_⟩
    by_cases h5 : which = 7
    · rw [if_pos h5]
      obtain ⟨rfl, rfl⟩ := pl (by omega)
      have c1 := cutV_to (ws'.map V.str) on
      have c2 := cutV_from (ws'.map V.str) on
      refine ⟨l', _, rfl, .of f8, fun q1 hq1 => ?_⟩
      rw [c1]
      obtain ⟨G1, g1, S1, y1⟩ := gen_new (.lst ((ws'.map V.str).take on)) hq1
      simp only [g1]
      refine r_ixL (.of (S1 _ _ f8)) ion ⟨by decide, fun q2 hq2 nq2 => ?_⟩
      obtain ⟨G2, g2, S2, y2⟩ := gen_new (.lst [V.str ws'[on]]) hq2
      simp only [g2]
      refine ⟨q1, q2, _, _, rfl, rfl, S2 _ _ y1, y2, ?_, fun q3 hq3 => ?_⟩
      · rw [List.length_take, List.length_map]
        simp only [List.length_cons, List.length_nil]
        omega
      obtain ⟨G3, g3, S3, y3⟩ := gen_new (.lst ((ws'.map V.str).take on ++ [V.str ws'[on]])) hq3
      simp only [g3]
      have S13 := (S1.trans S2).trans S3
      refine ⟨l', _, rfl, .of (S13 _ _ f8), fun q4 hq4 => ?_⟩
      rw [c2]
      obtain ⟨G4, g4, S4, y4⟩ := gen_new (.lst ((ws'.map V.str).drop on)) hq4
      simp only [g4]
      refine ⟨q3, q4, _, _, rfl, rfl, S4 _ _ y3, y4, ?_, fun q5 hq5 => ?_⟩
      · rw [List.length_append, List.length_take, List.length_drop, List.length_map]
        simp only [List.length_cons, List.length_nil]
        omega
      · have S5 := (S13.trans S4).trans (Same.new (o := .lst ((ws'.map V.str).take on ++ [V.str ws'[on]] ++ (ws'.map V.str).drop on)) hq5)
        refine ⟨q5, ws'.take on ++ [ws'[on]] ++ ws'.drop on, _, rfl, by rw [upd_same, List.map_append, List.map_append, List.map_take, List.map_drop]; rfl, ?_, ?_, BoxAt.mono S5 (hp8.le (by omega)), E8.trans (Nv.Same.ext1 S5), fun q => by omega⟩
        · have a1 := wsW_cut ws' on
          have a2 : wsW [ws'[on]] = ws'[on].length + 1 := rfl
          rw [wsW_app, wsW_app]
          omega
        · intro w hw
          rcases List.mem_append.mp hw with hw | hw
          · rcases List.mem_append.mp hw with hw | hw
            · exact ha8 w (List.mem_of_mem_take hw)
            · have : w = ws'[on] := by simpa using hw
              rw [this]
              exact aon
          · exact ha8 w (List.mem_of_mem_drop hw)
    · rw [if_neg h5]
      exact ⟨l', ws', _, rfl, f8, hw8, ha8, hp8.le (by omega), E8, fun q => pl (by omega)⟩
  clear f8 hw8 ha8 hp8 E8 pl
  rintro σ1 H11 ⟨l', ws', y9, rfl, f8, hw8, ha8, hp8, E8, pl⟩
  refine ⟨MidW 9 9, ?_, ?_⟩
  · walk_at "rd"
    refine ⟨rfl, ?_⟩
    by_cases h5 : which = 8
    · rw [if_pos h5]
      obtain ⟨rfl, rfl⟩ := pl (by omega)
      refine r_ixL (.of f8) ion ⟨mulOk_of (by decide) (by decide) (by decide +kernel), by decide, ?_⟩
      obtain ⟨M, hM⟩ : ∃ M, Txt.mul (Str.ofString "~") 41 = M := ⟨_, rfl⟩
      have lM : M.length ≤ 41 := by
        have := mul_len (Str.ofString "~") 41
        rw [hM] at this
        have l1 : (Str.ofString "~").length = 1 := by decide +kernel
        rw [l1] at this
        exact this
      have aM : Asc M := by
        rw [← hM]
        exact Asc.mul (asc_of (by decide +kernel)) _
      rw [hM]
      intro q hq nq
      obtain ⟨G, eg, SG, fg⟩ := gen_new (.lst [V.str (Str.ofString "0"), V.str (Str.ofString " "), V.str (Str.ofString "_"), V.str (Str.ofString "x"), V.str M]) hq
      simp only [eg]
      have nqp : q ≠ p := box_ne hp8 hq
      refine ⟨p, 5, _, rfl, BoxAt.mono SG hp8, by omega, by decide, by decide, fun d G2 d0 d1 hp9 e9 => ?_⟩
      obtain ⟨v, hv, hm⟩ := atI_mem (xs := [V.str (Str.ofString "0"), V.str (Str.ofString " "), V.str (Str.ofString "_"), V.str (Str.ofString "x"), V.str M]) d0 d1
      obtain ⟨x, rfl, xl, xa⟩ : ∃ x, v = V.str x ∧ x.length ≤ 41 ∧ Asc x := by
        simp only [List.mem_cons, List.not_mem_nil, or_false] at hm
        rcases hm with rfl | rfl | rfl | rfl | rfl
        · exact ⟨_, rfl, by decide +kernel, asc_of (by decide +kernel)⟩
        · exact ⟨_, rfl, by decide +kernel, asc_of (by decide +kernel)⟩
        · exact ⟨_, rfl, by decide +kernel, asc_of (by decide +kernel)⟩
        · exact ⟨_, rfl, by decide +kernel, asc_of (by decide +kernel)⟩
        · exact ⟨_, rfl, lM, aM⟩
      refine r_ixL (.of (e9 _ _ nqp fg)) hv ⟨_, rfl, _, rfl, by omega, ?_⟩
      have fw := e9 _ _ nlp (SG _ _ f8)
      refine r_setL fw jon ?_
      refine ⟨l', ws'.set on (ws'[on] ++ x), _, rfl, by rw [upd_same, List.map_set], ?_, ?_, box_upd (hp9.le (by omega)) nlp, ext_upd ((E8.trans (Nv.Same.ext1 SG)).trans e9) lH, fun q => by omega⟩
      · have := wsW_set (ws'[on] ++ x) ws' on
        rw [append_len] at this
        omega
      · intro w hw
        rcases List.mem_or_eq_of_mem_set hw with hw | rfl
        · exact ha8 w hw
        · exact aon.app xa
    · rw [if_neg h5]
      exact ⟨l', ws', _, rfl, f8, hw8, ha8, hp8.le (by omega), E8, fun q => pl (by omega)⟩
  clear f8 hw8 ha8 hp8 E8 pl
  rintro σ1 H12 ⟨l', ws', y9, rfl, f8, hw8, ha8, hp8, E8, pl⟩
  walk_at "rd"
  have wl := wsW_len ws'
  refine ⟨⟨_, rfl⟩, ws', .inl (.of f8), by rw [sp_len]; omega, ?_⟩
  have jl : (Txt.join (Str.ofString " ") ws').length ≤ wsW ws' := by
    show (Builtin.Str.glued (Str.ofString " ") ws').length ≤ _
    rw [size_glued, sp_len]
    omega
  exact k _ H12 (asc_join ws' ha8) (by omega) (hp8.le (by omega)) E8
theorem ok_l_short (T : Tx K mg) : FnG P w K mg base 1 T.d_l_short.f T.d_l_short.fd ["_law_text"] (fun vs H Q _ => ∃ z, vs = [.str z] ∧ Asc z ∧ z.length ≤ 500 ∧ ∀ b H', Same H H' → Q (.bl b) H') := by
  refine okG0 T.d_l_short.F sc_l_short (fun vs H Q E h => ?_) (fun cdv A outer s H vs Q E hg hr h => ?_)
  · obtain ⟨z, rfl, _⟩ := h
    rfl
  obtain ⟨z, rfl, az, lz, k⟩ := h
  have sz : sizeLine = 16777216 := sizeLine_eq
  refine ⟨_, (pss_cons (ps_setLc (i := 1) (own := [("_law_word", 3)]) (g := gName 3) (tt := tYes) rfl sc_l_short.nd rfl rfl (sw_true rfl rfl rfl (by decide +kernel)) (pi_list (pe_slice sl_list (pe_bm PySem.F.plainAttrs_str PySem.F.slot_str_split PySem.F.type_str_split mt_split (pv 0) (pa_cons pe_str pa_nil)) po_none (po_some pe_int))) (blkOk_by (N := ["_law_text", "_law_words", "_law_sign", "_law_word"]) (sc := defScope s_l_short) (by decide +kernel)) (fun _ _ _ _ _ => pg_name (i := 3) sc_l_short.nd rfl (Or.inl rfl)) (fun _ _ _ _ _ => pts_nil) (fun _ _ _ _ _ => (pe_joinK (K := K) rfl pe_str (pe_lc (own := [("_law_sign", 2)]) (g := gName 2) rfl sc_l_short.nd (pi_str (pv 3)) (blkOk_by (N := ["_law_text", "_law_words", "_law_sign", "_law_word"]) (sc := { kind := ScopeKind.function, names := [(".0", NameKind.local), ("_law_word", NameKind.local)], isGenerator := false, isCoroutine := false }) (by decide +kernel)) (fun _ _ _ _ _ => pg_name (i := 2) sc_l_short.nd rfl (Or.inl rfl)) (fun _ _ _ _ _ => (pts_one (pt_cmpR op_in_sign (pv 2) pe_str (by rfl)))) (fun _ _ _ _ _ => (pv 2))))))
    (pss_one (ps_ret (pe_cmpR (op_eqD hr.units) (pe_lc (own := [("_law_word", 3)]) (g := gName 3) rfl sc_l_short.nd (pi_list (pv 1)) (blkOk_by (N := ["_law_text", "_law_words", "_law_sign", "_law_word"]) (sc := defScope s_l_short) (by decide +kernel)) (fun _ _ _ _ _ => pg_name (i := 3) sc_l_short.nd rfl (Or.inl rfl)) (fun _ _ _ _ _ => (pts_one (pt_cmpR op_gt (pe_callB call_len_str (by rfl) T.n_len (by decide +kernel) (pa_cons (pv 3) pa_nil)) pe_int (nomark _)))) (fun _ _ _ _ _ => (pv 3))) (pe_lst1 pa_nil) (nomark _))))), ?_⟩
  walk_at "rd"
  refine ⟨_, rfl, rfl, z, rfl, _, rfl, by decide +kernel, by omega, fun l1 hl1 => ?_⟩
  obtain ⟨ws, hws⟩ : ∃ ws, Txt.split z (Str.ofString " ") = ws := ⟨_, rfl⟩
  have sub : ∀ w ∈ ws, w.length ≤ 500 ∧ Asc w := fun w hw => by
    have := split_sub (x := z) (p := w) (by rw [hws]; exact hw)
    exact ⟨by omega, fun c hc => az c (this.2 c hc)⟩
  rw [hws]
  obtain ⟨H1, e1, S1, f1⟩ := gen_new (.lst (ws.map V.str)) hl1
  simp only [e1]
  refine ⟨3, rfl, l1, _, rfl, SqL.of f1, fun q hq => ?_⟩
  have c3 := cutV_to (ws.map V.str) 3
  rw [show ((3 : Nat) : Int) = 3 from rfl] at c3
  rw [c3]
  obtain ⟨H2, e2, S2, f2⟩ := gen_new (.lst ((ws.map V.str).take 3)) hq
  simp only [e2]
  have f2' : H2 q = some (.lst ((ws.take 3).map V.str)) := by rw [f2, List.map_take]
  refine ⟨q, rfl, ⟨_, SqL.of f2'⟩, fun D hD => ?_⟩
  have S12 := S1.trans S2
  let g : Str → Str := fun w => tx ((sg w).filter fun c => Fr.dig c)
  refine lc_list (K := K) (a := q) (xs := (ws.take 3).map V.str) (fun i H' => H' D = some (.lst ((((ws.take 3).take i).map g).map V.str)) ∧ Same H2 H') ⟨upd_same, Same.new hD⟩ (fun i H' _ h => SqL.of (h.2 _ _ f2')) ?_ ?_
  · rintro i x H3 hx ⟨fD, S3⟩
    rw [List.getElem?_map] at hx
    obtain ⟨w, hw, rfl⟩ := Option.map_eq_some_iff.mp hx
    have lw := sub w (List.mem_of_mem_take (List.mem_of_getElem? hw))
    refine ⟨rfl, ?_⟩
    walk_at "rd"
    refine ⟨⟨_, rfl⟩, V.str w, rfl, w, rfl, fun D2 hD2 => ?_⟩
    have nDD : D2 ≠ D := fun e => by
      rw [e, fD] at hD2
      cases hD2
    refine lc_it walk_str (fun i H' => H' D2 = some (.lst ((((sg w).take i).filter fun c => Fr.dig c).map fun c => V.str ⟨#[c]⟩)) ∧ Same H3 H') ⟨upd_same, Same.new hD2⟩ (fun _ _ _ _ => trivial) ?_ ?_
    · rintro j x H4 H5 hj ⟨f, S⟩ ⟨rfl, c, hc, rfl⟩
      have hc' : (sg w)[j]? = some c := by
        show w.cps.toList[j]? = _
        rw [Array.getElem?_toList]
        exact hc
      refine ⟨rfl, ?_⟩
      walk_at "rd"
      refine ⟨c, rfl, ?_⟩
      rw [take_filter (f := fun c => Fr.dig c) hc']
      have hlen : ((((sg w).take j).filter fun c => Fr.dig c).map fun c => V.str ⟨#[c]⟩).length < sizeLine := by
        rw [List.length_map, sz]
        have h1 := List.length_filter_le (fun c => Fr.dig c) ((sg w).take j)
        have h2 : ((sg w).take j).length ≤ (sg w).length := by
          rw [List.length_take]
          omega
        rw [sg_len] at h2
        omega
      cases hd : Fr.dig c with
      | false =>
        rw [if_neg (fun h => by have q := figs_in c; rw [decide_eq_true h, hd] at q; cases q)]
        simp only [Bool.false_eq_true, ↓reduceIte, List.append_nil]
        exact ⟨f, S⟩
      | true =>
        rw [if_pos (of_decide_eq_true ((figs_in c).trans hd))]
        simp only [↓reduceIte]
        refine ⟨_, f, hlen, ?_, fun a u ha => by rw [upd_ne (ne_of_none ha hD2)]; exact S a u ha⟩
        rw [List.map_append]
        rfl
    · rintro H4 ⟨f, S⟩
      have e : (sg w).take w.cps.size = sg w := by
        apply List.take_of_length_le
        rw [sg_len]
        exact Nat.le_refl _
      rw [e] at f
      have fl := List.length_filter_le (fun c => Fr.dig c) (sg w)
      rw [sg_len] at fl
      refine ⟨_, D2, ((sg w).filter fun c => Fr.dig c).map fun c => (⟨#[c]⟩ : Str), rfl, rfl, .inl (.of ?_), ?_, ?_⟩
      · rw [f, List.map_map]
        rfl
      · have hs : ∀ l : List Nat, ((l.map fun c => (⟨#[c]⟩ : Str)).map fun x => x.length).sum = l.length := by
          intro l
          induction l with
          | nil => rfl
          | cons a r ih => simp only [List.map_cons, List.sum_cons, ih, List.length_cons]; show 1 + _ = _; omega
        have el : (Str.ofString "").length = 0 := by decide +kernel
        rw [hs, el]
        omega
      · rw [join_sgs]
        refine ⟨_, S _ _ fD, ?_, ?_, fun a u ha => by rw [upd_ne (ne_of_none ha hD)]; exact S a u (S3 a u ha)⟩
        · rw [List.length_map, List.length_map, List.length_take, List.length_take, sz]
          omega
        · have : (ws.take 3).take (i + 1) = (ws.take 3).take i ++ [w] := by
            rw [List.take_add_one, hw]
            rfl
          rw [this, List.map_append, List.map_append]
          rfl
  · rintro H3 ⟨fD, S3⟩
    have lt : ((ws.take 3).take ((ws.take 3).map V.str).length) = ws.take 3 := List.take_of_length_le (by rw [List.length_map]; exact Nat.le_refl _)
    rw [lt] at fD
    obtain ⟨gs, hgs⟩ : ∃ gs, (ws.take 3).map g = gs := ⟨_, rfl⟩
    rw [hgs] at fD
    have gsub : ∀ w ∈ gs, w.length ≤ 500 ∧ Asc w := by
      intro w hw
      rw [← hgs] at hw
      obtain ⟨v, hv, rfl⟩ := List.mem_map.mp hw
      have := sub v (List.mem_of_mem_take hv)
      refine ⟨?_, fun c hc => ?_⟩
      · show (tx _).length ≤ _
        rw [tx_len]
        have h1 := List.length_filter_le (fun c => Fr.dig c) (sg v)
        rw [sg_len] at h1
        omega
      · have hc2 : c ∈ (sg v).filter fun c => Fr.dig c := by simpa [g, tx] using hc
        exact this.2 c (List.mem_filter.mp hc2).1
    have glen : gs.length ≤ 3 := by
      rw [← hgs, List.length_map, List.length_take]
      omega
    refine ⟨_, rfl, D, rfl, ⟨_, SqL.of fD⟩, fun D4 hD4 => ?_⟩
    refine lc_list (K := K) (a := D) (xs := gs.map V.str) (fun i H' => H' D4 = some (.lst (((gs.take i).filter fun w => decide (20 < w.length)).map V.str)) ∧ Same H3 H') ⟨upd_same, Same.new hD4⟩ (fun i H' _ h => SqL.of (h.2 _ _ fD)) ?_ ?_
    · rintro i x H4 hx ⟨f, S⟩
      rw [List.getElem?_map] at hx
      obtain ⟨w, hw, rfl⟩ := Option.map_eq_some_iff.mp hx
      have lw := gsub w (List.mem_of_getElem? hw)
      refine ⟨rfl, ?_⟩
      walk_at "rd"
      have tk : (gs.take (i + 1)).filter (fun w => decide (20 < w.length)) = (gs.take i).filter (fun w => decide (20 < w.length)) ++ (if 20 < w.length then [w] else []) := by
        have : gs.take (i + 1) = gs.take i ++ [w] := by
          rw [List.take_add_one, hw]
          rfl
        rw [this, List.filter_append]
        congr 1
        by_cases h : 20 < w.length <;> simp [h]
      refine ⟨by omega, ?_⟩
      rw [tk]
      by_cases h20 : 20 < w.length
      · rw [if_pos (by omega), if_pos h20]
        refine ⟨_, f, ?_, ?_, fun a u ha => by rw [upd_ne (ne_of_none ha hD4)]; exact S a u ha⟩
        · rw [List.length_map, sz]
          have h1 := List.length_filter_le (fun w : Str => decide (20 < w.length)) (gs.take i)
          have h2 : (gs.take i).length ≤ gs.length := by
            rw [List.length_take]
            omega
          omega
        · rw [List.map_append]
          rfl
      · rw [if_neg (by omega), if_neg h20, List.append_nil]
        exact ⟨f, S⟩
    · rintro H4 ⟨f, S⟩
      have lt2 : gs.take (gs.map V.str).length = gs := List.take_of_length_le (by rw [List.length_map]; exact Nat.le_refl _)
      rw [lt2] at f
      obtain ⟨rs, hrs⟩ : ∃ rs, gs.filter (fun w => decide (20 < w.length)) = rs := ⟨_, rfl⟩
      rw [hrs] at f
      have rsub : ∀ w ∈ rs, w.length ≤ 500 ∧ Asc w := fun w hw => gsub w (by rw [← hrs] at hw; exact (List.mem_filter.mp hw).1)
      have rlen : rs.length ≤ 3 := by
        have := List.length_filter_le (fun w : Str => decide (20 < w.length)) gs
        rw [hrs] at this
        omega
      refine ⟨by decide, fun p hp np => ?_⟩
      have npD : D4 ≠ p := ne_of_none f hp
      have S5 := Same.new (o := .lst []) hp
      have ft : Ft (wt (rs.map sg)) 1 (.list (strsD (rs.map sg))) := Ft.list (Fts.strs (fun t ht c hc => by
        obtain ⟨w, hw, rfl⟩ := List.mem_map.mp ht
        exact (rsub w hw).2 c hc))
      have de : strsD (rs.map sg) = rs.map PyData.str := by
        simp [strsD, List.map_map, Function.comp_def, tx_sg]
      have ve : ((rs.map sg).map fun t => V.str (tx t)) = rs.map V.str := by
        simp [List.map_map, Function.comp_def, tx_sg]
      refine r_eq_nil (ds := strsD (rs.map sg)) (.lst (.of (S5 _ _ f)) (by rw [← ve]; exact dp_strsD _)) ft (by decide) upd_same ?_
      exact k _ _ (((S12.trans S3).trans S).trans S5)
end
end K01


namespace K01
open PySem L2 Nv

/-- what is asked of any value -/
def spJd : Sp := fun vs H Q _ => ∃ v d t, vs = [v, .int t] ∧ DV H v d ∧ Vd d ∧ ∀ H', Same H H' → Q (.bl true) H'
theorem Vd.len {d : PyData} (h : Vd d) : ∀ z, d = .str z → z.length ≤ 100000 := fun z e => (h.la.s z e).2
theorem three_at {a b c : V} : atI [a, b, c] 0 = some a ∧ atI [a, b, c] 1 = some b ∧ atI [a, b, c] 2 = some c := ⟨atI_nat (j := 0) rfl, atI_nat (j := 1) rfl, atI_nat (j := 2) rfl⟩
theorem r_reprL3 {H : Hp} {Q : VK} {D : Addr} {u0 u1 u2 : V} {d : PyData} (hD : H D = some (.lst [u0, u1, u2])) (a : DV H u0 d) (b : DV H u1 d) (c : DV H u2 d) (sh : Shw 100000 40 d) (q : Q (.str (PyData.list [d, d, d]).shown) H) : rReprAL [.ref D] H Q := by
  have s := Shw.list (Shws.cons sh (Shws.cons sh (Shws.cons sh (Shws.nil (W := 0)))))
  exact .inl ⟨D, _, [d, d, d], rfl, hD, .cons a (.cons b (.cons c .nil)), s.h, Nat.le_trans s.p (by decide), s.len (by decide), q⟩
theorem bools_eq {K : PySem.W.Frag} {H : Hp} {Q : VK} {E : XK} {p q : Addr} {a b c : Bool} (hp : H p = some (.lst [.bl a, .bl b, .bl c])) (hq : H q = some (.lst [.bl a, .bl b, .bl c])) (k : Q (.bl true) H) : spEq K [.ref p, .ref q] H Q E :=
  spEq.of ⟨_, _, .list [.bool a, .bool b, .bool c], _, _, rfl, .lst (.of hp) (.cons (.bl _) (.cons (.bl _) (.cons (.bl _) .nil))), .lst (.of hq) (.cons (.bl _) (.cons (.bl _) (.cons (.bl _) .nil))), .inr ⟨_, rfl⟩, .inr ⟨_, rfl⟩,
    Ft.list (Fts.cons (W1 := 0) (D := 0) (Ft.bl a) (Fts.cons (W1 := 0) (Ft.bl b) (Fts.cons (W1 := 0) (Ft.bl c) (Fts.nil (W := 0))))), by decide, by decide, k⟩
section
variable {P : Program} {w : World} {K : PySem.W.Frag} {mg : Str → Option Value} {base : Heap}
theorem ok_l_judged (T : Tx K mg) : FnG P w K mg base 4 T.d_l_judged.f T.d_l_judged.fd ["_law_value", "_law_turn"] spJd := by
  refine okG0 T.d_l_judged.F sc_l_judged (fun vs H Q E h => ?_) (fun cdv A outer s H vs Q E hg hr h => ?_)
  · obtain ⟨v, d, t, rfl, _⟩ := h
    rfl
  obtain ⟨v, d, t, rfl, hd, vd, k⟩ := h
  have sz : sizeLine = 16777216 := sizeLine_eq
  refine ⟨_, (pss_cons (ps_setLc (i := 2) (own := [("_law_k", 3)]) (g := gName 3) (tt := tYes) rfl sc_l_judged.nd rfl rfl (sw_true rfl rfl rfl (by decide +kernel)) (pi_range1 (by rfl) T.n_range (pa_cons pe_int pa_nil)) (blkOk_by (N := ["_law_value", "_law_turn", "_law_handed", "_law_k", "_law_told_here"]) (sc := defScope s_l_judged) (by decide +kernel)) (fun _ _ _ _ _ => pg_name (i := 3) sc_l_judged.nd rfl (Or.inl rfl)) (fun _ _ _ _ _ => pts_nil) (fun _ _ _ _ _ => (pe_cG (ok_l_copy T) T.d_l_copy.b takes0 hg (hr.mono (by decide)) T.d_l_copy.m T.d_l_copy.F.kp (pa_cons (pv 0) pa_nil))))
    (pss_cons (ps_if (pt_cmpR op_eq (pv 1) pe_int (nomark _))
      (pss_one (ps_set (i := 4) sc_l_judged.nd rfl (Or.inl rfl) (pe_lst1 (pa_cons (pe_cG (ok_is_cell T) T.d_is_cell.b takes0 hg (hr.mono (by decide)) T.d_is_cell.m T.d_is_cell.F.kp (pa_cons (pe_ix ix_list (pv 2) pe_int (fun _ _ => rfl)) pa_nil)) (pa_cons (pe_cG (ok_is_text T) T.d_is_text.b takes0 hg (hr.mono (by decide)) T.d_is_text.m T.d_is_text.F.kp (pa_cons (pe_ix ix_list (pv 2) pe_int (fun _ _ => rfl)) pa_nil)) (pa_cons (pe_cG (ok_is_line T) T.d_is_line.b takes0 hg (hr.mono (by decide)) T.d_is_line.m T.d_is_line.F.kp (pa_cons (pe_ix ix_list (pv 2) pe_int (fun _ _ => rfl)) pa_nil)) pa_nil))))))
      (pss_one (ps_set (i := 4) sc_l_judged.nd rfl (Or.inl rfl) (pe_lst1 (pa_cons (pe_cGk (ok_is_cell T) T.d_is_cell.kb rfl takes0 hg (hr.mono (by decide)) T.d_is_cell.m T.d_is_cell.F.kp (pk_cons (pe_ix ix_list (pv 2) pe_int (fun _ _ => rfl)) pk_nil)) (pa_cons (pe_cGk (ok_is_text T) T.d_is_text.kb rfl takes0 hg (hr.mono (by decide)) T.d_is_text.m T.d_is_text.F.kp (pk_cons (pe_ix ix_list (pv 2) pe_int (fun _ _ => rfl)) pk_nil)) (pa_cons (pe_cGk (ok_is_line T) T.d_is_line.kb rfl takes0 hg (hr.mono (by decide)) T.d_is_line.m T.d_is_line.F.kp (pk_cons (pe_ix ix_list (pv 2) pe_int (fun _ _ => rfl)) pk_nil)) pa_nil)))))))
    (pss_cons (ps_if (pt_cmpR op_ne (pe_callB (call_reprAL hg hr.units) (by rfl) T.n_repr (by decide +kernel) (pa_cons (pv 2) pa_nil)) (pe_callB (call_reprAL hg hr.units) (by rfl) T.n_repr (by decide +kernel) (pa_cons (pe_lst1 (pa_cons (pv 0) (pa_cons (pv 0) (pa_cons (pv 0) pa_nil)))) pa_nil)) (nomark _))
      (pss_one (ps_ret pe_bl))
      pss_nil)
    (pss_one (ps_ret (pe_cG (ok_l_equal T) T.d_l_equal.b takes0 hg (hr.mono (by decide)) T.d_l_equal.m T.d_l_equal.F.kp (pa_cons (pv 4) (pa_cons (pe_lst1 (pa_cons (pe_cG (ok_l_is_cell T) T.d_l_is_cell.b takes0 hg (hr.mono (by decide)) T.d_l_is_cell.m T.d_l_is_cell.F.kp (pa_cons (pv 0) pa_nil)) (pa_cons (pe_cG (ok_l_is_text T) T.d_l_is_text.b takes0 hg (hr.mono (by decide)) T.d_l_is_text.m T.d_l_is_text.F.kp (pa_cons (pv 0) pa_nil)) (pa_cons (pe_cG (ok_l_is_line T) T.d_l_is_line.b takes0 hg (hr.mono (by decide)) T.d_l_is_line.m T.d_l_is_line.F.kp (pa_cons (pv 0) pa_nil)) pa_nil)))) pa_nil)))))))), ?_⟩
  walk_at "rd"
  refine ⟨_, rfl, by decide, by decide, fun D hD => ?_⟩
  refine lc_range (lo := 0) (n := (3 : Int).toNat) (fun i H' => ∃ (us : List V) (Hs : Hp), us.length = i ∧ H' D = some (.lst us) ∧ Same Hs H' ∧ Hs D = none ∧ Same H Hs ∧ ∀ u ∈ us, DV Hs u d)
    ⟨[], H, rfl, upd_same, Same.new hD, hD, Same.refl H, by simp⟩ ?_ ?_
  · rintro i H1 hi ⟨us, Hs, lu, hDu, sb, sD, s0, hu⟩
    refine ⟨rfl, ?_⟩
    walk_at "rd"
    refine ⟨v, d, Hs, rfl, sb, hd.mono s0, fun u H2 Hs2 S2 sb2 s02 new du _ => ?_⟩
    have D2 : H2 D = some (.lst us) := S2 _ _ hDu
    have nDs : Hs2 D = none := by
      cases q : Hs2 D with
      | none => rfl
      | some o =>
        rcases new D o q with z | z
        · exact absurd sD z
        · rw [hDu] at z
          cases z
    refine ⟨us, D2, by omega, us ++ [u], by rw [List.length_append, lu]; rfl, rfl, Hs2, ?_, nDs, s0.trans s02, ?_⟩
    · intro b o hb
      have nb : b ≠ D := fun e => by
        rw [e, nDs] at hb
        cases hb
      rw [upd_ne nb]
      exact sb2 _ _ hb
    · intro w hw
      rcases List.mem_append.mp hw with hw | hw
      · exact (hu w hw).mono s02
      · have : w = u := by simpa using hw
        rw [this]
        exact du
  · rintro H1 ⟨us, Hs, lu, hDu, sb, sD, s0, hu⟩
    obtain ⟨u0, u1, u2, rfl⟩ : ∃ a b c, us = [a, b, c] := by
      match us, lu with
      | [a, b, c], _ => exact ⟨a, b, c, rfl⟩
    have d0 := (hu u0 (by simp)).mono sb
    have d1 := (hu u1 (by simp)).mono sb
    have d2 := (hu u2 (by simp)).mono sb
    walk_at "rd"
    refine ⟨rfl, ?_⟩
    have S1 : Same H H1 := s0.trans sb
    have tail : ∀ (p : Addr), H1 p = none → p ≠ sysModules → rReprAL [V.ref D] (upd H1 p (HO.lst [V.bl (cellB d), V.bl (textB d), V.bl (lineB d)])) (fun x H1 =>
        0 + 1 + 1 + 1 ≤ sizeLine ∧ ∀ (p_1 : Addr), H1 p_1 = none → p_1 ≠ sysModules → rReprAL [V.ref p_1] (upd H1 p_1 (HO.lst [v, v, v])) fun y H2 =>
          scal x y = true ∧ if decide (x = y) = false then Q (V.bl false) H2 else
            spJW cellB [v] H2 (fun x H1 => spJW textB [v] H1 (fun x_5 H1 => spJX lineB [v] H1 (fun x_6 H1 => 0 + 1 + 1 + 1 ≤ sizeLine ∧
              ∀ (p_2 : Addr), H1 p_2 = none → p_2 ≠ sysModules → spEq K [V.ref p, V.ref p_2] (upd H1 p_2 (HO.lst [x, x_5, x_6])) Q (fun _ _ _ => False)) (fun _ _ _ => False)) (fun _ _ _ => False)) (fun _ _ _ => False)) := by
      intro p hp np
      obtain ⟨H2, e2, S2, f2⟩ := gen_new (.lst [V.bl (cellB d), V.bl (textB d), V.bl (lineB d)]) hp
      simp only [e2]
      refine r_reprL3 (S2 _ _ hDu) (d0.mono S2) (d1.mono S2) (d2.mono S2) vd.m.sh ⟨by decide, fun q hq nq => ?_⟩
      obtain ⟨H3, e3, S3, f3⟩ := gen_new (.lst [v, v, v]) hq
      simp only [e3]
      have S13 := (S1.trans S2).trans S3
      have dv := hd.mono S13
      refine r_reprL3 f3 dv dv dv vd.m.sh ⟨rfl, ?_⟩
      rw [if_neg (by simp)]
      refine ⟨v, d, rfl, dv, vd.la.s, fun H4 S4 => ?_⟩
      refine ⟨v, d, rfl, dv.mono S4, vd.la.s, fun H5 S5 => ?_⟩
      refine ⟨v, d, rfl, (dv.mono S4).mono S5, vd.la, fun H6 S6 => ⟨by decide, fun r hr2 nr => ?_⟩⟩
      have S7 := Same.new (o := .lst [V.bl (cellB d), V.bl (textB d), V.bl (lineB d)]) hr2
      have S37 := ((S4.trans S5).trans S6).trans S7
      exact bools_eq (S37 _ _ (S3 _ _ f2)) upd_same (k _ (S13.trans S37))
    have lens := vd.la.lens
    by_cases h0 : t = 0
    · rw [if_pos h0]
      refine r_ixL (.of hDu) three_at.1 ⟨u0, d, rfl, .dat d0, vd.len, ?_⟩
      refine r_ixL (.of hDu) three_at.2.1 ⟨u1, d, rfl, .dat d1, vd.len, ?_⟩
      refine r_ixL (.of hDu) three_at.2.2 ⟨u2, d, rfl, .dat d2, lens, by decide, ?_⟩
      exact tail
    · rw [if_neg h0]
      refine r_ixL (.of hDu) three_at.1 ⟨u0, d, rfl, .dat d0, vd.len, ?_⟩
      refine r_ixL (.of hDu) three_at.2.1 ⟨u1, d, rfl, .dat d1, vd.len, ?_⟩
      refine r_ixL (.of hDu) three_at.2.2 ⟨u2, d, rfl, .dat d2, lens, by decide, ?_⟩
      exact tail
end
end K01


namespace K01
open PySem L2 Nv

/-- what is told of a value at a door -/
def tolD (first : Bool) : PyData → PyData
  | .tuple [.int h, .int n, .str c, .str t] => if lineB (lineD h n c t) = true then .list [.str (Str.ofString "told"), if first = true then .tuple [.int h, .int n] else .str (lineT h n c t)] else .list [.str (Str.ofString "refused"), .bool true]
  | _ => .list [.str (Str.ofString "refused"), .bool true]
theorem tolD_line {f : Bool} {h n : Int} {c t : Str} (e : lineB (lineD h n c t) = true) : tolD f (lineD h n c t) = .list [.str (Str.ofString "told"), if f = true then .tuple [.int h, .int n] else .str (lineT h n c t)] := by
  show (if lineB (lineD h n c t) = true then _ else _) = _
  rw [if_pos e]
theorem tolD_no {f : Bool} {d : PyData} (e : lineB d = false) : tolD f d = .list [.str (Str.ofString "refused"), .bool true] := by
  unfold tolD
  split
  · rename_i h n c t
    have : lineB (lineD h n c t) = false := e
    rw [if_neg (by rw [this]; decide)]
  · rfl
/-- all is kept but the value, where it may be added to -/
def KeepV (d : PyData) (v : V) (H H' : Hp) : Prop := ∀ a o, (isLD d = true → v ≠ .ref a) → H a = some o → H' a = some o
theorem KeepV.of {d : PyData} {v : V} {H H' : Hp} (s : Same H H') : KeepV d v H H' := fun a o _ h => s a o h
theorem KeepV.trans {d : PyData} {v : V} {H H1 H2 : Hp} (a : KeepV d v H H1) (b : KeepV d v H1 H2) : KeepV d v H H2 := fun c o n h => b c o n (a c o n h)
def spTold : Sp := fun vs H Q _ => ∃ v d door t, vs = [v, .int door, .int t] ∧ DV H v d ∧ Vd d ∧ ∀ r H', DV H' r (tolD (decide (door = 0)) d) → KeepV d v H H' → Q r H'
section
variable {P : Program} {w : World} {K : PySem.W.Frag} {mg : Str → Option Value} {base : Heap}
theorem ok_l_told (T : Tx K mg) : FnG P w K mg base 5 T.d_l_told.f T.d_l_told.fd ["_law_value", "_law_door", "_law_turn"] spTold := by
  refine okG0 T.d_l_told.F sc_l_told (fun vs H Q E h => ?_) (fun cdv A outer s H vs Q E hg hr h => ?_)
  · obtain ⟨v, d, door, t, rfl, _⟩ := h
    rfl
  obtain ⟨v, d, door, t, rfl, hd, vd, k⟩ := h
  have sz : sizeLine = 16777216 := sizeLine_eq
  refine ⟨_, (pss_one (ps_try_asN rfl rfl sc_l_told.nd takes0
      (fun W pn xe tk _ => (pss_cons (ps_if (pt_cmpR op_eq (pv 1) pe_int (nomark _))
          (pss_one (ps_ret (pe_lst1 (pa_cons pe_str (pa_cons (pe_ifExp (pt_cmpR op_eq (pv 2) pe_int (nomark _)) (pe_cG (ok_key T) T.d_key.b tk hg (hr.mono (by decide)) T.d_key.m T.d_key.F.kp (pa_cons (pv 0) pa_nil)) (pe_cGk (ok_key T) T.d_key.kb rfl tk hg (hr.mono (by decide)) T.d_key.m T.d_key.F.kp (pk_cons (pv 0) pk_nil))) pa_nil)))))
          pss_nil)
        (pss_one (ps_ret (pe_lst1 (pa_cons pe_str (pa_cons (pe_ifExp (pt_cmpR op_eq (pv 2) pe_int (nomark _)) (pe_cG (ok_line_text T) T.d_line_text.b tk hg (hr.mono (by decide)) T.d_line_text.m T.d_line_text.F.kp (pa_cons (pv 0) pa_nil)) (pe_cGk (ok_line_text T) T.d_line_text.kb rfl tk hg (hr.mono (by decide)) T.d_line_text.m T.d_line_text.F.kp (pk_cons (pv 0) pk_nil))) pa_nil)))))))
      (HdsAs.cons (i := 3) rfl rfl ⟨rfl, by decide, .inl T.m_InvalidLine⟩ (fun a oe cls d pn hz hf => (pss_one (ps_ret (pe_lst1 (pa_cons pe_str (pa_cons (pe_cGH (W := fun _ _ _ _ => False) (okh_l_very T) T.d_l_very.b hg (roomS (hr.mono (by decide))) List.mem_cons_self T.d_l_very.m T.d_l_very.F.kp (pa_cons (pe_xf T.e_InvalidLine.xf T.e_InvalidLine.noF hz hf (pv 3)) (pa_cons (pv 0) pa_nil))) pa_nil))))))
      HdsAs.nil))), ?_⟩
  walk_at "rd"
  have lens := vd.la.lens
  have told : ∀ (x : V) (g : PyData) (H1 : Hp), tolD (decide (door = 0)) d = .list [.str (Str.ofString "told"), g] → DV H1 x g → Same H H1 → 0 + 1 + 1 ≤ sizeLine ∧ ∀ (p : Addr), H1 p = none → p ≠ sysModules → Q (V.ref p) (upd H1 p (HO.lst [V.str (Str.ofString "told"), x])) := by
    intro x g H1 e dx S
    refine ⟨by decide, fun p hp np => k _ _ ?_ (KeepV.of (S.trans (Same.new hp)))⟩
    rw [e]
    exact .lst upd_same np (.cons (.str _) (.cons (dx.mono (Same.new hp)) .nil))
  have no : ∀ (dd : Addr) (H' : Hp), lineB d = false → Same H H' → H' dd = some (.xd [("given", v)]) → spVery [v, v] H' (fun x H2 => 0 + 1 + 1 ≤ sizeLine ∧ ∀ (p : Addr), H2 p = none → p ≠ sysModules → Q (V.ref p) (upd H2 p (HO.lst [V.str (Str.ofString "refused"), x]))) (fun _ _ _ => False) := by
    intro dd H' e S hx
    refine ⟨v, d, rfl, hd.mono S, vd.m, fun H2 kp => ⟨by decide, fun p hp np => k _ _ ?_ ?_⟩⟩
    · rw [tolD_no e]
      exact .lst upd_same np (.cons (.str _) (.cons (.bl true) .nil))
    · exact (KeepV.of S).trans (KeepV.trans (fun a o n h => kp a o n h) (KeepV.of (Same.new hp)))
  refine ⟨rfl, ?_⟩
  by_cases h0 : door = 0
  · rw [if_pos h0]
    refine ⟨rfl, ?_⟩
    rw [ite_self]
    refine ⟨v, d, rfl, .dat hd, lens, fun h n c t e el q hq => ?_, fun e dd H' hdd S hx => ?_⟩
    · subst e
      exact told _ (.tuple [.int h, .int n]) _ (by rw [tolD_line el, h0]; rfl) (.tup upd_same (.cons (.int _) (.cons (.int _) .nil))) (Same.new hq)
    · refine ⟨true, T.x_InvalidLine_InvalidLine, fun _ a ha => ?_, fun h => (by cases h)⟩
      walk_at "rd"
      refine r_xf hx ?_
      exact no dd H' e S hx
  · rw [if_neg h0]
    refine ⟨rfl, ?_⟩
    rw [ite_self]
    refine ⟨v, d, rfl, .dat hd, lens, vd.it, fun h n c t e el => ?_, fun e dd H' hdd S hx => ?_⟩
    · subst e
      exact told _ (.str (lineT h n c t)) _ (by rw [tolD_line el]; simp [h0]) (.str _) (Same.refl H)
    · refine ⟨true, T.x_InvalidLine_InvalidLine, fun _ a ha => ?_, fun h => (by cases h)⟩
      walk_at "rd"
      refine r_xf hx ?_
      exact no dd H' e S hx
/-- a text is read as is due, or refused -/
def spTr : Sp := fun vs H Q _ => ∃ v d u t, vs = [v, u, .int t] ∧ DV H v d ∧ Vd d ∧ (∀ z, d = .str z → z.length ≤ 600) ∧
  ((lnD d = none ∧ u = .non) ∨ ∃ h n c t, lnD d = some (h, n, c, t) ∧ DV H u (lineD h n c t) ∧ Fx (lineD h n c t)) ∧
  ∀ H', Same H H' → Q (.bl true) H'
theorem ok_l_text_right (T : Tx K mg) : FnG P w K mg base 6 T.d_l_text_right.f T.d_l_text_right.fd ["_law_value", "_law_due", "_law_turn"] spTr := by
  refine okG0 T.d_l_text_right.F sc_l_text_right (fun vs H Q E h => ?_) (fun cdv A outer s H vs Q E hg hr h => ?_)
  · obtain ⟨v, d, u, t, rfl, _⟩ := h
    rfl
  obtain ⟨v, d, u, t, rfl, hd, vd, hz, hu, k⟩ := h
  have sz : sizeLine = 16777216 := sizeLine_eq
  refine ⟨_, (pss_cons (ps_set (i := 3) sc_l_text_right.nd rfl (Or.inl rfl) (pe_cG (ok_l_copy T) T.d_l_copy.b takes0 hg (hr.mono (by decide)) T.d_l_copy.m T.d_l_copy.F.kp (pa_cons (pv 0) pa_nil)))
    (pss_cons (ps_try_asN rfl rfl sc_l_text_right.nd takes0
      (fun W pn xe tk _ => (pss_one (ps_set (i := 4) sc_l_text_right.nd rfl (Or.inl rfl) (pe_ifExp (pt_cmpR op_eq (pv 2) pe_int (nomark _)) (pe_cG (ok_read_line T) T.d_read_line.b tk hg (hr.mono (by decide)) T.d_read_line.m T.d_read_line.F.kp (pa_cons (pv 3) pa_nil)) (pe_cGk (ok_read_line T) T.d_read_line.kb rfl tk hg (hr.mono (by decide)) T.d_read_line.m T.d_read_line.F.kp (pk_cons (pv 3) pk_nil))))))
      (HdsAs.cons (i := 5) rfl rfl ⟨rfl, by decide, .inl T.m_InvalidText⟩ (fun a oe cls d pn hz hf => (pss_one (ps_ret (pe_and (pe_cmpR op_isN (pv 1) pe_non (nomark _)) (pe_one (pe_cGH (W := fun _ _ _ _ => False) (okh_l_very T) T.d_l_very.b hg (roomS (hr.mono (by decide))) List.mem_cons_self T.d_l_very.m T.d_l_very.F.kp (pa_cons (pe_xf T.e_InvalidText.xf T.e_InvalidText.noF hz hf (pv 5)) (pa_cons (pv 3) pa_nil))))))))
      HdsAs.nil))
    (pss_one (ps_ret (pe_and (pe_cmpR op_notN (pv 1) pe_non (nomark _)) (pe_one (pe_cG (ok_l_equal T) T.d_l_equal.b takes0 hg (hr.mono (by decide)) T.d_l_equal.m T.d_l_equal.F.kp (pa_cons (pv 4) (pa_cons (pv 1) pa_nil))))))))), ?_⟩
  walk_at "rd"
  refine ⟨v, d, H, rfl, Same.refl H, hd, fun x H1 Hs S1 sb _ new dx hx => ?_⟩
  refine ⟨rfl, ?_⟩
  rw [ite_self]
  refine ⟨x, d, rfl, .dat (dx.mono sb), hz, fun e dd H' hdd S hxd => ?_, fun h n c t e p H' hp S hp' => ?_⟩
  · have un : u = .non := by
      rcases hu with hu | ⟨h, n, c, t, e2, _⟩
      · exact hu.2
      · rw [e] at e2
        cases e2
    subst un
    refine ⟨true, T.x_InvalidText_InvalidText, fun _ a ha => ?_, fun h => (by cases h)⟩
    walk_at "rd"
    refine r_xf hxd ?_
    refine ⟨x, d, rfl, (dx.mono sb).mono S, vd.m, fun H2 kp => k H2 fun a o hao => kp a o (fun il z => ?_) (S _ _ (S1 _ _ hao))⟩
    obtain ⟨b, hb, hn⟩ := hx il
    rw [hb] at z
    cases z
    rw [hn] at hao
    cases hao
  · rcases hu with hu | ⟨h', n', c', t', e2, du, ft⟩
    · rw [hu.1] at e
      cases e
    · rw [e] at e2
      cases e2
      have ud := du.mono (S1.trans S)
      obtain ⟨ua, rfl, _⟩ := dv_line du
      have pd : DV H' (.ref p) (lineD h n c t) := .tup hp' (.cons (.int _) (.cons (.int _) (.cons (.str _) (.cons (.str _) .nil))))
      walk_at "rd"
      rw [if_pos (by simp)]
      exact ⟨_, _, lineD h n c t, rfl, pd.dp rfl, ud.dp rfl, .inr ⟨_, rfl⟩, .inr ⟨_, rfl⟩, ft, k _ (S1.trans S)⟩
end
end K01


namespace K01
open PySem L2 Nv

def dueD (d : PyData) : PyData := .list [tolD true d, tolD false d]
theorem asc_int {h : Int} (h0 : 0 ≤ h) : Asc (Str.ofString (toString h)) := by
  obtain ⟨n, rfl⟩ : ∃ n : Nat, h = (n : Int) := ⟨h.toNat, by omega⟩
  intro c hc
  have : c ∈ sg (Str.ofString (toString (n : Int))) := hc
  rw [nat_sg] at this
  exact dig_lt (digits_dig this)
theorem sp_asc : Asc (Str.ofString " ") := asc_of (by decide +kernel)
theorem lineT_ok {h n : Int} {c t : Str} (h0 : 0 ≤ h) (n0 : 0 ≤ n) (bh : -(10 ^ 21) ≤ h ∧ h ≤ 10 ^ 21) (bn : -(10 ^ 21) ≤ n ∧ n ≤ 10 ^ 21) (ac : Asc c) (at_ : Asc t) : Asc (lineT h n c t) ∧ (lineT h n c t).length ≤ 51 + c.length + t.length := by
  constructor
  · unfold lineT
    exact ((((((Asc.empty.app (asc_int h0)).app sp_asc).app (asc_int n0)).app sp_asc).app ac).app sp_asc).app at_
  · have a := int_len bh
    have b := int_len bn
    have l := sp_len
    have e : Str.empty.length = 0 := rfl
    unfold lineT
    rw [append_len, append_len, append_len, append_len, append_len, append_len, append_len]
    omega
theorem due_ft {d : PyData} (vd : Vd d) : Ft 390000 4 (dueD d) := by
  have ta : Asc (Str.ofString "told") := asc_of (by decide +kernel)
  have tl : (Str.ofString "told").length = 4 := by decide +kernel
  have ra : Asc (Str.ofString "refused") := asc_of (by decide +kernel)
  have rl : (Str.ofString "refused").length = 7 := by decide +kernel
  cases e : lineB d with
  | false =>
    unfold dueD
    rw [tolD_no e, tolD_no e]
    have f := Ft.list (Fts.cons (D := 0) (Ft.str ra) (Fts.cons (W1 := 0) (Ft.bl true) (Fts.nil (W := 0))))
    exact (Ft.list (Fts.cons f (Fts.cons f (Fts.nil (W := 0))))).le (by rw [rl]; decide) (by decide)
  | true =>
    obtain ⟨h, n, c, t, rfl, h0, n0, _, _, t1⟩ := lineB_of e
    have bh := vd.it _ rfl h (by simp)
    have bn := vd.it _ rfl n (by simp)
    have ac := vd.la.t _ rfl c (by simp)
    have at_ := vd.la.t _ rfl t (by simp)
    have lt := lineT_ok h0 n0 bh bn ac.1 at_.1
    unfold dueD
    rw [tolD_line e, tolD_line e]
    have f1 := Ft.list (Fts.cons (D := 1) (Ft.str ta) (Fts.cons (Ft.tuple (Fts.cons (D := 0) (Ft.int bh) (Fts.cons (Ft.int bn) (Fts.nil (W := 0))))) (Fts.nil (W := 0))))
    have f2 := Ft.list (Fts.cons (D := 1) (Ft.str ta) (Fts.cons (D := 1) (Ft.str lt.1) (Fts.nil (W := 0))))
    have f := Ft.list (Fts.cons f1 (Fts.cons f2 (Fts.nil (W := 0))))
    exact f.le (by rw [tl]; omega) (by decide)
theorem keep_same {d : PyData} {u : V} {H H1 H2 : Hp} (s : Same H H1) (f : isLD d = true → ∃ a, u = .ref a ∧ H a = none) (kp : KeepV d u H1 H2) : Same H H2 := fun a o h => kp a o (fun il z => by
  obtain ⟨b, hb, hn⟩ := f il
  rw [hb] at z
  cases z
  rw [hn] at h
  cases h) (s a o h)
def spLr : Sp := fun vs H Q _ => ∃ v d t, vs = [v, .int t] ∧ DV H v d ∧ Vd d ∧ ∀ H', Same H H' → Q (.bl true) H'
section
variable {P : Program} {w : World} {K : PySem.W.Frag} {mg : Str → Option Value} {base : Heap}
theorem ok_l_line_right (T : Tx K mg) : FnG P w K mg base 6 T.d_l_line_right.f T.d_l_line_right.fd ["_law_value", "_law_turn"] spLr := by
  refine okG0 T.d_l_line_right.F sc_l_line_right (fun vs H Q E h => ?_) (fun cdv A outer s H vs Q E hg hr h => ?_)
  · obtain ⟨v, d, t, rfl, _⟩ := h
    rfl
  obtain ⟨v, d, t, rfl, hd, vd, k⟩ := h
  have sz : sizeLine = 16777216 := sizeLine_eq
  refine ⟨_, (pss_cons (ps_if (pt_not (pt_val (pe_cG (ok_l_judged T) T.d_l_judged.b takes0 hg (hr.mono (by decide)) T.d_l_judged.m T.d_l_judged.F.kp (pa_cons (pv 0) (pa_cons (pv 1) pa_nil)))))
      (pss_one (ps_ret pe_bl))
      pss_nil)
    (pss_cons (ps_set (i := 2) sc_l_line_right.nd rfl (Or.inl rfl) (pe_lst1 (pa_cons (pe_lst1 (pa_cons pe_str (pa_cons pe_bl pa_nil))) (pa_cons (pe_lst1 (pa_cons pe_str (pa_cons pe_bl pa_nil))) pa_nil))))
    (C8.pss_cut (ps_if (pt_val (pe_cG (ok_l_is_line T) T.d_l_is_line.b takes0 hg (hr.mono (by decide)) T.d_l_is_line.m T.d_l_is_line.F.kp (pa_cons (pv 0) pa_nil)))
      (pss_one (ps_set (i := 2) sc_l_line_right.nd rfl (Or.inl rfl) (pe_lst1 (pa_cons (pe_lst1 (pa_cons pe_str (pa_cons (pe_slice sl_tup (pv 0) po_none (po_some pe_int)) pa_nil))) (pa_cons (pe_lst1 (pa_cons pe_str (pa_cons (pe_cG (ok_l_written T) T.d_l_written.b takes0 hg (hr.mono (by decide)) T.d_l_written.m T.d_l_written.F.kp (pa_cons (pv 0) pa_nil)) pa_nil))) pa_nil)))))
      pss_nil)
    (pss_cons (ps_for PassesOwn.never rfl (pi_range1 (by rfl) T.n_range (pa_cons pe_int pa_nil)) (pg_name (i := 3) sc_l_line_right.nd rfl (Or.inl rfl))
      (pss_cons (ps_set (i := 4) sc_l_line_right.nd rfl (Or.inl rfl) (pe_lst1 (pa_cons (pe_cG (ok_l_told T) T.d_l_told.b takes0 hg (hr.mono (by decide)) T.d_l_told.m T.d_l_told.F.kp (pa_cons (pe_cG (ok_l_copy T) T.d_l_copy.b takes0 hg (hr.mono (by decide)) T.d_l_copy.m T.d_l_copy.F.kp (pa_cons (pv 0) pa_nil)) (pa_cons pe_int (pa_cons (pv 1) pa_nil)))) (pa_cons (pe_cG (ok_l_told T) T.d_l_told.b takes0 hg (hr.mono (by decide)) T.d_l_told.m T.d_l_told.F.kp (pa_cons (pe_cG (ok_l_copy T) T.d_l_copy.b takes0 hg (hr.mono (by decide)) T.d_l_copy.m T.d_l_copy.F.kp (pa_cons (pv 0) pa_nil)) (pa_cons pe_int (pa_cons (pe_op op_sub pe_int (pv 1)) pa_nil)))) pa_nil))))
      (pss_one (ps_if (pt_not (pt_val (pe_cG (ok_l_equal T) T.d_l_equal.b takes0 hg (hr.mono (by decide)) T.d_l_equal.m T.d_l_equal.F.kp (pa_cons (pv 4) (pa_cons (pv 2) pa_nil)))))
        (pss_one (ps_ret pe_bl))
        pss_nil))))
    (pss_one (ps_ret pe_bl)))))), ?_⟩
  walk_at "rd"
  refine ⟨v, d, t, rfl, hd, vd, fun H1 S1 => ?_⟩
  walk_at "rd"
  let Mid : L2.St → Hp → Prop := fun σ' H' => ∃ due, σ' = [some v, some (.int t), some (.ref due), none, none] ∧ DV H' (.ref due) (dueD d) ∧ Same H H'
  refine ⟨by decide, fun p hp np => ⟨by decide, fun p1 hp1 np1 => ⟨by decide, fun p2 hp2 np2 => ?_⟩⟩⟩
  obtain ⟨H2, e2, S2, f2⟩ := gen_new (.lst [V.str (Str.ofString "refused"), V.bl true]) hp
  simp only [e2] at hp1 hp2 ⊢
  obtain ⟨H3, e3, S3, f3⟩ := gen_new (.lst [V.str (Str.ofString "refused"), V.bl true]) hp1
  simp only [e3] at hp2 ⊢
  obtain ⟨H4, e4, S4, f4⟩ := gen_new (.lst [V.ref p, V.ref p1]) hp2
  simp only [e4]
  have S14 := (S2.trans S3).trans S4
  have S04 := S1.trans S14
  refine ⟨Mid, ?_, ?_⟩
  · walk_at "rd"
    refine ⟨v, d, rfl, hd.mono S04, vd.la, fun H5 S5 => ⟨_, rfl, ?_⟩⟩
    cases el : lineB d with
    | false =>
      walk_at "rd"
      refine ⟨p2, rfl, ?_, S04.trans S5⟩
      unfold dueD
      rw [tolD_no el, tolD_no el]
      exact .lst (S5 _ _ f4) np2 (.cons (.lst (S5 _ _ (S4 _ _ (S3 _ _ f2))) np (.cons (.str _) (.cons (.bl true) .nil))) (.cons (.lst (S5 _ _ (S4 _ _ f3)) np1 (.cons (.str _) (.cons (.bl true) .nil))) .nil))
    | true =>
      obtain ⟨h, n, c, t', rfl, h0, n0, _, _, t1⟩ := lineB_of el
      obtain ⟨a, rfl, ha⟩ := dv_line hd
      have bh := vd.it _ rfl h (by simp)
      have bn := vd.it _ rfl n (by simp)
      have ac := vd.la.t _ rfl c (by simp)
      have at_ := vd.la.t _ rfl t' (by simp)
      have S05 := S04.trans S5
      walk_at "rd"
      refine ⟨a, _, rfl, SqT.of (S05 _ _ ha), (by show ¬ (HT.sIx 4 0 none = 0 ∧ HT.sIx 4 4 (some 2) = 4); decide), fun q hq => ?_⟩
      have cv : cutV [V.int h, V.int n, V.str c, V.str t'] none (some 2) = [V.int h, V.int n] := rfl
      rw [cv]
      obtain ⟨H6, e6, S6, f6⟩ := gen_new (.tup [V.int h, V.int n]) hq
      simp only [e6]
      refine ⟨by decide, fun p3 hp3 np3 => ?_⟩
      obtain ⟨H7, e7, S7, f7⟩ := gen_new (.lst [V.str (Str.ofString "told"), V.ref q]) hp3
      simp only [e7]
      have S07 := (S05.trans S6).trans S7
      refine ⟨_, h, n, c, t', rfl, hd.mono S07, bh, bn, ac.2, at_.2, by decide, fun p4 hp4 np4 => ?_⟩
      obtain ⟨H8, e8, S8, f8⟩ := gen_new (.lst [V.str (Str.ofString "told"), V.str (lineT h n c t')]) hp4
      simp only [e8]
      refine ⟨by decide, fun p5 hp5 np5 => ?_⟩
      have S9 := Same.new (o := .lst [V.ref p3, V.ref p4]) hp5
      refine ⟨p5, rfl, ?_, (S07.trans S8).trans S9⟩
      unfold dueD
      rw [tolD_line el, tolD_line el]
      exact .lst upd_same np5 (.cons (.lst (S9 _ _ (S8 _ _ f7)) np3 (.cons (.str _) (.cons (.tup (S9 _ _ (S8 _ _ (S7 _ _ f6))) (.cons (.int _) (.cons (.int _) .nil))) .nil)))
        (.cons (.lst (S9 _ _ f8) np4 (.cons (.str _) (.cons (.str _) .nil))) .nil))
  rintro σ1 H5 ⟨due, rfl, hdue, S05⟩
  walk_at "rd"
  refine ⟨_, rfl, by decide, by decide, ?_⟩
  refine for_range (fun i σ H' => ∃ y3 y4, σ = [some v, some (.int t), some (.ref due), y3, y4] ∧ Same H5 H') ⟨_, _, rfl, Same.refl H5⟩ ?_ ?_
  · rintro i σ H6 hi ⟨y3, y4, rfl, S6⟩
    walk_at "rd"
    have S06 := S05.trans S6
    refine ⟨v, d, H, rfl, S06, hd, fun u0 H7 Hs7 S7 sb7 _ _ du0 fr0 => ?_⟩
    refine ⟨u0, d, 0, t, rfl, du0.mono sb7, vd, fun r0 H8 dr0 kp0 => ?_⟩
    have S68 := keep_same S7 fr0 kp0
    refine ⟨v, d, H, rfl, S06.trans S68, hd, fun u1 H9 Hs9 S9 sb9 _ _ du1 fr1 => ?_⟩
    refine ⟨u1, d, 1, 1 - t, rfl, du1.mono sb9, vd, fun r1 H10 dr1 kp1 => ⟨by decide, fun p6 hp6 np6 => ?_⟩⟩
    have S810 := keep_same S9 fr1 kp1
    have Sn := Same.new (o := .lst [r0, r1]) hp6
    have S5n := (S6.trans (S68.trans S810)).trans Sn
    have ft := due_ft vd
    have told : DV (upd H10 p6 (.lst [r0, r1])) (.ref p6) (dueD d) := .lst upd_same np6 (.cons ((dr0.mono S810).mono Sn) (.cons (dr1.mono Sn) .nil))
    have nod : (dueD d).hasDict = false := PyData.hasDict_of_canLay _ ft.c
    refine ⟨_, _, dueD d, rfl, told.dp nod, (hdue.mono S5n).dp nod, .inr ⟨_, rfl⟩, .inr ⟨_, rfl⟩, ft.fx (by decide) (by decide), _, rfl, ?_⟩
    walk_at "rd"
    exact ⟨⟨_, rfl⟩, S5n⟩
  · rintro σ H6 ⟨y3, y4, rfl, S6⟩
    walk_at "rd"
    exact k _ (S05.trans S6)
end
end K01


namespace K01
open PySem L2 Nv

section
open PySem.Spec PyProof.Rows
theorem pe_bmK {X : Cx} {K : PySem.W.Frag} {T id : String} {name : Str} {r : V → List V → Hp → VK → Prop} {o e : Expr} {es : List Expr} {to : TE} {t : TA} {apos cpos : Pos} (h : X.K = K) (pa : PlainAttrs T) (slot : Slot T name id) (hty : typeOf (.builtin id) = pure (.type "method_descriptor")) (hm : MtR X id r) (ho : PE X o to) (ha : PA X (e :: es) t)
    (hb : attributeBase o name X.env (eval o X.env) = eval o X.env := by rfl)
    (hf : ((backTo cpos (starEach (e :: es) X.env)).all (fun x => !x.1) && (backToKw cpos (keywordEach [] X.env)).all (fun x => x.1.isSome) && decide ((e :: es).length + ([] : List Keyword).length + (if ([] : List Keyword).isEmpty then 0 else 1) < 30)) = true := by rfl)
    (hl : (apos.endLine == cpos.line) = true := by rfl) (hs : starEach (e :: es) X.env = (false, eval e X.env) :: starEach es X.env := by rfl) (hp : (backTo cpos (starEach es X.env)).any (·.1) = false := by rfl) :
    PE X (.Call (.Attribute o name apos) (e :: es) [] cpos) (tBM K T r to t) := by
  subst h
  exact pe_bm pa slot hty hm ho ha hb hf hl hs hp
theorem op_eqXK {X : Cx} {K : PySem.W.Frag} (h : X.K = K) (hu : X.A.units < cLine) : OpR X (compareOp .Eq) (rEqX K) := by
  subst h
  exact op_eqX hu
end
/-- a try statement whose reading is kept shut -/
def tTry (K : PySem.W.Frag) (Wout : WX) (l : List Cls3) (tb : WX → TS) : TS := fun D σ H => tb (wAsN K Wout D l) D σ H
theorem e_try {K : PySem.W.Frag} {Wout : WX} {l : List Cls3} {tb : WX → TS} {D : Ends} {σ : L2.St} {H : Hp} : tTry K Wout l tb D σ H = tb (wAsN K Wout D l) D σ H := rfl
section
open PySem.Spec PyProof.Rows
theorem ps_try_asT {X : Cx} {body : List Stmt} {h₀ : ExceptHandler} {hds : List ExceptHandler} {l : List Cls3} {pos : Pos} {tb : WX → TS} {Wout : WX}
    (hs : X.stack = X.env :: X.outer) (hf : X.env.frame = some X.env.locals) (hN : X.N.Nodup) (tk : Takes X Wout)
    (hb : ∀ (W : WX) (pn : List (Addr × Obj)) (xe : Value → Shared → Prop), Takes (X.tr pn xe) W → PassesOwn (model X.prog X.w) X.A X.env xe → PSs (X.tr pn xe) body (tb W))
    (hh : HdsAs X (h₀ :: hds) l) : PS X (.Try body (h₀ :: hds) [] [] pos) (tTry X.K Wout l tb) := ps_try_asN hs hf hN tk hb hh
end
/-- an own error as an argument -/
structure ErV (K : PySem.W.Frag) (H : Hp) (a : Addr) : Prop where
  av : AV K H (.ref a) .none
  C : ∃ C, ExV H a C ∧ PySem.W.mroIn K C (.type "object") = some true ∧ PySem.W.findIn K (.ref C) "__eq__" = some (some (.builtin "object.__eq__"))
theorem ErV.mono {K : PySem.W.Frag} {H H' : Hp} {a : Addr} (h : ErV K H a) (s : Same H H') : ErV K H' a := by
  obtain ⟨av, C, x, r⟩ := h
  exact ⟨av.mono s, C, x.same s, r⟩
def spOr (K : PySem.W.Frag) : Sp := fun vs H Q _ => ∃ a, vs = [.ref a] ∧ ErV K H a ∧ ∀ H', Same H H' → Q (.bl true) H'
theorem noLens : Lens .none := ⟨fun z e => (by cases e), fun ds e => (by cases e)⟩
section
variable {P : Program} {w : World} {K : PySem.W.Frag} {mg : Str → Option Value} {base : Heap}
theorem ok_l_object_right (T : Tx K mg) : FnG P w K mg base 6 T.d_l_object_right.f T.d_l_object_right.fd ["_law_thing"] (spOr K) := by
  refine okG0 T.d_l_object_right.F sc_l_object_right (fun vs H Q E h => ?_) (fun cdv A outer s H vs Q E hg hr h => ?_)
  · obtain ⟨a, rfl, _⟩ := h
    rfl
  obtain ⟨a, rfl, er, k⟩ := h
  have sz : sizeLine = 16777216 := sizeLine_eq
  refine ⟨_, (pss_cons (ps_if (pt_cmpR (op_neD hr.units) (pe_lst1 (pa_cons (pe_cG (ok_is_cell T) T.d_is_cell.b takes0 hg (hr.mono (by decide)) T.d_is_cell.m T.d_is_cell.F.kp (pa_cons (pv 0) pa_nil)) (pa_cons (pe_cG (ok_is_text T) T.d_is_text.b takes0 hg (hr.mono (by decide)) T.d_is_text.m T.d_is_text.F.kp (pa_cons (pv 0) pa_nil)) (pa_cons (pe_cG (ok_is_line T) T.d_is_line.b takes0 hg (hr.mono (by decide)) T.d_is_line.m T.d_is_line.F.kp (pa_cons (pv 0) pa_nil)) pa_nil)))) (pe_lst1 (pa_cons pe_bl (pa_cons pe_bl (pa_cons pe_bl pa_nil)))) (nomark _))
      (pss_one (ps_ret pe_bl))
      pss_nil)
    (pss_cons (ps_set (i := 1) sc_l_object_right.nd rfl (Or.inl rfl) (pe_lst1 pa_nil))
    (pss_cons (ps_for PassesOwn.never rfl (pi_range1 (by rfl) T.n_range (pa_cons pe_int pa_nil)) (pg_name (i := 2) sc_l_object_right.nd rfl (Or.inl rfl))
      (pss_one (ps_try_asT rfl rfl sc_l_object_right.nd takes0
        (fun W pn xe tk _ => (pss_one (ps_if (pt_cmpR op_eq (pv 2) pe_int (nomark _))
            (pss_one (ps_expr (pe_bmK (K := K) rfl PySem.F.plainAttrs_list PySem.F.slot_list_append PySem.F.type_list_append mt_append (pv 1) (pa_cons (pe_lst1 (pa_cons (pe_cG (ok_key T) T.d_key.b tk hg (hr.mono (by decide)) T.d_key.m T.d_key.F.kp (pa_cons (pv 0) pa_nil)) pa_nil)) pa_nil))))
            (pss_one (ps_if (pt_cmpR op_eq (pv 2) pe_int (nomark _))
              (pss_one (ps_expr (pe_bmK (K := K) rfl PySem.F.plainAttrs_list PySem.F.slot_list_append PySem.F.type_list_append mt_append (pv 1) (pa_cons (pe_lst1 (pa_cons (pe_cG (ok_line_text T) T.d_line_text.b tk hg (hr.mono (by decide)) T.d_line_text.m T.d_line_text.F.kp (pa_cons (pv 0) pa_nil)) pa_nil)) pa_nil))))
              (pss_one (ps_expr (pe_bmK (K := K) rfl PySem.F.plainAttrs_list PySem.F.slot_list_append PySem.F.type_list_append mt_append (pv 1) (pa_cons (pe_lst1 (pa_cons (pe_cG (ok_read_line T) T.d_read_line.b tk hg (hr.mono (by decide)) T.d_read_line.m T.d_read_line.F.kp (pa_cons (pv 0) pa_nil)) pa_nil)) pa_nil)))))))))
        (HdsAs.cons (i := 3) rfl rfl ⟨rfl, by decide, .inl T.m_InvalidLine⟩ (fun a oe cls d pn hz hf => (pss_one (ps_expr (pe_bmK (K := K) rfl PySem.F.plainAttrs_list PySem.F.slot_list_append PySem.F.type_list_append mt_append (pv 1) (pa_cons (pe_ifExp (pt_cmpR (op_eqXK (K := K) rfl (Nat.lt_of_le_of_lt (Nat.le_add_right _ _) hr.units)) (pe_xf T.e_InvalidLine.xf T.e_InvalidLine.noF hz hf (pv 3)) (pv 0) (nomark _)) pe_str pe_str) pa_nil)))))
        (HdsAs.cons (i := 3) rfl rfl ⟨rfl, by decide, .inl T.m_InvalidText⟩ (fun a oe cls d pn hz hf => (pss_one (ps_expr (pe_bmK (K := K) rfl PySem.F.plainAttrs_list PySem.F.slot_list_append PySem.F.type_list_append mt_append (pv 1) (pa_cons (pe_ifExp (pt_cmpR (op_eqXK (K := K) rfl (Nat.lt_of_le_of_lt (Nat.le_add_right _ _) hr.units)) (pe_xf T.e_InvalidText.xf T.e_InvalidText.noF hz hf (pv 3)) (pv 0) (nomark _)) pe_str pe_str) pa_nil)))))
        HdsAs.nil)))))
    (pss_one (ps_ret (pe_cmpR (op_eqD hr.units) (pv 1) (pe_lst1 (pa_cons pe_str (pa_cons pe_str (pa_cons pe_str pa_nil)))) (nomark _))))))), ?_⟩
  walk_at "rd"
  have ns : ∀ z, PyData.none = .str z → z.length ≤ 100000 := fun z e => by cases e
  refine ⟨_, .none, rfl, er.av, ns, ?_⟩
  refine ⟨_, .none, rfl, er.av, ns, ?_⟩
  refine ⟨_, .none, rfl, er.av, noLens, ?_⟩
  refine ⟨by decide, fun p hp np => ⟨by decide, fun p1 hp1 np1 => ?_⟩⟩
  obtain ⟨H1, e1, S1, f1⟩ := gen_new (.lst [V.bl (cellB .none), V.bl (textB .none), V.bl (lineB .none)]) hp
  simp only [e1] at hp1 ⊢
  obtain ⟨H2, e2, S2, f2⟩ := gen_new (.lst [V.bl false, V.bl false, V.bl false]) hp1
  simp only [e2]
  refine ⟨.list [.bool false, .bool false, .bool false], .list [.bool false, .bool false, .bool false], .lst (.of (S2 _ _ f1)) (.cons (.bl _) (.cons (.bl _) (.cons (.bl _) .nil))), .lst (.of f2) (.cons (.bl _) (.cons (.bl _) (.cons (.bl _) .nil))), by decide, by decide, _, rfl, ?_⟩
  rw [if_neg (by decide)]
  refine ⟨by decide, fun L hL nL => ?_⟩
  obtain ⟨H3, e3, S3, f3⟩ := gen_new (.lst []) hL
  simp only [e3]
  have S03 := (S1.trans S2).trans S3
  have LH : H L = none := none_of (S1.trans S2) hL
  refine ⟨_, rfl, by decide, by decide, ?_⟩
  refine for_range (fun i σ H' => ∃ y2 y3, σ = [some (.ref a), some (.ref L), y2, y3] ∧ H' L = some (.lst ([V.str (Str.ofString "line"), V.str (Str.ofString "line"), V.str (Str.ofString "text")].take i)) ∧ Same H H') ⟨_, _, rfl, f3, S03⟩ ?_ ?_
  · rintro i σ H4 hi ⟨y2, y3, rfl, f4, S4⟩
    have er4 := er.mono S4
    have i3 : i = 0 ∨ i = 1 ∨ i = 2 := by
      have : (3 : Int).toNat = 3 := rfl
      omega
    have LN : L ≠ a := by
      obtain ⟨C0, ⟨d0, fs0, h0, _⟩, _⟩ := er.C
      intro z
      rw [z, h0] at LH
      cases LH
    -- what stands behind a suite
    have app : ∀ (z : Str) (ws : List V) (H6 : Hp), ws = ([V.str (Str.ofString "line"), V.str (Str.ofString "line"), V.str (Str.ofString "text")] : List V).take i → ws ++ [V.str z] = ([V.str (Str.ofString "line"), V.str (Str.ofString "line"), V.str (Str.ofString "text")] : List V).take (i + 1) → Same H4 H6 →
        ∀ (R : VK), (∀ H7, H7 L = some (.lst (([V.str (Str.ofString "line"), V.str (Str.ofString "line"), V.str (Str.ofString "text")] : List V).take (i + 1))) → Same H H7 → R .non H7) → rAppend (V.ref L) [V.str z] H6 R := by
      intro z ws H6 e1 e2 S6 R kR
      have f6 := S6 _ _ f4
      rw [← e1] at f6
      refine ⟨L, ws, _, rfl, rfl, f6, ?_, ?_⟩
      · rw [e1]
        have := List.length_take_le i ([V.str (Str.ofString "line"), V.str (Str.ofString "line"), V.str (Str.ofString "text")] : List V)
        simp at this ⊢
        omega
      · rw [e2]
        refine kR _ upd_same fun b o hb => ?_
        have nb : b ≠ L := fun z => by
          rw [z, LH] at hb
          cases hb
        rw [upd_ne nb]
        exact S6 _ _ (S4 _ _ hb)
    have eqx : ∀ (H6 : Hp) (R : VK), Same H4 H6 → R (.bl true) H6 → rEqX K (V.ref a) (V.ref a) H6 R := by
      intro H6 R S6 q
      obtain ⟨C, ex, mo, eqs⟩ := (er4.mono S6).C
      exact ⟨a, C, rfl, rfl, ex, mo, eqs, q⟩
    have tyL : ∀ H6, Same H4 H6 → tyV K "list" (V.ref L) H6 := fun H6 S6 => .inl ⟨rfl, _, SqL.of (S6 _ _ f4)⟩
    rw [e_gname, e_try]
    rcases i3 with rfl | rfl | rfl
    · walk_at "rd"
      refine ⟨rfl, ?_⟩
      rw [if_pos (by decide)]
      refine ⟨tyL _ (Same.refl _), _, .none, rfl, er4.av, noLens, fun h n c t e => (by cases e), fun e dd H' hdd S hx => ?_⟩
      refine ⟨true, T.x_InvalidLine_InvalidLine, fun _ a' ha' => ?_, fun h => (by cases h)⟩
      walk_at "rd"
      refine ⟨tyL _ S, ?_⟩
      refine r_xf hx ?_
      refine eqx _ _ S ⟨_, rfl, ?_⟩
      walk_at "rd"
      exact app _ [] _ rfl rfl S _ fun H7 f7 S7 => ⟨⟨_, _, rfl⟩, f7, S7⟩
    · walk_at "rd"
      refine ⟨rfl, ?_⟩
      rw [if_neg (by decide)]
      refine ⟨rfl, ?_⟩
      rw [if_pos (by decide)]
      refine ⟨tyL _ (Same.refl _), _, .none, rfl, er4.av, noLens, fun ds e => (by cases e), fun h n c t e => (by cases e), fun e dd H' hdd S hx => ?_⟩
      refine ⟨true, T.x_InvalidLine_InvalidLine, fun _ a' ha' => ?_, fun h => (by cases h)⟩
      walk_at "rd"
      refine ⟨tyL _ S, ?_⟩
      refine r_xf hx ?_
      refine eqx _ _ S ⟨_, rfl, ?_⟩
      walk_at "rd"
      exact app _ [V.str (Str.ofString "line")] _ rfl rfl S _ fun H7 f7 S7 => ⟨⟨_, _, rfl⟩, f7, S7⟩
    · walk_at "rd"
      refine ⟨rfl, ?_⟩
      rw [if_neg (by decide)]
      refine ⟨rfl, ?_⟩
      rw [if_neg (by decide)]
      refine ⟨tyL _ (Same.refl _), _, .none, rfl, er4.av, ?_, fun e dd H' hdd S hx => ?_, fun h n c t e => (by cases e)⟩
      · intro z e
        cases e
      refine ⟨false, T.x_InvalidText_InvalidLine, fun h => (by cases h), fun _ => ⟨true, T.x_InvalidText_InvalidText, fun _ a' ha' => ?_, fun h => (by cases h)⟩⟩
      walk_at "rd"
      refine ⟨tyL _ S, ?_⟩
      refine r_xf hx ?_
      refine eqx _ _ S ⟨_, rfl, ?_⟩
      walk_at "rd"
      exact app _ [V.str (Str.ofString "line"), V.str (Str.ofString "line")] _ rfl rfl S _ fun H7 f7 S7 => ⟨⟨_, _, rfl⟩, f7, S7⟩
  · rintro σ H4 ⟨y2, y3, rfl, f4, S4⟩
    walk_at "rd"
    refine ⟨by decide, fun p2 hp2 np2 => ?_⟩
    obtain ⟨H5, e5, S5, f5⟩ := gen_new (.lst [V.str (Str.ofString "line"), V.str (Str.ofString "line"), V.str (Str.ofString "text")]) hp2
    simp only [e5]
    have f4' : H4 L = some (HO.lst [V.str (Str.ofString "line"), V.str (Str.ofString "line"), V.str (Str.ofString "text")]) := f4
    refine ⟨.list [.str _, .str _, .str _], .list [.str _, .str _, .str _], .lst (.of (S5 _ _ f4')) (.cons (.str _) (.cons (.str _) (.cons (.str _) .nil))), .lst (.of f5) (.cons (.str _) (.cons (.str _) (.cons (.str _) .nil))), by decide +kernel, by decide +kernel, ?_⟩
    exact k _ (S4.trans S5)
end
end K01


namespace K01
open PySem L2 Nv

def spOt : Sp := fun vs H Q _ => ∃ a h n c t, vs = [.ref a] ∧ LnOk h n c t ∧ H a = some (.tup [.int h, .int n, .str (tx c), .str (tx t)]) ∧ ∀ H', Same H H' → Q (.bl true) H'
theorem LnOk.text {h n : Int} {c t : List Nat} (ok : LnOk h n c t) : Asc (lineT h n (tx c) (tx t)) ∧ (lineT h n (tx c) (tx t)).length ≤ 99 := by
  have ac : Asc (tx c) := fun d hd => low_lt (ok.cl d (by rw [show (tx c).cps.toList = c from sg_tx c] at hd; exact hd))
  have at_ : Asc (tx t) := fun d hd => by
    have := pc_lt (ok.tp d (by rw [show (tx t).cps.toList = t from sg_tx t] at hd; exact hd))
    omega
  have b1 : -(10 ^ 21) ≤ h ∧ h ≤ 10 ^ 21 := by have := ok.h0; have := ok.h1; omega
  have b2 : -(10 ^ 21) ≤ n ∧ n ≤ 10 ^ 21 := by have := ok.n0; have := ok.n1; omega
  have l := lineT_ok ok.h0 ok.n0 b1 b2 ac at_
  have l1 := ok.c1
  have l2 := ok.t1
  rw [tx_len, tx_len] at l
  exact ⟨l.1, by omega⟩
theorem e_dnew {σ : L2.St} {H : Hp} {Q : VK} : tDNewK σ H Q = ∀ p, H p = none → Q (.ref p) (upd H p (.dK [])) := rfl
theorem Vd.dict0 : Vd (.dict []) := by
  have sm : Shw (Str.ofString "more").length 2 (.str (Str.ofString "more")) := Shw.str more_asc
  have si : Shw 71 2 (.int 1) := Shw.int (i := 1) (by decide)
  have ml := more_len
  refine ⟨⟨(Shw.dict0 (W := 1) (D := 2)).le (by omega) (by decide), (Shw.dict1 sm si).le (by omega) (by decide), fun es e => (by cases e), fun es e => ?_⟩, ⟨fun z e => (by cases e), fun es e => (by cases e)⟩, fun es e => (by cases e)⟩
  cases e
  exact .inl rfl
theorem Vd.dictS {z : Str} (az : Asc z) (lz : z.length ≤ 120) : Vd (.dict [(.str (Str.ofString "a"), .str z)]) := by
  have s := Shw.str (D := 2) az
  have kl : Asc (Str.ofString "a") := asc_of (by decide +kernel)
  have ll : (Str.ofString "a").length = 1 := by decide +kernel
  have sk : Shw (Str.ofString "a").length 2 (.str (Str.ofString "a")) := Shw.str kl
  have sm : Shw (Str.ofString "more").length 2 (.str (Str.ofString "more")) := Shw.str more_asc
  have si : Shw 71 2 (.int 1) := Shw.int (i := 1) (by decide)
  have ml := more_len
  refine ⟨⟨(Shw.dict1 sk s).le (by omega) (by decide), (Shw.dict2 sk s sm si).le (by omega) (by decide), fun es e => (by cases e), fun es e => ?_⟩, ⟨fun z e => (by cases e), fun es e => (by cases e)⟩, fun es e => (by cases e)⟩
  cases e
  exact .inr ⟨_, _, rfl, by decide +kernel, .inl rfl⟩
section
variable {P : Program} {w : World} {K : PySem.W.Frag} {mg : Str → Option Value} {base : Heap}
theorem ok_l_others_right (T : Tx K mg) : FnG P w K mg base 7 T.d_l_others_right.f T.d_l_others_right.fd ["_law_line_here"] spOt := by
  refine okG0 T.d_l_others_right.F sc_l_others_right (fun vs H Q E h => ?_) (fun cdv A outer s H vs Q E hg hr h => ?_)
  · obtain ⟨a, h, n, c, t, rfl, _⟩ := h
    rfl
  obtain ⟨a, h, n, c, t, rfl, ok, ha, k⟩ := h
  have sz : sizeLine = 16777216 := sizeLine_eq
  refine ⟨_, (pss_cons (ps_set (i := 1) sc_l_others_right.nd rfl (Or.inl rfl) (pe_cG (ok_l_written T) T.d_l_written.b takes0 hg (hr.mono (by decide)) T.d_l_written.m T.d_l_written.F.kp (pa_cons (pv 0) pa_nil)))
    (pss_cons (ps_set (i := 2) sc_l_others_right.nd rfl (Or.inl rfl) (pe_lst1 (pa_cons pe_non (pa_cons pe_int (pa_cons pe_bl (pa_cons pe_bl (pa_cons (pe_un un_neg pe_int) (pa_cons pe_str (pa_cons pe_str (pa_cons (pe_lst1 pa_nil) (pa_cons (pe_tup pa_nil) (pa_cons pe_dnewK (pa_cons (pe_lst1 (pa_cons (pv 1) pa_nil)) (pa_cons (pe_tup (pa_cons (pv 1) pa_nil)) (pa_cons (pe_callTy (call_dictP rfl) (by rfl) T.n_dict (by decide +kernel) (pa_cons (pe_lst1 (pa_cons (pe_tup (pa_cons pe_str (pa_cons (pv 1) pa_nil))) pa_nil)) pa_nil)) (pa_cons (pe_op op_pow pe_int pe_int) pa_nil))))))))))))))))
    (pss_cons (ps_for PassesOwn.never rfl (pi_range1 (by rfl) T.n_range (pa_cons (pe_callB call_len_seq (by rfl) T.n_len (by decide +kernel) (pa_cons (pv 2) pa_nil)) pa_nil)) (pg_name (i := 3) sc_l_others_right.nd rfl (Or.inl rfl))
      (pss_one (ps_if (PW.pt (pw_or (pt_not (pt_val (pe_cG (ok_l_text_right T) T.d_l_text_right.b takes0 hg (hr.mono (by decide)) T.d_l_text_right.m T.d_l_text_right.F.kp (pa_cons (pe_ix ix_list (pv 2) (pv 3) (fun _ _ => rfl)) (pa_cons pe_non (pa_cons (pe_op op_modN (pe_callTy call_intI (by rfl) T.n_int (by decide +kernel) (pa_cons (pv 3) pa_nil)) pe_int) pa_nil)))))) (pw_or1 (pt_not (pt_val (pe_cG (ok_l_line_right T) T.d_l_line_right.b takes0 hg (hr.mono (by decide)) T.d_l_line_right.m T.d_l_line_right.F.kp (pa_cons (pe_ix ix_list (pv 2) (pv 3) (fun _ _ => rfl)) (pa_cons (pe_op op_modN (pe_callTy call_intI (by rfl) T.n_int (by decide +kernel) (pa_cons (pv 3) pa_nil)) pe_int) pa_nil))))))))
        (pss_one (ps_ret pe_bl))
        pss_nil)))
    (pss_one (ps_ret (pe_and (pe_cG (ok_l_text_right T) T.d_l_text_right.b takes0 hg (hr.mono (by decide)) T.d_l_text_right.m T.d_l_text_right.F.kp (pa_cons (pv 0) (pa_cons pe_non (pa_cons pe_int pa_nil)))) (pe_and (pe_cG (ok_l_text_right T) T.d_l_text_right.b takes0 hg (hr.mono (by decide)) T.d_l_text_right.m T.d_l_text_right.F.kp (pa_cons (pe_callTy call_list_new (by rfl) T.n_list (by decide +kernel) (pa_cons (pv 0) pa_nil)) (pa_cons pe_non (pa_cons pe_int pa_nil)))) (pe_one (pe_cG (ok_l_object_right T) T.d_l_object_right.b takes0 hg (hr.mono (by decide)) T.d_l_object_right.m T.d_l_object_right.F.kp (pa_cons (pe_errV T.e_InvalidText (okx_InvalidText T) T.x_InvalidText.bi (hr.mono (by decide)) (pv 1)) pa_nil)))))))))), ?_⟩
  walk_at "rd"
  simp only [e_dnew]
  have b1 : -(10 ^ 21) ≤ h ∧ h ≤ 10 ^ 21 := by have := ok.h0; have := ok.h1; omega
  have b2 : -(10 ^ 21) ≤ n ∧ n ≤ 10 ^ 21 := by have := ok.n0; have := ok.n1; omega
  have l1 := ok.c1
  have l2 := ok.t1
  refine ⟨_, h, n, tx c, tx t, rfl, .tup ha (.cons (.int _) (.cons (.int _) (.cons (.str _) (.cons (.str _) .nil)))), b1, b2, by rw [tx_len]; omega, by rw [tx_len]; omega, ?_⟩
  obtain ⟨az, lz⟩ := ok.text
  generalize lineT h n (tx c) (tx t) = z at az lz
  refine ⟨by decide, fun p1 hp1 np1 => ⟨by decide, fun p2 hp2 p3 hp3 => ⟨by decide, fun p4 hp4 np4 => ⟨by decide, fun p5 hp5 => ⟨by decide, fun p6 hp6 => ⟨by decide, fun p7 hp7 np7 => ?_⟩⟩⟩⟩⟩⟩
  obtain ⟨H1, e1, S1, f1⟩ := gen_new (.lst []) hp1
  simp only [e1] at hp2 hp3 hp4 hp5 hp6 hp7 ⊢
  obtain ⟨H2, e2, S2, f2⟩ := gen_new (.tup []) hp2
  simp only [e2] at hp3 hp4 hp5 hp6 hp7 ⊢
  obtain ⟨H3, e3, S3, f3⟩ := gen_new (.dK []) hp3
  simp only [e3] at hp4 hp5 hp6 hp7 ⊢
  obtain ⟨H4, e4, S4, f4⟩ := gen_new (.lst [V.str z]) hp4
  simp only [e4] at hp5 hp6 hp7 ⊢
  obtain ⟨H5, e5, S5, f5⟩ := gen_new (.tup [V.str z]) hp5
  simp only [e5] at hp6 hp7 ⊢
  obtain ⟨H6, e6, S6, f6⟩ := gen_new (.tup [V.str (Str.ofString "a"), V.str z]) hp6
  simp only [e6] at hp7 ⊢
  obtain ⟨H7, e7, S7, f7⟩ := gen_new (.lst [V.ref p6]) hp7
  simp only [e7]
  refine ⟨[p6], .of f7, [(.inr (Str.ofString "a"), V.str z)], .cons (.of (S7 _ _ f6)) .nil, fun p8 hp8 => ⟨cpow_of (by decide) (by decide) (by decide) (by decide), by decide, fun L hL nL => ?_⟩⟩
  obtain ⟨H8, e8, S8, f8⟩ := gen_new (.dK (mergeK [] [(.inr (Str.ofString "a"), V.str z)])) hp8
  simp only [e8] at hL ⊢
  obtain ⟨vals, ev⟩ : ∃ vals, [V.non, V.int 0, V.bl true, V.bl false, V.int (-1), V.str (Str.ofString ""), V.str (Str.ofString " "), V.ref p1, V.ref p2, V.ref p3, V.ref p4, V.ref p5, V.ref p8, V.int (10 ^ Int.toNat 19)] = vals := ⟨_, rfl⟩
  simp only [ev]
  obtain ⟨H9, e9, S9, f9⟩ := gen_new (.lst vals) hL
  simp only [e9]
  have lv : vals.length = 14 := by
    rw [← ev]
    rfl
  have S19 : Same H1 H9 := (((((((S2.trans S3).trans S4).trans S5).trans S6).trans S7).trans S8).trans S9)
  have S09 : Same H H9 := S1.trans S19
  have g1 := S19 _ _ f1
  have g2 := (((((((S3).trans S4).trans S5).trans S6).trans S7).trans S8).trans S9) _ _ f2
  have g3 := ((((((S4).trans S5).trans S6).trans S7).trans S8).trans S9) _ _ f3
  have g4 := (((((S5).trans S6).trans S7).trans S8).trans S9) _ _ f4
  have g5 := ((((S6).trans S7).trans S8).trans S9) _ _ f5
  have g8 := S9 _ _ f8
  have main : ∀ i : Nat, i < 14 → ∃ v d, atI vals (i : Int) = some v ∧ DV H9 v d ∧ Vd d ∧ (∀ z, d = .str z → z.length ≤ 600) ∧ lnD d = none := by
    intro i hi
    have c14 : i = 0 ∨ i = 1 ∨ i = 2 ∨ i = 3 ∨ i = 4 ∨ i = 5 ∨ i = 6 ∨ i = 7 ∨ i = 8 ∨ i = 9 ∨ i = 10 ∨ i = 11 ∨ i = 12 ∨ i = 13 := by omega
    have one : ∀ {j : Nat} {v : V} {d : PyData}, vals[j]? = some v → DV H9 v d → Vd d → (∀ z, d = .str z → z.length ≤ 600) → lnD d = none → ∃ v d, atI vals (j : Int) = some v ∧ DV H9 v d ∧ Vd d ∧ (∀ z, d = .str z → z.length ≤ 600) ∧ lnD d = none :=
      fun a b c d e => ⟨_, _, atI_nat a, b, c, d, e⟩
    rw [← ev] at one ⊢
    rcases c14 with rfl | rfl | rfl | rfl | rfl | rfl | rfl | rfl | rfl | rfl | rfl | rfl | rfl | rfl
    · exact one (j := 0) rfl .non Od.non.vd (fun z e => by cases e) rfl
    · exact one (j := 1) rfl (.int 0) (Od.int (by decide)).vd (fun z e => by cases e) rfl
    · exact one (j := 2) rfl (.bl true) (Od.bl true).vd (fun z e => by cases e) rfl
    · exact one (j := 3) rfl (.bl false) (Od.bl false).vd (fun z e => by cases e) rfl
    · exact one (j := 4) rfl (.int (-1)) (Od.int (by decide)).vd (fun z e => by cases e) rfl
    · exact one (j := 5) rfl (.str _) (Od.str (asc_of (by decide +kernel)) (by decide +kernel)).vd (fun z e => by cases e; decide +kernel) (by decide +kernel)
    · exact one (j := 6) rfl (.str _) (Od.str (asc_of (by decide +kernel)) (by decide +kernel)).vd (fun z e => by cases e; decide +kernel) (by decide +kernel)
    · exact one (j := 7) rfl (.lst g1 np1 .nil) (Vd.list (by simp) (by simp) (by decide)) (fun z e => by cases e) rfl
    · exact one (j := 8) rfl (.tup g2 .nil) (Vd.tuple (by simp) (by decide)) (fun z e => by cases e) rfl
    · exact one (j := 9) rfl (.dct g3 .nil) Vd.dict0 (fun z e => by cases e) rfl
    · exact one (j := 10) rfl (.lst g4 np4 (.cons (.str _) .nil)) (Od.lst az (by omega)).vd (fun z e => by cases e) rfl
    · exact one (j := 11) rfl (.tup g5 (.cons (.str _) .nil)) (Od.tup az (by omega)).vd (fun z e => by cases e) rfl
    · exact one (j := 12) rfl (.dct g8 (.cons (.str _) .nil)) (Vd.dictS az (by omega)) (fun z e => by cases e) rfl
    · exact one (j := 13) rfl (.int _) (Od.int (by decide)).vd (fun z e => by cases e) rfl
  clear ev
  refine ⟨V.ref L, rfl, L, rfl, vals, .inl (.of f9), _, rfl, by rw [lv]; decide, by rw [lv]; decide, ?_⟩
  rw [lv]
  refine for_range (fun i σ H' => ∃ y3, σ = [some (.ref a), some (.str z), some (.ref L), y3] ∧ Same H9 H') ⟨_, rfl, Same.refl H9⟩ ?_ ?_
  · rintro i σ H' hi ⟨y3, rfl, S10⟩
    have hi' : i < 14 := hi
    obtain ⟨v, d, hv, dv, vd, hz, hn⟩ := main i hi'
    walk_at "rd"
    have fL := S10 _ _ f9
    have ei : (0 : Int) + (i : Int) = (i : Int) := by omega
    rw [ei]
    refine r_ixL (.of fL) hv ⟨by decide, ?_⟩
    refine ⟨v, d, _, _, rfl, dv.mono S10, vd, hz, .inl ⟨hn, rfl⟩, fun H11 S11 => ⟨_, rfl, ?_⟩⟩
    walk_at "rd"
    refine r_ixL (.of (S11 _ _ fL)) hv ⟨by decide, ?_⟩
    refine ⟨v, d, _, rfl, (dv.mono S10).mono S11, vd, fun H12 S12 => ⟨_, rfl, ?_⟩⟩
    walk_at "rd"
    exact ⟨⟨_, rfl⟩, (S10.trans S11).trans S12⟩
  · rintro σ H' ⟨y3, rfl, S10⟩
    walk_at "rd"
    have ac : Asc (tx c) := fun d hd => low_lt (ok.cl d (by rw [show (tx c).cps.toList = c from sg_tx c] at hd; exact hd))
    have at_ : Asc (tx t) := fun d hd => by
      have := pc_lt (ok.tp d (by rw [show (tx t).cps.toList = t from sg_tx t] at hd; exact hd))
      omega
    have ods : ∀ d ∈ [PyData.int h, .int n, .str (tx c), .str (tx t)], Od d := by
      intro d hd
      simp only [List.mem_cons, List.not_mem_nil, or_false] at hd
      rcases hd with rfl | rfl | rfl | rfl
      · exact .int (by have := ok.h0; have := ok.h1; omega)
      · exact .int (by have := ok.n0; have := ok.n1; omega)
      · exact .str ac (by rw [tx_len]; omega)
      · exact .str at_ (by rw [tx_len]; omega)
    have fls : ∀ d ∈ [PyData.int h, .int n, .str (tx c), .str (tx t)], flatD d = true := by
      intro d hd
      simp only [List.mem_cons, List.not_mem_nil, or_false] at hd
      rcases hd with rfl | rfl | rfl | rfl <;> rfl
    have dvs : ∀ H2 : Hp, DVs H2 [V.int h, V.int n, V.str (tx c), V.str (tx t)] [PyData.int h, .int n, .str (tx c), .str (tx t)] := fun H2 => .cons (.int _) (.cons (.int _) (.cons (.str _) (.cons (.str _) .nil)))
    have hu := (S09.trans S10) _ _ ha
    refine ⟨_, _, _, _, rfl, .tup hu (dvs _), Vd.tuple ods (by show 4 ≤ 8; decide), fun z e => (by cases e), .inl ⟨rfl, rfl⟩, fun H11 S11 => ⟨_, rfl, ?_⟩⟩
    walk_at "rd"
    refine ⟨_, .inr (.of (S11 _ _ hu)), fun l hl nl => ?_⟩
    obtain ⟨H12, e12, S12, f12⟩ := gen_new (.lst [V.int h, V.int n, V.str (tx c), V.str (tx t)]) hl
    simp only [e12]
    refine ⟨_, _, _, _, rfl, .lst f12 nl (dvs _), Vd.list ods fls (by show 4 ≤ 8; decide), fun z e => (by cases e), .inl ⟨rfl, rfl⟩, fun H13 S13 => ⟨_, rfl, ?_⟩⟩
    walk_at "rd"
    intro e d he hd ne
    have S14 : Same H13 (upd H13 d (exd d [(Str.ofString "given", V.str z)])) := Same.new hd
    have he2 : upd H13 d (exd d [(Str.ofString "given", V.str z)]) e = none := by
      rw [upd_ne (Ne.symm ne)]
      exact he
    have S15 := Same.new (o := exo e T.C_InvalidText (some d)) he2
    have ex : ExV (upd (upd H13 d (exd d [(Str.ofString "given", V.str z)])) e (exo e T.C_InvalidText (some d))) e T.C_InvalidText :=
      ⟨d, _, upd_same, S15 _ _ upd_same⟩
    refine ⟨e, rfl, ⟨T.av_InvalidText.av T.e_InvalidText.nv ex, _, ex, T.av_InvalidText.mo, T.av_InvalidText.eq⟩, fun H16 S16 => ?_⟩
    exact k _ ((((((S09.trans S10).trans S11).trans S12).trans S13).trans (S14.trans S15)).trans S16)
end
end K01


namespace K01
open PySem L2 Nv

/-! what a line's text is read as -/
theorem dig_ne {d : Nat} (h : Fr.dig d = true) : d ≠ 32 := by
  simp [Fr.dig] at h
  omega
theorem low_ne {d : Nat} (h : low d = true) : d ≠ 32 := by
  simp [low] at h
  omega
theorem celS_tx {c : List Nat} (c0 : 1 ≤ c.length) (c1 : c.length ≤ 8) (cl : ∀ d ∈ c, low d = true) : celS (tx c) = true := by
  unfold celS
  rw [alow, tx_len, sg_tx]
  have : c.all low = true := List.all_eq_true.mpr cl
  rw [this]
  simp
  omega
theorem numS_of (n : Nat) : numS (tx (TL.numL n)) = true := by
  have e : numS (tx (TL.numL n)) = numL (sg (tx (TL.numL n))) := numS_eq _
  rw [e, sg_tx]
  exact numL_ok n
theorem numV_of (n : Nat) : numV (tx (TL.numL n)) = (n : Int) := by
  unfold numV
  rw [sg_tx, num_digits]
theorem LnOk.line {h n : Int} {c t : List Nat} (ok : LnOk h n c t) : lineB (lineD h n (tx c) (tx t)) = true := by
  show (cntB (.int h) && (cntB (.int n) && (celS (tx c) && (okS (tx t) && decide ((tx t).length ≤ 40))))) = true
  rw [celS_tx ok.c0 ok.c1 ok.cl, (Pl.tx ok.tp).ok, tx_len]
  have h0 := ok.h0
  have n0 := ok.n0
  have t1 := ok.t1
  simp [cntB, h0, n0, t1]
theorem LnOk.read {h n : Int} {c t : List Nat} (ok : LnOk h n c t) : lnP (lineT h n (tx c) (tx t)) = some (h, n, tx c, tx t) := by
  have lb := ok.line
  have h0 := ok.h0
  have n0 := ok.n0
  obtain ⟨h', rfl⟩ : ∃ k : Nat, h = (k : Int) := ⟨h.toNat, by omega⟩
  obtain ⟨n', rfl⟩ : ∃ k : Nat, n = (k : Int) := ⟨n.toNat, by omega⟩
  have e : sg (lineT (h' : Int) (n' : Int) (tx c) (tx t)) = TL.numL h' ++ 32 :: (TL.numL n' ++ 32 :: (c ++ 32 :: t)) := by
    unfold lineT
    have e0 : sg Str.empty = [] := rfl
    have e1 : sg (Str.ofString " ") = [32] := by decide +kernel
    simp only [sg_app, e0, e1, nat_sg, sg_tx]
    simp
  have sp := split_four e (fun d hd => dig_ne (digits_dig hd)) (fun d hd => dig_ne (digits_dig hd)) (fun d hd => low_ne (ok.cl d hd))
  unfold lnP
  rw [sp]
  show (if numS (tx (TL.numL h')) = true ∧ numS (tx (TL.numL n')) = true ∧ lineB (lineD (numV (tx (TL.numL h'))) (numV (tx (TL.numL n'))) (tx c) (tx t)) = true then some (numV (tx (TL.numL h')), numV (tx (TL.numL n')), tx c, tx t) else none) = _
  rw [numV_of, numV_of, if_pos ⟨numS_of _, numS_of _, lb⟩]
theorem num_lt (l : List Nat) (h : ∀ c ∈ l, Fr.dig c = true) : ∀ a : Nat, l.foldl (fun a c => a * 10 + (c - 48)) a < (a + 1) * 10 ^ l.length := by
  induction l with
  | nil => intro a; simp
  | cons c r ih =>
    intro a
    rw [List.foldl_cons, List.length_cons]
    have hc : c - 48 ≤ 9 := by
      have := h c (by simp)
      simp [Fr.dig] at this
      omega
    have := ih (fun d hd => h d (by simp [hd])) (a * 10 + (c - 48))
    have e : (a + 1) * 10 ^ (r.length + 1) = (a * 10 + 10) * 10 ^ r.length := by
      rw [Nat.pow_succ, Nat.mul_comm (10 ^ r.length) 10, ← Nat.mul_assoc, Nat.add_mul, Nat.one_mul]
    rw [e]
    exact Nat.lt_of_lt_of_le this (Nat.mul_le_mul_right _ (by omega))
theorem fx_int {a : Str} (h : numS a = true) (l : a.length ≤ 500) : (PyData.int (numV a)).leavesShort 600 = true ∧ (PyData.int (numV a)).showable = true ∧ (PyData.int (numV a)).weight ≤ 1920 := by
  have e : numL (sg a) = true := by
    rw [← numS_eq]
    exact h
  unfold numL at e
  simp only [Bool.and_eq_true, decide_eq_true_eq] at e
  have hd : ∀ c ∈ sg a, Fr.dig c = true := List.all_eq_true.mp e.1.2
  have lt : Fr.num (sg a) < 10 ^ 500 := by
    have := num_lt (sg a) hd 0
    rw [Nat.zero_add, Nat.one_mul, sg_len] at this
    exact Nat.lt_of_lt_of_le this (Nat.pow_le_pow_right (by decide) l)
  have lt2 : (numV a).natAbs < 10 ^ 500 := by
    unfold numV
    rw [Int.natAbs_natCast]
    exact lt
  have lg : (numV a).natAbs.log2 < 1920 := by
    by_cases h0 : (numV a).natAbs = 0
    · rw [h0]
      decide
    · rw [Nat.log2_lt h0]
      refine Nat.lt_of_lt_of_le lt2 ?_
      have e1 : (10 : Nat) ^ 500 ≤ 16 ^ 480 * 1 := by decide +kernel
      have e2 : (16 : Nat) ^ 480 = 2 ^ 1920 := by
        rw [show (16 : Nat) = 2 ^ 4 from rfl, ← Nat.pow_mul]
      rw [Nat.mul_one, e2] at e1
      exact e1
  refine ⟨?_, ?_, ?_⟩
  · have h1 := int_text_length_le10 (a := numV a) (k := 500) (by decide) lt2
    have e : (Str.ofString (toString (numV a))).length = (toString (numV a)).length := ofString_length _
    have h2 : (PyData.shown (.int (numV a))).length ≤ 600 := by
      simp only [PyData.shown]
      exact Nat.le_trans (Nat.le_of_eq e) (by omega)
    simpa only [PyData.leavesShort, decide_eq_true_eq] using h2
  · simpa only [PyData.showable, decide_eq_true_eq] using lg
  · simp only [PyData.weight]
    split <;> omega
theorem lnP_fx {z : Str} {h n : Int} {c t : Str} (az : Asc z) (lz : z.length ≤ 500) (e : lnP z = some (h, n, c, t)) : Fx (lineD h n c t) := by
  unfold lnP at e
  split at e
  · rename_i a b c' t' hs
    split at e
    · rename_i hh
      simp only [Option.some.injEq, Prod.mk.injEq] at e
      obtain ⟨rfl, rfl, rfl, rfl⟩ := e
      have sub : ∀ p ∈ [a, b, c', t'], p.length ≤ 500 ∧ Asc p := fun p hp => by
        have := splitMax_sub (x := z) (p := p) (k := 3) (by rw [hs]; exact hp)
        exact ⟨by omega, fun c hc => az c (this.2 c hc)⟩
      obtain ⟨a1, a2, a3⟩ := fx_int hh.1 (sub a (by simp)).1
      obtain ⟨b1, b2, b3⟩ := fx_int hh.2.1 (sub b (by simp)).1
      have sc := sub c' (by simp)
      have st := sub t' (by simp)
      have fc := Ft.str (D := 0) sc.2
      have ft := Ft.str (D := 0) st.2
      have lsS : ∀ {x : Str}, Asc x → (PyData.str x).leavesShort 600 = true := fun {x} ax => by
        simp only [PyData.leavesShort, List.all_eq_true, decide_eq_true_eq]
        exact fun c hc => Nat.lt_of_lt_of_le (ax c hc) (by decide)
      have ls : (lineD (numV a) (numV b) c' t').leavesShort 600 = true := by
        simp only [lineD, PyData.leavesShort, PyData.leavesShortAll] at a1 b1 ⊢
        have q1 := lsS sc.2
        have q2 := lsS st.2
        simp only [PyData.leavesShort] at q1 q2
        rw [a1, b1, q1, q2]
        rfl
      have wt : (lineD (numV a) (numV b) c' t').weight ≤ 5000 := by
        have w1 := fc.s.w
        have w2 := ft.s.w
        simp only [lineD, PyData.weight, PyData.weightAll] at a3 b3 w1 w2 ⊢
        omega
      refine ⟨?_, ?_, ?_, ?_⟩
      · have q1 := fc.c
        have q2 := ft.c
        simp only [lineD, PyData.canLay0, PyData.canLayAll0] at q1 q2 ⊢
        rw [q1, q2]
        rfl
      · simp only [lineD, PyData.depth, PyData.depthAll]
        decide
      · have q1 := fc.s.h
        have q2 := ft.s.h
        simp only [lineD, PyData.showable, PyData.showableAll] at a2 b2 q1 q2 ⊢
        rw [a2, b2]
        rfl
      · have h1 := PyData.shown_le 600 (by decide) _ ls
        have e : sizeLine = 16777216 := sizeLine_eq
        have h2 : (600 + 2) * (lineD (numV a) (numV b) c' t').weight ≤ (600 + 2) * 5000 := Nat.mul_le_mul_left _ wt
        omega
    · cases e
  · cases e
end K01


namespace K01
open PySem L2 Nv

def spRight : Sp := fun vs H Q _ => ∃ p N, vs = [.ref p] ∧ BoxAt H p N ∧ N ≤ 100 ∧ ∀ H', Ext1 p H H' → Q (.bl true) H'
theorem Vd.ofStr {z : Str} (az : Asc z) (lz : z.length ≤ 600) : Vd (.str z) := by
  have s := Shw.str (D := 0) az
  exact ⟨⟨s.le (by omega) (by decide), s.le (by omega) (by decide), fun es e => (by cases e), fun es e => (by cases e)⟩, ⟨fun y e => (by cases e; exact ⟨az, by omega⟩), fun es e => (by cases e)⟩, fun es e => (by cases e)⟩
section
variable {P : Program} {w : World} {K : PySem.W.Frag} {mg : Str → Option Value} {base : Heap}
theorem ok_l_right (T : Tx K mg) : FnG P w K mg base 8 T.d_l_right.f T.d_l_right.fd ["_law_box_here"] spRight := by
  refine okG0 T.d_l_right.F sc_l_right (fun vs H Q E h => ?_) (fun cdv A outer s H vs Q E hg hr h => ?_)
  · obtain ⟨p, N, rfl, _⟩ := h
    rfl
  obtain ⟨p, N, rfl, hp, hN, k⟩ := h
  have sz : sizeLine = 16777216 := sizeLine_eq
  refine ⟨_, (pss_cons (ps_set (i := 1) sc_l_right.nd rfl (Or.inl rfl) (pe_lst1 (pa_cons (pe_cG (ok_l_line T) T.d_l_line.b takes0 hg (hr.mono (by decide)) T.d_l_line.m T.d_l_line.F.kp (pa_cons (pv 0) pa_nil)) (pa_cons (pe_cG (ok_l_line T) T.d_l_line.b takes0 hg (hr.mono (by decide)) T.d_l_line.m T.d_l_line.F.kp (pa_cons (pv 0) pa_nil)) pa_nil))))
    (pss_cons (ps_for PassesOwn.never rfl (pi_list (pe_op op_cat (pv 1) (pe_slice sl_list (pv 1) po_none (po_some pe_int)))) (pg_name (i := 2) sc_l_right.nd rfl (Or.inl rfl))
      (pss_cons (ps_set (i := 3) sc_l_right.nd rfl (Or.inl rfl) (pe_cG (ok_l_written T) T.d_l_written.b takes0 hg (hr.mono (by decide)) T.d_l_written.m T.d_l_written.F.kp (pa_cons (pv 2) pa_nil)))
      (pss_cons (ps_if (PW.pt (pw_or (pt_not (pt_val (pe_cG (ok_l_line_right T) T.d_l_line_right.b takes0 hg (hr.mono (by decide)) T.d_l_line_right.m T.d_l_line_right.F.kp (pa_cons (pv 2) (pa_cons pe_int pa_nil))))) (pw_or (pt_not (pt_val (pe_cG (ok_l_text_right T) T.d_l_text_right.b takes0 hg (hr.mono (by decide)) T.d_l_text_right.m T.d_l_text_right.F.kp (pa_cons (pv 3) (pa_cons (pv 2) (pa_cons pe_int pa_nil)))))) (pw_or1 (pt_not (pt_val (pe_cG (ok_l_text_right T) T.d_l_text_right.b takes0 hg (hr.mono (by decide)) T.d_l_text_right.m T.d_l_text_right.F.kp (pa_cons (pv 3) (pa_cons (pv 2) (pa_cons pe_int pa_nil))))))))))
        (pss_one (ps_ret pe_bl))
        pss_nil)
      (pss_cons (ps_for PassesOwn.never rfl (pi_range1 (by rfl) T.n_range (pa_cons pe_int pa_nil)) (pg_name (i := 4) sc_l_right.nd rfl (Or.inl rfl))
        (pss_cons (ps_par (i := 5) (j := 6) rfl sc_l_right.nd rfl rfl (by decide) rfl rfl (pa_cons (pe_cG (ok_l_odd T) T.d_l_odd.b takes0 hg (hr.mono (by decide)) T.d_l_odd.m T.d_l_odd.F.kp (pa_cons (pv 0) (pa_cons (pv 2) pa_nil))) (pa_cons (pe_cG (ok_l_spoilt T) T.d_l_spoilt.b takes0 hg (hr.mono (by decide)) T.d_l_spoilt.m T.d_l_spoilt.F.kp (pa_cons (pv 0) (pa_cons (pv 3) pa_nil))) pa_nil)) (by rfl))
        (pss_cons (ps_if (pt_not (pt_val (pe_cG (ok_l_line_right T) T.d_l_line_right.b takes0 hg (hr.mono (by decide)) T.d_l_line_right.m T.d_l_line_right.F.kp (pa_cons (pv 5) (pa_cons (pe_op op_modN (pe_callTy call_intI (by rfl) T.n_int (by decide +kernel) (pa_cons (pv 4) pa_nil)) pe_int) pa_nil)))))
          (pss_one (ps_ret pe_bl))
          pss_nil)
        (pss_cons (ps_if (PW.pt (pw_and (pt_val (pe_cG (ok_l_short T) T.d_l_short.b takes0 hg (hr.mono (by decide)) T.d_l_short.m T.d_l_short.F.kp (pa_cons (pv 6) pa_nil))) (pw_and1 (pt_not (pt_val (pe_cG (ok_l_text_right T) T.d_l_text_right.b takes0 hg (hr.mono (by decide)) T.d_l_text_right.m T.d_l_text_right.F.kp (pa_cons (pv 6) (pa_cons (pe_cG (ok_l_read T) T.d_l_read.b takes0 hg (hr.mono (by decide)) T.d_l_read.m T.d_l_read.F.kp (pa_cons (pv 6) pa_nil)) (pa_cons (pe_op op_modN (pe_callTy call_intI (by rfl) T.n_int (by decide +kernel) (pa_cons (pv 4) pa_nil)) pe_int) pa_nil)))))))))
          (pss_one (ps_ret pe_bl))
          pss_nil)
        (pss_one (ps_if (PW.pt (pw_or (pt_not (pt_val (pe_cG (ok_l_judged T) T.d_l_judged.b takes0 hg (hr.mono (by decide)) T.d_l_judged.m T.d_l_judged.F.kp (pa_cons (pe_cG (ok_l_odd_cell T) T.d_l_odd_cell.b takes0 hg (hr.mono (by decide)) T.d_l_odd_cell.m T.d_l_odd_cell.F.kp (pa_cons (pv 0) (pa_cons (pe_ix ix_tup (pv 2) pe_int (fun _ _ => rfl)) pa_nil))) (pa_cons pe_int pa_nil))))) (pw_or1 (pt_not (pt_val (pe_cG (ok_l_judged T) T.d_l_judged.b takes0 hg (hr.mono (by decide)) T.d_l_judged.m T.d_l_judged.F.kp (pa_cons (pe_cG (ok_l_odd_text T) T.d_l_odd_text.b takes0 hg (hr.mono (by decide)) T.d_l_odd_text.m T.d_l_odd_text.F.kp (pa_cons (pv 0) (pa_cons (pe_ix ix_tup (pv 2) pe_int (fun _ _ => rfl)) pa_nil))) (pa_cons pe_int pa_nil))))))))
          (pss_one (ps_ret pe_bl))
          pss_nil))))))
      (pss_one (ps_if (PW.pt (pw_or (pt_not (pt_val (pe_cG (ok_l_judged T) T.d_l_judged.b takes0 hg (hr.mono (by decide)) T.d_l_judged.m T.d_l_judged.F.kp (pa_cons (pe_ix ix_tup (pv 2) pe_int (fun _ _ => rfl)) (pa_cons pe_int pa_nil))))) (pw_or1 (pt_not (pt_val (pe_cG (ok_l_judged T) T.d_l_judged.b takes0 hg (hr.mono (by decide)) T.d_l_judged.m T.d_l_judged.F.kp (pa_cons (pe_ix ix_tup (pv 2) pe_int (fun _ _ => rfl)) (pa_cons pe_int pa_nil))))))))
        (pss_one (ps_ret pe_bl))
        pss_nil))))))
    (pss_one (ps_ret (pe_cG (ok_l_others_right T) T.d_l_others_right.b takes0 hg (hr.mono (by decide)) T.d_l_others_right.m T.d_l_others_right.F.kp (pa_cons (pe_ix ix_list (pv 1) pe_int (fun _ _ => rfl)) pa_nil)))))), ?_⟩
  walk_at "rd"
  refine ⟨p, N, rfl, hp, by omega, fun h0 n0 c0 t0 a0 H1 ok0 na0 f0 hp1 e1 => ?_⟩
  have p0 : a0 ≠ p := fun z => by
    rw [z] at na0
    obtain ⟨o, ho⟩ := box_some hp
    rw [ho] at na0
    cases na0
  refine ⟨p, _, rfl, hp1, by omega, fun h1 n1 c1' t1 a1 H2 ok1 na1 f1 hp2 e2 => ⟨by decide, fun L hL nL => ?_⟩⟩
  have p1 : a1 ≠ p := fun z => by
    rw [z] at na1
    obtain ⟨o, ho⟩ := box_some hp1
    rw [ho] at na1
    cases na1
  obtain ⟨H3, e3, S3, f3⟩ := gen_new (.lst [V.ref a0, V.ref a1]) hL
  rw [e3]
  refine ⟨_, rfl, _, rfl, ?_⟩
  refine ⟨1, rfl, L, _, rfl, .of f3, fun q hq => ?_⟩
  have c1 : cutV [V.ref a0, V.ref a1] none (some 1) = [V.ref a0] := rfl
  rw [c1]
  obtain ⟨H4, e4, S4, f4⟩ := gen_new (.lst [V.ref a0]) hq
  rw [e4]
  refine ⟨L, q, _, _, rfl, rfl, S4 _ _ f3, f4, by rw [sz]; show 3 ≤ 16777216; decide, fun r hr2 => ?_⟩
  obtain ⟨H5, e5, S5, f5⟩ := gen_new (.lst ([V.ref a0, V.ref a1] ++ [V.ref a0])) hr2
  rw [e5]
  refine ⟨r, rfl, ⟨_, .of f5⟩, ?_⟩
  have S25 : Same H2 H5 := (S3.trans S4).trans S5
  have hp5 : BoxAt H5 p (N + 120) := (hp2.mono S25).le (by omega)
  have E5 : Ext1 p H H5 := (e1.trans e2).trans (Nv.Same.ext1 S25)
  have g0 : H5 a0 = some (.tup [.int h0, .int n0, .str (tx c0), .str (tx t0)]) := S25 _ _ (e2 _ _ p0 f0)
  have g1 : H5 a1 = some (.tup [.int h1, .int n1, .str (tx c1'), .str (tx t1)]) := S25 _ _ f1
  have L5 : H5 L = some (.lst [V.ref a0, V.ref a1]) := S5 _ _ (S4 _ _ f3)
  have rp : r ≠ p := box_ne (hp2.mono (S3.trans S4)) hr2
  have Lp : L ≠ p := box_ne hp2 hL
  have each : ∀ x ∈ ([V.ref a0, V.ref a1] ++ [V.ref a0] : List V), ∃ h n c t a, x = V.ref a ∧ a ≠ p ∧ LnOk h n c t ∧ H5 a = some (.tup [.int h, .int n, .str (tx c), .str (tx t)]) := by
    intro x hx
    simp only [List.cons_append, List.nil_append, List.mem_cons, List.not_mem_nil, or_false] at hx
    rcases hx with rfl | rfl | rfl
    · exact ⟨_, _, _, _, a0, rfl, p0, ok0, g0⟩
    · exact ⟨_, _, _, _, a1, rfl, p1, ok1, g1⟩
    · exact ⟨_, _, _, _, a0, rfl, p0, ok0, g0⟩
  refine for_list (K := K) (a := r) (xs := [V.ref a0, V.ref a1] ++ [V.ref a0]) (fun i σ H' => ∃ y2 y3 y4 y5 y6, σ = [some (.ref p), some (.ref L), y2, y3, y4, y5, y6] ∧ BoxAt H' p (N + 120 + 192 * i) ∧ Ext1 p H5 H')
    ⟨_, _, _, _, _, rfl, hp5, fun _ _ _ h => h⟩ (fun i σ H' _ ⟨_, _, _, _, _, _, _, h⟩ => SqL.of (h _ _ rp f5)) ?_ ?_
  · rintro i x σ H6 hx ⟨y2, y3, y4, y5, y6, rfl, hp6, E6⟩
    have hi : i < 3 := by
      have := (List.getElem?_eq_some_iff.mp hx).1
      simpa using this
    obtain ⟨h, n, c, t, a, rfl, ap, ok, ga⟩ := each x (List.mem_of_getElem? hx)
    clear hx each
    have g6 := E6 _ _ ap ga
    have b1 : -(10 ^ 21) ≤ h ∧ h ≤ 10 ^ 21 := by have := ok.h0; have := ok.h1; omega
    have b2 : -(10 ^ 21) ≤ n ∧ n ≤ 10 ^ 21 := by have := ok.n0; have := ok.n1; omega
    have l0 := ok.c0
    have l1 := ok.c1
    have l2 := ok.t1
    have ac : Asc (tx c) := fun d hd => low_lt (ok.cl d (by rw [show (tx c).cps.toList = c from sg_tx c] at hd; exact hd))
    have at_ : Asc (tx t) := fun d hd => by
      have := pc_lt (ok.tp d (by rw [show (tx t).cps.toList = t from sg_tx t] at hd; exact hd))
      omega
    have ods : ∀ d ∈ [PyData.int h, .int n, .str (tx c), .str (tx t)], Od d := by
      intro d hd
      simp only [List.mem_cons, List.not_mem_nil, or_false] at hd
      rcases hd with rfl | rfl | rfl | rfl
      · exact .int (by have := ok.h0; have := ok.h1; omega)
      · exact .int (by have := ok.n0; have := ok.n1; omega)
      · exact .str ac (by rw [tx_len]; omega)
      · exact .str at_ (by rw [tx_len]; omega)
    have vl : Vd (lineD h n (tx c) (tx t)) := Vd.tuple ods (by show 4 ≤ 8; decide)
    have dvl : ∀ G : Hp, G a = some (.tup [.int h, .int n, .str (tx c), .str (tx t)]) → DV G (.ref a) (lineD h n (tx c) (tx t)) := fun G e => .tup e (.cons (.int _) (.cons (.int _) (.cons (.str _) (.cons (.str _) .nil))))
    have fxl : Fx (lineD h n (tx c) (tx t)) := by
      have f := Ft.tuple (Fts.cons (D := 0) (Ft.int b1) (Fts.cons (Ft.int b2) (Fts.cons (Ft.str ac) (Fts.cons (Ft.str at_) (Fts.nil (W := 0))))))
      refine f.fx ?_ (by decide)
      rw [tx_len, tx_len]
      omega
    have vc : Vd (.str (tx c)) := (Od.str ac (by rw [tx_len]; omega)).vd
    have vt : Vd (.str (tx t)) := (Od.str at_ (by rw [tx_len]; omega)).vd
    walk_at "rd"
    refine ⟨_, h, n, tx c, tx t, rfl, dvl _ g6, b1, b2, by rw [tx_len]; omega, by rw [tx_len]; omega, ?_⟩
    obtain ⟨az, lz⟩ := ok.text
    have rz := ok.read
    have z0 : 0 < (lineT h n (tx c) (tx t)).length := by
      have := sp_len
      unfold lineT
      simp only [append_len]
      omega
    generalize lineT h n (tx c) (tx t) = z at az lz rz z0
    have vz : Vd (.str z) := (Od.str az (by omega)).vd
    have sl : ∀ y, PyData.str z = .str y → y.length ≤ 600 := fun y e => by cases e; omega
    walk_at "rd"
    refine ⟨_, _, _, rfl, dvl _ g6, vl, fun H7 S7 => ⟨_, rfl, ?_⟩⟩
    walk_at "rd"
    refine ⟨_, _, _, _, rfl, .str z, vz, sl, .inr ⟨h, n, tx c, tx t, rz, dvl _ (S7 _ _ g6), fxl⟩, fun H8 S8 => ⟨_, rfl, ?_⟩⟩
    walk_at "rd"
    refine ⟨_, _, _, _, rfl, .str z, vz, sl, .inr ⟨h, n, tx c, tx t, rz, dvl _ (S8 _ _ (S7 _ _ g6)), fxl⟩, fun H9 S9 => ⟨_, rfl, ?_⟩⟩
    walk_at "rd"
    have S69 := (S7.trans S8).trans S9
    have hp9 := hp6.mono S69
    have E9 : Ext1 p H5 H9 := E6.trans (Nv.Same.ext1 S69)
    have g9 := S69 _ _ g6
    refine ⟨_, rfl, by decide, by decide, ?_⟩
    refine for_range (fun j σ H' => ∃ y4 y5 y6, σ = [some (.ref p), some (.ref L), some (.ref a), some (.str z), y4, y5, y6] ∧ BoxAt H' p (N + 120 + 192 * i + 32 * j) ∧ Ext1 p H5 H')
      ⟨_, _, _, rfl, hp9, E9⟩ ?_ ?_
    · rintro j σ G0 hj ⟨y4, y5, y6, rfl, hq0, X0⟩
      have hj' : j < 6 := hj
      have w0 := X0 _ _ ap ga
      walk_at "rd"
      refine ⟨p, a, _, h, n, c, t, rfl, hq0, by omega, ok, w0, fun u d G1 du vd hq1 x1 => ?_⟩
      refine ⟨p, z, _, rfl, hq1, by omega, az, by omega, z0, fun y G2 ay ly hq2 x2 => ?_⟩
      walk_at "rd"
      refine ⟨by decide, u, d, _, rfl, du _ x2, vd, fun G3 T3 => ⟨_, rfl, ?_⟩⟩
      walk_at "rd"
      have X3 : Ext1 p H5 G3 := ((X0.trans x1).trans x2).trans (Nv.Same.ext1 T3)
      have hq3 := hq2.mono T3
      -- what stands behind the second question
      have rest : ∀ G4 : Hp, Same G3 G4 → rIxT K (V.ref a) (V.int 2) G4 fun x H1 => spOd [V.ref p, x] H1 (fun x H1 => spJd [x, V.int 0] H1 (fun x H1 => ∃ c, x = V.bl c ∧ if c = false then Q (V.bl false) H1 else
          rIxT K (V.ref a) (V.int 3) H1 fun x H1 => spOdT [V.ref p, x] H1 (fun x H1 => spJd [x, V.int 1] H1 (fun x H1 => ∃ c, x = V.bl c ∧ if c = false then Q (V.bl false) H1 else (∃ x, some (V.str y) = x) ∧ BoxAt H1 p (N + 120 + 192 * i + 32 * (j + 1)) ∧ Ext1 p H5 H1) (fun _ _ _ => False)) (fun _ _ _ => False)) (fun _ _ _ => False)) (fun _ _ _ => False) := by
        intro G4 T4
        have hq4 := hq3.mono T4
        have X4 := X3.trans (Nv.Same.ext1 T4)
        refine r_ixT (.of (X4 _ _ ap ga)) (atI_nat (j := 2) rfl) ?_
        refine ⟨p, tx c, _, rfl, hq4, by omega, ac, by rw [tx_len]; omega, by rw [tx_len]; omega, fun u5 d5 G5 du5 od5 hq5 x5 => ?_⟩
        refine ⟨u5, d5, _, rfl, du5, od5.vd, fun G6 T6 => ⟨_, rfl, ?_⟩⟩
        rw [if_neg (by decide)]
        have X6 := (X4.trans x5).trans (Nv.Same.ext1 T6)
        refine r_ixT (.of (X6 _ _ ap ga)) (atI_nat (j := 3) rfl) ?_
        refine ⟨p, tx t, _, rfl, hq5.mono T6, by omega, at_, by rw [tx_len]; omega, fun u7 d7 G7 du7 od7 hq7 x7 => ?_⟩
        refine ⟨u7, d7, _, rfl, du7, od7.vd, fun G8 T8 => ⟨_, rfl, ?_⟩⟩
        rw [if_neg (by decide)]
        exact ⟨⟨_, rfl⟩, (hq7.mono T8).le (by omega), (X6.trans x7).trans (Nv.Same.ext1 T8)⟩
      refine ⟨ay, ly, fun bb G4 T4 => ?_⟩
      by_cases hb : bb = true
      · rw [if_pos hb]
        have vy : Vd (.str y) := Vd.ofStr ay (by omega)
        refine ⟨y, rfl, ay, by omega, fun e G5 T5 => ⟨by decide, ?_⟩, fun h' n' c' t' e q G5 nq T5 fq => ⟨by decide, ?_⟩⟩
        · refine ⟨_, _, _, _, rfl, .str y, vy, fun v ev => (by cases ev; omega), .inl ⟨e, rfl⟩, fun G6 T6 => ⟨_, rfl, ?_⟩⟩
          rw [if_neg (by decide)]
          exact rest G6 ((T4.trans T5).trans T6)
        · refine ⟨_, _, _, _, rfl, .str y, vy, fun v ev => (by cases ev; omega), .inr ⟨h', n', c', t', e, .tup fq (.cons (.int _) (.cons (.int _) (.cons (.str _) (.cons (.str _) .nil)))), lnP_fx ay ly e⟩, fun G6 T6 => ⟨_, rfl, ?_⟩⟩
          rw [if_neg (by decide)]
          exact rest G6 ((T4.trans T5).trans T6)
      · rw [if_neg hb]
        exact rest G4 T4
    · rintro σ G0 ⟨y4, y5, y6, rfl, hq0, X0⟩
      have w0 := X0 _ _ ap ga
      walk_at "rd"
      refine r_ixT (.of w0) (atI_nat (j := 2) rfl) ?_
      refine ⟨_, _, _, rfl, .str _, vc, fun G1 T1 => ⟨_, rfl, ?_⟩⟩
      walk_at "rd"
      refine r_ixT (.of (T1 _ _ w0)) (atI_nat (j := 3) rfl) ?_
      refine ⟨_, _, _, rfl, .str _, vt, fun G2 T2 => ⟨_, rfl, ?_⟩⟩
      walk_at "rd"
      exact ⟨⟨_, rfl⟩, (hq0.mono (T1.trans T2)).le (by show N + 120 + 192 * i + 32 * 6 ≤ _; omega), X0.trans (Nv.Same.ext1 (T1.trans T2))⟩
  · rintro σ H6 ⟨y2, y3, y4, y5, y6, rfl, hp6, E6⟩
    walk_at "rd"
    refine r_ixL (.of (E6 _ _ Lp L5)) (atI_nat (j := 0) rfl) ?_
    refine ⟨a0, _, _, _, _, rfl, ok0, E6 _ _ p0 g0, fun H7 S7 => k _ ((E5.trans E6).trans (Nv.Same.ext1 S7))⟩
end
end K01


namespace K01
open PySem L2 Nv

def spLaw (K : PySem.W.Frag) : Sp := fun vs H Q _ => ∃ (a : Addr) (ns : List Int), vs = [.ref a] ∧ SqL K H a (ns.map V.int) ∧ ns.length ≤ 63 ∧ ∀ H', Q (.bl true) H'
section
variable {P : Program} {w : World} {K : PySem.W.Frag} {mg : Str → Option Value} {base : Heap}
theorem ok_law (T : Tx K mg) : FnG P w K mg base 9 T.d_law.f T.d_law.fd ["_law_script"] (spLaw K) := by
  refine okG0 T.d_law.F sc_law (fun vs H Q E h => ?_) (fun cdv A outer s H vs Q E hg hr h => ?_)
  · obtain ⟨a, ns, rfl, _⟩ := h
    rfl
  obtain ⟨a, ns, rfl, ha, hn, k⟩ := h
  refine ⟨_, (pss_cons (ps_for PassesOwn.never rfl (pi_range1 (by rfl) T.n_range (pa_cons (pe_callB (call_max2 rfl) (by rfl) T.n_max (by decide +kernel) (pa_cons pe_int (pa_cons (pe_callB (call_min2 rfl) (by rfl) T.n_min (by decide +kernel) (pa_cons pe_int (pa_cons (pe_callB call_len_seq (by rfl) T.n_len (by decide +kernel) (pa_cons (pv 0) pa_nil)) pa_nil))) pa_nil))) pa_nil)) (pg_name (i := 1) sc_law.nd rfl (Or.inl rfl))
      (pss_one (ps_if (pt_not (pt_val (pe_cG (ok_l_right T) T.d_l_right.b takes0 hg (hr.mono (by decide)) T.d_l_right.m T.d_l_right.F.kp (pa_cons (pe_cG (ok_l_box T) T.d_l_box.b takes0 hg (hr.mono (by decide)) T.d_l_box.m T.d_l_box.F.kp (pa_cons (pe_cG (ok_l_cell T) T.d_l_cell.b takes0 hg (hr.mono (by decide)) T.d_l_cell.m T.d_l_cell.F.kp (pa_cons (pv 0) (pa_cons (pv 1) pa_nil))) pa_nil)) pa_nil))))
        (pss_one (ps_ret pe_bl))
        pss_nil)))
    (pss_one (ps_ret pe_bl))), ?_⟩
  walk_at "rd"
  have lo : ∀ x : Int, 0 ≤ (if (if x < 4 then x else 4) > 2 then (if x < 4 then x else 4) else 2) ∧ (if (if x < 4 then x else 4) > 2 then (if x < 4 then x else 4) else 2) ≤ 6 := fun x => by
    split <;> split <;> omega
  have lo1 := lo ((ns.map V.int).length : Int)
  refine ⟨_, rfl, _, rfl, _, .inl ha, _, _, rfl, _, _, rfl, _, rfl, Int.le_trans (by decide) lo1.1, Int.lt_of_le_of_lt lo1.2 (by decide), ?_⟩
  refine for_range (fun i σ H' => Same H H' ∧ ∃ x, σ = [some (.ref a), x]) ⟨Same.refl H, _, rfl⟩ ?_ ?_
  · rintro i σ H1 hi ⟨S, x, rfl⟩
    have hi' : i < 6 := by
      have h2 := lo1.2
      have h1 := lo1.1
      have h3 : i < (if (if ((ns.map V.int).length : Int) < 4 then ((ns.map V.int).length : Int) else 4) > 2 then (if ((ns.map V.int).length : Int) < 4 then ((ns.map V.int).length : Int) else 4) else 2).toNat := hi
      omega
    walk_at "rd"
    refine ⟨a, ns, _, rfl, L2.Same.seq S ha, by omega, by omega, fun c H2 S2 => ?_⟩
    refine ⟨c, rfl, fun p H3 hp S3 b3 => ?_⟩
    refine ⟨p, _, rfl, b3, by decide, fun H4 e4 => ⟨_, rfl, ?_⟩⟩
    simp only [Bool.true_eq_false, ↓reduceIte]
    refine ⟨fun y o hy => ?_, _, rfl⟩
    have y2 := S2 _ _ (S _ _ hy)
    exact e4 _ _ (ne_of_none y2 hp) (S3 _ _ y2)
  · rintro σ H1 ⟨S, x, rfl⟩
    walk_at "rd"
    exact k _
end
end K01

namespace K01
open PySem PySem.W PyProof.Rows L2 Nv
theorem all_mk {P : Program} {w : World} {K : PySem.W.Frag} {h : Heap} {mg : Str → Option Value} {fa : Addr} (X : K.In h) (G : h.Ns mainGlobals mg) (hfa : mg "law" = some (.ref fa))
    {C_InvalidLine : Addr} {C_InvalidText : Addr} {C_UnsaidError : Addr} {oc_x_InvalidLine : Value} {kV_x_InvalidLine : Value} {dc_x_InvalidLine : Value} {pm_x_InvalidLine : Value} {cd_x_InvalidLine : Value} {ct_x_InvalidLine : Value} {od_x_InvalidLine an_x_InvalidLine : Option Addr} {sl_x_InvalidLine : Array (Option Value)} {f_x_InvalidLine : Addr} {oc_x_InvalidText : Value} {kV_x_InvalidText : Value} {dc_x_InvalidText : Value} {pm_x_InvalidText : Value} {cd_x_InvalidText : Value} {ct_x_InvalidText : Value} {od_x_InvalidText an_x_InvalidText : Option Addr} {sl_x_InvalidText : Array (Option Value)} {f_x_InvalidText : Addr} {nm_e_InvalidLine q_e_InvalidLine : Str} {N_e_InvalidLine : Addr} {bs_e_InvalidLine bm_e_InvalidLine sub_e_InvalidLine : List Value} {sn_e_InvalidLine : List Str} {ab_e_InvalidLine : Bool} {col_e_InvalidLine : Option Bool} {dd_e_InvalidLine : Option Addr} {k0_e_InvalidLine k1_e_InvalidLine k2_e_InvalidLine k3_e_InvalidLine k5_e_InvalidLine : Option Value} {nm_e_InvalidText q_e_InvalidText : Str} {N_e_InvalidText : Addr} {bs_e_InvalidText bm_e_InvalidText sub_e_InvalidText : List Value} {sn_e_InvalidText : List Str} {ab_e_InvalidText : Bool} {col_e_InvalidText : Option Bool} {dd_e_InvalidText : Option Addr} {k0_e_InvalidText k1_e_InvalidText k2_e_InvalidText k3_e_InvalidText k5_e_InvalidText : Option Value} {t_MOST_LETTERS : Tok} {t_MOST_SIGNS : Tok} {oc_d_is_int : Value} {kV_d_is_int : Value} {dc_d_is_int : Value} {pm_d_is_int : Value} {cd_d_is_int : Value} {ct_d_is_int : Value} {od_d_is_int an_d_is_int : Option Addr} {sl_d_is_int : Array (Option Value)} {f_d_is_int : Addr} {oc_d_is_count : Value} {kV_d_is_count : Value} {dc_d_is_count : Value} {pm_d_is_count : Value} {cd_d_is_count : Value} {ct_d_is_count : Value} {od_d_is_count an_d_is_count : Option Addr} {sl_d_is_count : Array (Option Value)} {f_d_is_count : Addr} {oc_d_is_signs : Value} {kV_d_is_signs : Value} {dc_d_is_signs : Value} {pm_d_is_signs : Value} {cd_d_is_signs : Value} {ct_d_is_signs : Value} {od_d_is_signs an_d_is_signs : Option Addr} {sl_d_is_signs : Array (Option Value)} {f_d_is_signs : Addr} {oc_d_is_numeral : Value} {kV_d_is_numeral : Value} {dc_d_is_numeral : Value} {pm_d_is_numeral : Value} {cd_d_is_numeral : Value} {ct_d_is_numeral : Value} {od_d_is_numeral an_d_is_numeral : Option Addr} {sl_d_is_numeral : Array (Option Value)} {f_d_is_numeral : Addr} {oc_d_is_cell : Value} {kV_d_is_cell : Value} {dc_d_is_cell : Value} {pm_d_is_cell : Value} {cd_d_is_cell : Value} {ct_d_is_cell : Value} {od_d_is_cell an_d_is_cell : Option Addr} {sl_d_is_cell : Array (Option Value)} {f_d_is_cell : Addr} {oc_d_is_text : Value} {kV_d_is_text : Value} {dc_d_is_text : Value} {pm_d_is_text : Value} {cd_d_is_text : Value} {ct_d_is_text : Value} {od_d_is_text an_d_is_text : Option Addr} {sl_d_is_text : Array (Option Value)} {f_d_is_text : Addr} {oc_d_is_line : Value} {kV_d_is_line : Value} {dc_d_is_line : Value} {pm_d_is_line : Value} {cd_d_is_line : Value} {ct_d_is_line : Value} {od_d_is_line an_d_is_line : Option Addr} {sl_d_is_line : Array (Option Value)} {f_d_is_line : Addr} {oc_d_key : Value} {kV_d_key : Value} {dc_d_key : Value} {pm_d_key : Value} {cd_d_key : Value} {ct_d_key : Value} {od_d_key an_d_key : Option Addr} {sl_d_key : Array (Option Value)} {f_d_key : Addr} {oc_d_line_text : Value} {kV_d_line_text : Value} {dc_d_line_text : Value} {pm_d_line_text : Value} {cd_d_line_text : Value} {ct_d_line_text : Value} {od_d_line_text an_d_line_text : Option Addr} {sl_d_line_text : Array (Option Value)} {f_d_line_text : Addr} {oc_d_line_in : Value} {kV_d_line_in : Value} {dc_d_line_in : Value} {pm_d_line_in : Value} {cd_d_line_in : Value} {ct_d_line_in : Value} {od_d_line_in an_d_line_in : Option Addr} {sl_d_line_in : Array (Option Value)} {f_d_line_in : Addr} {oc_d_read_line : Value} {kV_d_read_line : Value} {dc_d_read_line : Value} {pm_d_read_line : Value} {cd_d_read_line : Value} {ct_d_read_line : Value} {od_d_read_line an_d_read_line : Option Addr} {sl_d_read_line : Array (Option Value)} {f_d_read_line : Addr} {oc_d_l_cell : Value} {kV_d_l_cell : Value} {dc_d_l_cell : Value} {pm_d_l_cell : Value} {cd_d_l_cell : Value} {ct_d_l_cell : Value} {od_d_l_cell an_d_l_cell : Option Addr} {sl_d_l_cell : Array (Option Value)} {f_d_l_cell : Addr} {oc_d_l_box : Value} {kV_d_l_box : Value} {dc_d_l_box : Value} {pm_d_l_box : Value} {cd_d_l_box : Value} {ct_d_l_box : Value} {od_d_l_box an_d_l_box : Option Addr} {sl_d_l_box : Array (Option Value)} {f_d_l_box : Addr} {oc_d_l_take : Value} {kV_d_l_take : Value} {dc_d_l_take : Value} {pm_d_l_take : Value} {cd_d_l_take : Value} {ct_d_l_take : Value} {od_d_l_take an_d_l_take : Option Addr} {sl_d_l_take : Array (Option Value)} {f_d_l_take : Addr} {oc_d_l_any : Value} {kV_d_l_any : Value} {dc_d_l_any : Value} {pm_d_l_any : Value} {cd_d_l_any : Value} {ct_d_l_any : Value} {od_d_l_any an_d_l_any : Option Addr} {sl_d_l_any : Array (Option Value)} {f_d_l_any : Addr} {oc_d_l_letters : Value} {kV_d_l_letters : Value} {dc_d_l_letters : Value} {pm_d_l_letters : Value} {cd_d_l_letters : Value} {ct_d_l_letters : Value} {od_d_l_letters an_d_l_letters : Option Addr} {sl_d_l_letters : Array (Option Value)} {f_d_l_letters : Addr} {oc_d_l_number : Value} {kV_d_l_number : Value} {dc_d_l_number : Value} {pm_d_l_number : Value} {cd_d_l_number : Value} {ct_d_l_number : Value} {od_d_l_number an_d_l_number : Option Addr} {sl_d_l_number : Array (Option Value)} {f_d_l_number : Addr} {oc_d_l_line : Value} {kV_d_l_line : Value} {dc_d_l_line : Value} {pm_d_l_line : Value} {cd_d_l_line : Value} {ct_d_l_line : Value} {od_d_l_line an_d_l_line : Option Addr} {sl_d_l_line : Array (Option Value)} {f_d_l_line : Addr} {oc_d_l_count : Value} {kV_d_l_count : Value} {dc_d_l_count : Value} {pm_d_l_count : Value} {cd_d_l_count : Value} {ct_d_l_count : Value} {od_d_l_count an_d_l_count : Option Addr} {sl_d_l_count : Array (Option Value)} {f_d_l_count : Addr} {oc_d_l_is_cell : Value} {kV_d_l_is_cell : Value} {dc_d_l_is_cell : Value} {pm_d_l_is_cell : Value} {cd_d_l_is_cell : Value} {ct_d_l_is_cell : Value} {od_d_l_is_cell an_d_l_is_cell : Option Addr} {sl_d_l_is_cell : Array (Option Value)} {f_d_l_is_cell : Addr} {oc_d_l_is_text : Value} {kV_d_l_is_text : Value} {dc_d_l_is_text : Value} {pm_d_l_is_text : Value} {cd_d_l_is_text : Value} {ct_d_l_is_text : Value} {od_d_l_is_text an_d_l_is_text : Option Addr} {sl_d_l_is_text : Array (Option Value)} {f_d_l_is_text : Addr} {oc_d_l_is_line : Value} {kV_d_l_is_line : Value} {dc_d_l_is_line : Value} {pm_d_l_is_line : Value} {cd_d_l_is_line : Value} {ct_d_l_is_line : Value} {od_d_l_is_line an_d_l_is_line : Option Addr} {sl_d_l_is_line : Array (Option Value)} {f_d_l_is_line : Addr} {oc_d_l_written : Value} {kV_d_l_written : Value} {dc_d_l_written : Value} {pm_d_l_written : Value} {cd_d_l_written : Value} {ct_d_l_written : Value} {od_d_l_written an_d_l_written : Option Addr} {sl_d_l_written : Array (Option Value)} {f_d_l_written : Addr} {oc_d_l_digits : Value} {kV_d_l_digits : Value} {dc_d_l_digits : Value} {pm_d_l_digits : Value} {cd_d_l_digits : Value} {ct_d_l_digits : Value} {od_d_l_digits an_d_l_digits : Option Addr} {sl_d_l_digits : Array (Option Value)} {f_d_l_digits : Addr} {oc_d_l_read : Value} {kV_d_l_read : Value} {dc_d_l_read : Value} {pm_d_l_read : Value} {cd_d_l_read : Value} {ct_d_l_read : Value} {od_d_l_read an_d_l_read : Option Addr} {sl_d_l_read : Array (Option Value)} {f_d_l_read : Addr} {oc_d_l_equal : Value} {kV_d_l_equal : Value} {dc_d_l_equal : Value} {pm_d_l_equal : Value} {cd_d_l_equal : Value} {ct_d_l_equal : Value} {od_d_l_equal an_d_l_equal : Option Addr} {sl_d_l_equal : Array (Option Value)} {f_d_l_equal : Addr} {oc_d_l_copy : Value} {kV_d_l_copy : Value} {dc_d_l_copy : Value} {pm_d_l_copy : Value} {cd_d_l_copy : Value} {ct_d_l_copy : Value} {od_d_l_copy an_d_l_copy : Option Addr} {sl_d_l_copy : Array (Option Value)} {f_d_l_copy : Addr} {oc_d_l_very : Value} {kV_d_l_very : Value} {dc_d_l_very : Value} {pm_d_l_very : Value} {cd_d_l_very : Value} {ct_d_l_very : Value} {od_d_l_very an_d_l_very : Option Addr} {sl_d_l_very : Array (Option Value)} {f_d_l_very : Addr} {oc_d_l_odd_cell : Value} {kV_d_l_odd_cell : Value} {dc_d_l_odd_cell : Value} {pm_d_l_odd_cell : Value} {cd_d_l_odd_cell : Value} {ct_d_l_odd_cell : Value} {od_d_l_odd_cell an_d_l_odd_cell : Option Addr} {sl_d_l_odd_cell : Array (Option Value)} {f_d_l_odd_cell : Addr} {oc_d_l_odd_text : Value} {kV_d_l_odd_text : Value} {dc_d_l_odd_text : Value} {pm_d_l_odd_text : Value} {cd_d_l_odd_text : Value} {ct_d_l_odd_text : Value} {od_d_l_odd_text an_d_l_odd_text : Option Addr} {sl_d_l_odd_text : Array (Option Value)} {f_d_l_odd_text : Addr} {oc_d_l_odd : Value} {kV_d_l_odd : Value} {dc_d_l_odd : Value} {pm_d_l_odd : Value} {cd_d_l_odd : Value} {ct_d_l_odd : Value} {od_d_l_odd an_d_l_odd : Option Addr} {sl_d_l_odd : Array (Option Value)} {f_d_l_odd : Addr} {oc_d_l_spoilt : Value} {kV_d_l_spoilt : Value} {dc_d_l_spoilt : Value} {pm_d_l_spoilt : Value} {cd_d_l_spoilt : Value} {ct_d_l_spoilt : Value} {od_d_l_spoilt an_d_l_spoilt : Option Addr} {sl_d_l_spoilt : Array (Option Value)} {f_d_l_spoilt : Addr} {oc_d_l_short : Value} {kV_d_l_short : Value} {dc_d_l_short : Value} {pm_d_l_short : Value} {cd_d_l_short : Value} {ct_d_l_short : Value} {od_d_l_short an_d_l_short : Option Addr} {sl_d_l_short : Array (Option Value)} {f_d_l_short : Addr} {oc_d_l_judged : Value} {kV_d_l_judged : Value} {dc_d_l_judged : Value} {pm_d_l_judged : Value} {cd_d_l_judged : Value} {ct_d_l_judged : Value} {od_d_l_judged an_d_l_judged : Option Addr} {sl_d_l_judged : Array (Option Value)} {f_d_l_judged : Addr} {oc_d_l_told : Value} {kV_d_l_told : Value} {dc_d_l_told : Value} {pm_d_l_told : Value} {cd_d_l_told : Value} {ct_d_l_told : Value} {od_d_l_told an_d_l_told : Option Addr} {sl_d_l_told : Array (Option Value)} {f_d_l_told : Addr} {oc_d_l_line_right : Value} {kV_d_l_line_right : Value} {dc_d_l_line_right : Value} {pm_d_l_line_right : Value} {cd_d_l_line_right : Value} {ct_d_l_line_right : Value} {od_d_l_line_right an_d_l_line_right : Option Addr} {sl_d_l_line_right : Array (Option Value)} {f_d_l_line_right : Addr} {oc_d_l_text_right : Value} {kV_d_l_text_right : Value} {dc_d_l_text_right : Value} {pm_d_l_text_right : Value} {cd_d_l_text_right : Value} {ct_d_l_text_right : Value} {od_d_l_text_right an_d_l_text_right : Option Addr} {sl_d_l_text_right : Array (Option Value)} {f_d_l_text_right : Addr} {oc_d_l_object_right : Value} {kV_d_l_object_right : Value} {dc_d_l_object_right : Value} {pm_d_l_object_right : Value} {cd_d_l_object_right : Value} {ct_d_l_object_right : Value} {od_d_l_object_right an_d_l_object_right : Option Addr} {sl_d_l_object_right : Array (Option Value)} {f_d_l_object_right : Addr} {oc_d_l_others_right : Value} {kV_d_l_others_right : Value} {dc_d_l_others_right : Value} {pm_d_l_others_right : Value} {cd_d_l_others_right : Value} {ct_d_l_others_right : Value} {od_d_l_others_right an_d_l_others_right : Option Addr} {sl_d_l_others_right : Array (Option Value)} {f_d_l_others_right : Addr} {oc_d_l_right : Value} {kV_d_l_right : Value} {dc_d_l_right : Value} {pm_d_l_right : Value} {cd_d_l_right : Value} {ct_d_l_right : Value} {od_d_l_right an_d_l_right : Option Addr} {sl_d_l_right : Array (Option Value)} {f_d_l_right : Addr} {oc_d_law : Value} {kV_d_law : Value} {dc_d_law : Value} {pm_d_law : Value} {cd_d_law : Value} {ct_d_law : Value} {od_d_law an_d_law : Option Addr} {sl_d_law : Array (Option Value)} {f_d_law : Addr}
    (g_e_InvalidLine : PySem.W.nsIn K mainGlobals "InvalidLine" = some (some (.ref C_InvalidLine)))
    (g_e_InvalidText : PySem.W.nsIn K mainGlobals "InvalidText" = some (some (.ref C_InvalidText)))
    (g_m_UnsaidError : PySem.W.nsIn K mainGlobals "UnsaidError" = some (some (.ref C_UnsaidError)))
    (g_g_MOST_LETTERS : PySem.W.nsIn K mainGlobals "MOST_LETTERS" = some (some (.int 8 t_MOST_LETTERS)))
    (g_g_MOST_SIGNS : PySem.W.nsIn K mainGlobals "MOST_SIGNS" = some (some (.int 40 t_MOST_SIGNS)))
    (a_x_InvalidLine : PySem.W.findIn K (.ref C_InvalidLine) "__init__" = some (some (.ref f_x_InvalidLine)))
    (a_x_InvalidText : PySem.W.findIn K (.ref C_InvalidText) "__init__" = some (some (.ref f_x_InvalidText)))
    (a_d_is_int : PySem.W.nsIn K mainGlobals "is_int" = some (some (.ref f_d_is_int)))
    (a_d_is_count : PySem.W.nsIn K mainGlobals "is_count" = some (some (.ref f_d_is_count)))
    (a_d_is_signs : PySem.W.nsIn K mainGlobals "is_signs" = some (some (.ref f_d_is_signs)))
    (a_d_is_numeral : PySem.W.nsIn K mainGlobals "is_numeral" = some (some (.ref f_d_is_numeral)))
    (a_d_is_cell : PySem.W.nsIn K mainGlobals "is_cell" = some (some (.ref f_d_is_cell)))
    (a_d_is_text : PySem.W.nsIn K mainGlobals "is_text" = some (some (.ref f_d_is_text)))
    (a_d_is_line : PySem.W.nsIn K mainGlobals "is_line" = some (some (.ref f_d_is_line)))
    (a_d_key : PySem.W.nsIn K mainGlobals "key" = some (some (.ref f_d_key)))
    (a_d_line_text : PySem.W.nsIn K mainGlobals "line_text" = some (some (.ref f_d_line_text)))
    (a_d_line_in : PySem.W.nsIn K mainGlobals "line_in" = some (some (.ref f_d_line_in)))
    (a_d_read_line : PySem.W.nsIn K mainGlobals "read_line" = some (some (.ref f_d_read_line)))
    (a_d_l_cell : PySem.W.nsIn K mainGlobals "_law_cell" = some (some (.ref f_d_l_cell)))
    (a_d_l_box : PySem.W.nsIn K mainGlobals "_law_box" = some (some (.ref f_d_l_box)))
    (a_d_l_take : PySem.W.nsIn K mainGlobals "_law_take" = some (some (.ref f_d_l_take)))
    (a_d_l_any : PySem.W.nsIn K mainGlobals "_law_any" = some (some (.ref f_d_l_any)))
    (a_d_l_letters : PySem.W.nsIn K mainGlobals "_law_letters" = some (some (.ref f_d_l_letters)))
    (a_d_l_number : PySem.W.nsIn K mainGlobals "_law_number" = some (some (.ref f_d_l_number)))
    (a_d_l_line : PySem.W.nsIn K mainGlobals "_law_line" = some (some (.ref f_d_l_line)))
    (a_d_l_count : PySem.W.nsIn K mainGlobals "_law_count" = some (some (.ref f_d_l_count)))
    (a_d_l_is_cell : PySem.W.nsIn K mainGlobals "_law_is_cell" = some (some (.ref f_d_l_is_cell)))
    (a_d_l_is_text : PySem.W.nsIn K mainGlobals "_law_is_text" = some (some (.ref f_d_l_is_text)))
    (a_d_l_is_line : PySem.W.nsIn K mainGlobals "_law_is_line" = some (some (.ref f_d_l_is_line)))
    (a_d_l_written : PySem.W.nsIn K mainGlobals "_law_written" = some (some (.ref f_d_l_written)))
    (a_d_l_digits : PySem.W.nsIn K mainGlobals "_law_digits" = some (some (.ref f_d_l_digits)))
    (a_d_l_read : PySem.W.nsIn K mainGlobals "_law_read" = some (some (.ref f_d_l_read)))
    (a_d_l_equal : PySem.W.nsIn K mainGlobals "_law_equal" = some (some (.ref f_d_l_equal)))
    (a_d_l_copy : PySem.W.nsIn K mainGlobals "_law_copy" = some (some (.ref f_d_l_copy)))
    (a_d_l_very : PySem.W.nsIn K mainGlobals "_law_very" = some (some (.ref f_d_l_very)))
    (a_d_l_odd_cell : PySem.W.nsIn K mainGlobals "_law_odd_cell" = some (some (.ref f_d_l_odd_cell)))
    (a_d_l_odd_text : PySem.W.nsIn K mainGlobals "_law_odd_text" = some (some (.ref f_d_l_odd_text)))
    (a_d_l_odd : PySem.W.nsIn K mainGlobals "_law_odd" = some (some (.ref f_d_l_odd)))
    (a_d_l_spoilt : PySem.W.nsIn K mainGlobals "_law_spoilt" = some (some (.ref f_d_l_spoilt)))
    (a_d_l_short : PySem.W.nsIn K mainGlobals "_law_short" = some (some (.ref f_d_l_short)))
    (a_d_l_judged : PySem.W.nsIn K mainGlobals "_law_judged" = some (some (.ref f_d_l_judged)))
    (a_d_l_told : PySem.W.nsIn K mainGlobals "_law_told" = some (some (.ref f_d_l_told)))
    (a_d_l_line_right : PySem.W.nsIn K mainGlobals "_law_line_right" = some (some (.ref f_d_l_line_right)))
    (a_d_l_text_right : PySem.W.nsIn K mainGlobals "_law_text_right" = some (some (.ref f_d_l_text_right)))
    (a_d_l_object_right : PySem.W.nsIn K mainGlobals "_law_object_right" = some (some (.ref f_d_l_object_right)))
    (a_d_l_others_right : PySem.W.nsIn K mainGlobals "_law_others_right" = some (some (.ref f_d_l_others_right)))
    (a_d_l_right : PySem.W.nsIn K mainGlobals "_law_right" = some (some (.ref f_d_l_right)))
    (a_d_law : PySem.W.nsIn K mainGlobals "law" = some (some (.ref f_d_law)))
    (l_x_InvalidLine : K.lookup f_x_InvalidLine = some ⟨oc_x_InvalidLine, od_x_InvalidLine, .func (PySem.W.fnOf "__init__" "InvalidLine.__init__" (defArgs s_InvalidLine_init) (defBody s_InvalidLine_init) (defScope s_InvalidLine_init) .none kV_x_InvalidLine dc_x_InvalidLine pm_x_InvalidLine an_x_InvalidLine cd_x_InvalidLine ct_x_InvalidLine), sl_x_InvalidLine⟩)
    (l_x_InvalidText : K.lookup f_x_InvalidText = some ⟨oc_x_InvalidText, od_x_InvalidText, .func (PySem.W.fnOf "__init__" "InvalidText.__init__" (defArgs s_InvalidText_init) (defBody s_InvalidText_init) (defScope s_InvalidText_init) .none kV_x_InvalidText dc_x_InvalidText pm_x_InvalidText an_x_InvalidText cd_x_InvalidText ct_x_InvalidText), sl_x_InvalidText⟩)
    (l_d_is_int : K.lookup f_d_is_int = some ⟨oc_d_is_int, od_d_is_int, .func (PySem.W.fnOf "is_int" "is_int" (defArgs s_is_int) (defBody s_is_int) (defScope s_is_int) .none kV_d_is_int dc_d_is_int pm_d_is_int an_d_is_int cd_d_is_int ct_d_is_int), sl_d_is_int⟩)
    (l_d_is_count : K.lookup f_d_is_count = some ⟨oc_d_is_count, od_d_is_count, .func (PySem.W.fnOf "is_count" "is_count" (defArgs s_is_count) (defBody s_is_count) (defScope s_is_count) .none kV_d_is_count dc_d_is_count pm_d_is_count an_d_is_count cd_d_is_count ct_d_is_count), sl_d_is_count⟩)
    (l_d_is_signs : K.lookup f_d_is_signs = some ⟨oc_d_is_signs, od_d_is_signs, .func (PySem.W.fnOf "is_signs" "is_signs" (defArgs s_is_signs) (defBody s_is_signs) (defScope s_is_signs) .none kV_d_is_signs dc_d_is_signs pm_d_is_signs an_d_is_signs cd_d_is_signs ct_d_is_signs), sl_d_is_signs⟩)
    (l_d_is_numeral : K.lookup f_d_is_numeral = some ⟨oc_d_is_numeral, od_d_is_numeral, .func (PySem.W.fnOf "is_numeral" "is_numeral" (defArgs s_is_numeral) (defBody s_is_numeral) (defScope s_is_numeral) .none kV_d_is_numeral dc_d_is_numeral pm_d_is_numeral an_d_is_numeral cd_d_is_numeral ct_d_is_numeral), sl_d_is_numeral⟩)
    (l_d_is_cell : K.lookup f_d_is_cell = some ⟨oc_d_is_cell, od_d_is_cell, .func (PySem.W.fnOf "is_cell" "is_cell" (defArgs s_is_cell) (defBody s_is_cell) (defScope s_is_cell) .none kV_d_is_cell dc_d_is_cell pm_d_is_cell an_d_is_cell cd_d_is_cell ct_d_is_cell), sl_d_is_cell⟩)
    (l_d_is_text : K.lookup f_d_is_text = some ⟨oc_d_is_text, od_d_is_text, .func (PySem.W.fnOf "is_text" "is_text" (defArgs s_is_text) (defBody s_is_text) (defScope s_is_text) .none kV_d_is_text dc_d_is_text pm_d_is_text an_d_is_text cd_d_is_text ct_d_is_text), sl_d_is_text⟩)
    (l_d_is_line : K.lookup f_d_is_line = some ⟨oc_d_is_line, od_d_is_line, .func (PySem.W.fnOf "is_line" "is_line" (defArgs s_is_line) (defBody s_is_line) (defScope s_is_line) .none kV_d_is_line dc_d_is_line pm_d_is_line an_d_is_line cd_d_is_line ct_d_is_line), sl_d_is_line⟩)
    (l_d_key : K.lookup f_d_key = some ⟨oc_d_key, od_d_key, .func (PySem.W.fnOf "key" "key" (defArgs s_key) (defBody s_key) (defScope s_key) .none kV_d_key dc_d_key pm_d_key an_d_key cd_d_key ct_d_key), sl_d_key⟩)
    (l_d_line_text : K.lookup f_d_line_text = some ⟨oc_d_line_text, od_d_line_text, .func (PySem.W.fnOf "line_text" "line_text" (defArgs s_line_text) (defBody s_line_text) (defScope s_line_text) .none kV_d_line_text dc_d_line_text pm_d_line_text an_d_line_text cd_d_line_text ct_d_line_text), sl_d_line_text⟩)
    (l_d_line_in : K.lookup f_d_line_in = some ⟨oc_d_line_in, od_d_line_in, .func (PySem.W.fnOf "line_in" "line_in" (defArgs s_line_in) (defBody s_line_in) (defScope s_line_in) .none kV_d_line_in dc_d_line_in pm_d_line_in an_d_line_in cd_d_line_in ct_d_line_in), sl_d_line_in⟩)
    (l_d_read_line : K.lookup f_d_read_line = some ⟨oc_d_read_line, od_d_read_line, .func (PySem.W.fnOf "read_line" "read_line" (defArgs s_read_line) (defBody s_read_line) (defScope s_read_line) .none kV_d_read_line dc_d_read_line pm_d_read_line an_d_read_line cd_d_read_line ct_d_read_line), sl_d_read_line⟩)
    (l_d_l_cell : K.lookup f_d_l_cell = some ⟨oc_d_l_cell, od_d_l_cell, .func (PySem.W.fnOf "_law_cell" "_law_cell" (defArgs s_l_cell) (defBody s_l_cell) (defScope s_l_cell) .none kV_d_l_cell dc_d_l_cell pm_d_l_cell an_d_l_cell cd_d_l_cell ct_d_l_cell), sl_d_l_cell⟩)
    (l_d_l_box : K.lookup f_d_l_box = some ⟨oc_d_l_box, od_d_l_box, .func (PySem.W.fnOf "_law_box" "_law_box" (defArgs s_l_box) (defBody s_l_box) (defScope s_l_box) .none kV_d_l_box dc_d_l_box pm_d_l_box an_d_l_box cd_d_l_box ct_d_l_box), sl_d_l_box⟩)
    (l_d_l_take : K.lookup f_d_l_take = some ⟨oc_d_l_take, od_d_l_take, .func (PySem.W.fnOf "_law_take" "_law_take" (defArgs s_l_take) (defBody s_l_take) (defScope s_l_take) .none kV_d_l_take dc_d_l_take pm_d_l_take an_d_l_take cd_d_l_take ct_d_l_take), sl_d_l_take⟩)
    (l_d_l_any : K.lookup f_d_l_any = some ⟨oc_d_l_any, od_d_l_any, .func (PySem.W.fnOf "_law_any" "_law_any" (defArgs s_l_any) (defBody s_l_any) (defScope s_l_any) .none kV_d_l_any dc_d_l_any pm_d_l_any an_d_l_any cd_d_l_any ct_d_l_any), sl_d_l_any⟩)
    (l_d_l_letters : K.lookup f_d_l_letters = some ⟨oc_d_l_letters, od_d_l_letters, .func (PySem.W.fnOf "_law_letters" "_law_letters" (defArgs s_l_letters) (defBody s_l_letters) (defScope s_l_letters) .none kV_d_l_letters dc_d_l_letters pm_d_l_letters an_d_l_letters cd_d_l_letters ct_d_l_letters), sl_d_l_letters⟩)
    (l_d_l_number : K.lookup f_d_l_number = some ⟨oc_d_l_number, od_d_l_number, .func (PySem.W.fnOf "_law_number" "_law_number" (defArgs s_l_number) (defBody s_l_number) (defScope s_l_number) .none kV_d_l_number dc_d_l_number pm_d_l_number an_d_l_number cd_d_l_number ct_d_l_number), sl_d_l_number⟩)
    (l_d_l_line : K.lookup f_d_l_line = some ⟨oc_d_l_line, od_d_l_line, .func (PySem.W.fnOf "_law_line" "_law_line" (defArgs s_l_line) (defBody s_l_line) (defScope s_l_line) .none kV_d_l_line dc_d_l_line pm_d_l_line an_d_l_line cd_d_l_line ct_d_l_line), sl_d_l_line⟩)
    (l_d_l_count : K.lookup f_d_l_count = some ⟨oc_d_l_count, od_d_l_count, .func (PySem.W.fnOf "_law_count" "_law_count" (defArgs s_l_count) (defBody s_l_count) (defScope s_l_count) .none kV_d_l_count dc_d_l_count pm_d_l_count an_d_l_count cd_d_l_count ct_d_l_count), sl_d_l_count⟩)
    (l_d_l_is_cell : K.lookup f_d_l_is_cell = some ⟨oc_d_l_is_cell, od_d_l_is_cell, .func (PySem.W.fnOf "_law_is_cell" "_law_is_cell" (defArgs s_l_is_cell) (defBody s_l_is_cell) (defScope s_l_is_cell) .none kV_d_l_is_cell dc_d_l_is_cell pm_d_l_is_cell an_d_l_is_cell cd_d_l_is_cell ct_d_l_is_cell), sl_d_l_is_cell⟩)
    (l_d_l_is_text : K.lookup f_d_l_is_text = some ⟨oc_d_l_is_text, od_d_l_is_text, .func (PySem.W.fnOf "_law_is_text" "_law_is_text" (defArgs s_l_is_text) (defBody s_l_is_text) (defScope s_l_is_text) .none kV_d_l_is_text dc_d_l_is_text pm_d_l_is_text an_d_l_is_text cd_d_l_is_text ct_d_l_is_text), sl_d_l_is_text⟩)
    (l_d_l_is_line : K.lookup f_d_l_is_line = some ⟨oc_d_l_is_line, od_d_l_is_line, .func (PySem.W.fnOf "_law_is_line" "_law_is_line" (defArgs s_l_is_line) (defBody s_l_is_line) (defScope s_l_is_line) .none kV_d_l_is_line dc_d_l_is_line pm_d_l_is_line an_d_l_is_line cd_d_l_is_line ct_d_l_is_line), sl_d_l_is_line⟩)
    (l_d_l_written : K.lookup f_d_l_written = some ⟨oc_d_l_written, od_d_l_written, .func (PySem.W.fnOf "_law_written" "_law_written" (defArgs s_l_written) (defBody s_l_written) (defScope s_l_written) .none kV_d_l_written dc_d_l_written pm_d_l_written an_d_l_written cd_d_l_written ct_d_l_written), sl_d_l_written⟩)
    (l_d_l_digits : K.lookup f_d_l_digits = some ⟨oc_d_l_digits, od_d_l_digits, .func (PySem.W.fnOf "_law_digits" "_law_digits" (defArgs s_l_digits) (defBody s_l_digits) (defScope s_l_digits) .none kV_d_l_digits dc_d_l_digits pm_d_l_digits an_d_l_digits cd_d_l_digits ct_d_l_digits), sl_d_l_digits⟩)
    (l_d_l_read : K.lookup f_d_l_read = some ⟨oc_d_l_read, od_d_l_read, .func (PySem.W.fnOf "_law_read" "_law_read" (defArgs s_l_read) (defBody s_l_read) (defScope s_l_read) .none kV_d_l_read dc_d_l_read pm_d_l_read an_d_l_read cd_d_l_read ct_d_l_read), sl_d_l_read⟩)
    (l_d_l_equal : K.lookup f_d_l_equal = some ⟨oc_d_l_equal, od_d_l_equal, .func (PySem.W.fnOf "_law_equal" "_law_equal" (defArgs s_l_equal) (defBody s_l_equal) (defScope s_l_equal) .none kV_d_l_equal dc_d_l_equal pm_d_l_equal an_d_l_equal cd_d_l_equal ct_d_l_equal), sl_d_l_equal⟩)
    (l_d_l_copy : K.lookup f_d_l_copy = some ⟨oc_d_l_copy, od_d_l_copy, .func (PySem.W.fnOf "_law_copy" "_law_copy" (defArgs s_l_copy) (defBody s_l_copy) (defScope s_l_copy) .none kV_d_l_copy dc_d_l_copy pm_d_l_copy an_d_l_copy cd_d_l_copy ct_d_l_copy), sl_d_l_copy⟩)
    (l_d_l_very : K.lookup f_d_l_very = some ⟨oc_d_l_very, od_d_l_very, .func (PySem.W.fnOf "_law_very" "_law_very" (defArgs s_l_very) (defBody s_l_very) (defScope s_l_very) .none kV_d_l_very dc_d_l_very pm_d_l_very an_d_l_very cd_d_l_very ct_d_l_very), sl_d_l_very⟩)
    (l_d_l_odd_cell : K.lookup f_d_l_odd_cell = some ⟨oc_d_l_odd_cell, od_d_l_odd_cell, .func (PySem.W.fnOf "_law_odd_cell" "_law_odd_cell" (defArgs s_l_odd_cell) (defBody s_l_odd_cell) (defScope s_l_odd_cell) .none kV_d_l_odd_cell dc_d_l_odd_cell pm_d_l_odd_cell an_d_l_odd_cell cd_d_l_odd_cell ct_d_l_odd_cell), sl_d_l_odd_cell⟩)
    (l_d_l_odd_text : K.lookup f_d_l_odd_text = some ⟨oc_d_l_odd_text, od_d_l_odd_text, .func (PySem.W.fnOf "_law_odd_text" "_law_odd_text" (defArgs s_l_odd_text) (defBody s_l_odd_text) (defScope s_l_odd_text) .none kV_d_l_odd_text dc_d_l_odd_text pm_d_l_odd_text an_d_l_odd_text cd_d_l_odd_text ct_d_l_odd_text), sl_d_l_odd_text⟩)
    (l_d_l_odd : K.lookup f_d_l_odd = some ⟨oc_d_l_odd, od_d_l_odd, .func (PySem.W.fnOf "_law_odd" "_law_odd" (defArgs s_l_odd) (defBody s_l_odd) (defScope s_l_odd) .none kV_d_l_odd dc_d_l_odd pm_d_l_odd an_d_l_odd cd_d_l_odd ct_d_l_odd), sl_d_l_odd⟩)
    (l_d_l_spoilt : K.lookup f_d_l_spoilt = some ⟨oc_d_l_spoilt, od_d_l_spoilt, .func (PySem.W.fnOf "_law_spoilt" "_law_spoilt" (defArgs s_l_spoilt) (defBody s_l_spoilt) (defScope s_l_spoilt) .none kV_d_l_spoilt dc_d_l_spoilt pm_d_l_spoilt an_d_l_spoilt cd_d_l_spoilt ct_d_l_spoilt), sl_d_l_spoilt⟩)
    (l_d_l_short : K.lookup f_d_l_short = some ⟨oc_d_l_short, od_d_l_short, .func (PySem.W.fnOf "_law_short" "_law_short" (defArgs s_l_short) (defBody s_l_short) (defScope s_l_short) .none kV_d_l_short dc_d_l_short pm_d_l_short an_d_l_short cd_d_l_short ct_d_l_short), sl_d_l_short⟩)
    (l_d_l_judged : K.lookup f_d_l_judged = some ⟨oc_d_l_judged, od_d_l_judged, .func (PySem.W.fnOf "_law_judged" "_law_judged" (defArgs s_l_judged) (defBody s_l_judged) (defScope s_l_judged) .none kV_d_l_judged dc_d_l_judged pm_d_l_judged an_d_l_judged cd_d_l_judged ct_d_l_judged), sl_d_l_judged⟩)
    (l_d_l_told : K.lookup f_d_l_told = some ⟨oc_d_l_told, od_d_l_told, .func (PySem.W.fnOf "_law_told" "_law_told" (defArgs s_l_told) (defBody s_l_told) (defScope s_l_told) .none kV_d_l_told dc_d_l_told pm_d_l_told an_d_l_told cd_d_l_told ct_d_l_told), sl_d_l_told⟩)
    (l_d_l_line_right : K.lookup f_d_l_line_right = some ⟨oc_d_l_line_right, od_d_l_line_right, .func (PySem.W.fnOf "_law_line_right" "_law_line_right" (defArgs s_l_line_right) (defBody s_l_line_right) (defScope s_l_line_right) .none kV_d_l_line_right dc_d_l_line_right pm_d_l_line_right an_d_l_line_right cd_d_l_line_right ct_d_l_line_right), sl_d_l_line_right⟩)
    (l_d_l_text_right : K.lookup f_d_l_text_right = some ⟨oc_d_l_text_right, od_d_l_text_right, .func (PySem.W.fnOf "_law_text_right" "_law_text_right" (defArgs s_l_text_right) (defBody s_l_text_right) (defScope s_l_text_right) .none kV_d_l_text_right dc_d_l_text_right pm_d_l_text_right an_d_l_text_right cd_d_l_text_right ct_d_l_text_right), sl_d_l_text_right⟩)
    (l_d_l_object_right : K.lookup f_d_l_object_right = some ⟨oc_d_l_object_right, od_d_l_object_right, .func (PySem.W.fnOf "_law_object_right" "_law_object_right" (defArgs s_l_object_right) (defBody s_l_object_right) (defScope s_l_object_right) .none kV_d_l_object_right dc_d_l_object_right pm_d_l_object_right an_d_l_object_right cd_d_l_object_right ct_d_l_object_right), sl_d_l_object_right⟩)
    (l_d_l_others_right : K.lookup f_d_l_others_right = some ⟨oc_d_l_others_right, od_d_l_others_right, .func (PySem.W.fnOf "_law_others_right" "_law_others_right" (defArgs s_l_others_right) (defBody s_l_others_right) (defScope s_l_others_right) .none kV_d_l_others_right dc_d_l_others_right pm_d_l_others_right an_d_l_others_right cd_d_l_others_right ct_d_l_others_right), sl_d_l_others_right⟩)
    (l_d_l_right : K.lookup f_d_l_right = some ⟨oc_d_l_right, od_d_l_right, .func (PySem.W.fnOf "_law_right" "_law_right" (defArgs s_l_right) (defBody s_l_right) (defScope s_l_right) .none kV_d_l_right dc_d_l_right pm_d_l_right an_d_l_right cd_d_l_right ct_d_l_right), sl_d_l_right⟩)
    (l_d_law : K.lookup f_d_law = some ⟨oc_d_law, od_d_law, .func (PySem.W.fnOf "law" "law" (defArgs s_law) (defBody s_law) (defScope s_law) .none kV_d_law dc_d_law pm_d_law an_d_law cd_d_law ct_d_law), sl_d_law⟩)
    (xl_e_InvalidLine : K.lookup C_InvalidLine = some (excClassObj nm_e_InvalidLine q_e_InvalidLine C_InvalidLine N_e_InvalidLine bs_e_InvalidLine bm_e_InvalidLine true sn_e_InvalidLine sub_e_InvalidLine ab_e_InvalidLine col_e_InvalidLine dd_e_InvalidLine k0_e_InvalidLine k1_e_InvalidLine k2_e_InvalidLine k3_e_InvalidLine k5_e_InvalidLine "ValueError.__new__"))
    (xl_e_InvalidText : K.lookup C_InvalidText = some (excClassObj nm_e_InvalidText q_e_InvalidText C_InvalidText N_e_InvalidText bs_e_InvalidText bm_e_InvalidText true sn_e_InvalidText sub_e_InvalidText ab_e_InvalidText col_e_InvalidText dd_e_InvalidText k0_e_InvalidText k1_e_InvalidText k2_e_InvalidText k3_e_InvalidText k5_e_InvalidText "ValueError.__new__"))
    (c_x_InvalidLine : PySem.W.codeIn K cd_x_InvalidLine "InvalidLine.__init__" = true)
    (kp_x_InvalidLine : PySem.W.keepIn K (.ref f_x_InvalidLine) = true)
    (c_x_InvalidText : PySem.W.codeIn K cd_x_InvalidText "InvalidText.__init__" = true)
    (kp_x_InvalidText : PySem.W.keepIn K (.ref f_x_InvalidText) = true)
    (rv_e_InvalidLine : PySem.HandSPX.refsVE bm_e_InvalidLine = true)
    (sa_e_InvalidLine : PySem.W.findIn K (.ref C_InvalidLine) "__setattr__" = some (some (.builtin "object.__setattr__")))
    (eb_C_InvalidLine : PySem.W.subIn K (.ref C_InvalidLine) (.type "BaseException") = some true)
    (ty_C_InvalidLine : PySem.W.typeIn K (.ref C_InvalidLine) = some (.type "type"))
    (kc_C_InvalidLine : PySem.W.keepIn K (.ref C_InvalidLine) = true)
    (ti_e_InvalidLine : PySem.W.typeIn K (.ref f_x_InvalidLine) = some (.type "function"))
    (nf_e_InvalidLine : PySem.W.findIn K (.ref C_InvalidLine) "given" = some none)
    (ga_e_InvalidLine : PySem.W.findIn K (.ref C_InvalidLine) "__getattribute__" = some (some (.builtin "BaseException.__getattribute__")))
    (gt_e_InvalidLine : PySem.W.findIn K (.ref C_InvalidLine) "__getattr__" = some none)
    (hd_C_InvalidLine : PySem.W.hasDictIn K C_InvalidLine = true)
    (ncl_e_InvalidLine : PySem.W.findIn K (.ref C_InvalidLine) "__class__" = some (some (.builtin "object.__class__")))
    (nsp : PySem.W.specialIn K (.builtin "object.__class__") "__get__" = some (some (.builtin "getset_descriptor.__get__")))
    (ntk : PySem.W.takesIn K (.builtin "object.__class__") = some true)
    (nmo_e_InvalidLine : PySem.W.mroIn K C_InvalidLine (.type "object") = some true)
    (rv_e_InvalidText : PySem.HandSPX.refsVE bm_e_InvalidText = true)
    (sa_e_InvalidText : PySem.W.findIn K (.ref C_InvalidText) "__setattr__" = some (some (.builtin "object.__setattr__")))
    (eb_C_InvalidText : PySem.W.subIn K (.ref C_InvalidText) (.type "BaseException") = some true)
    (ty_C_InvalidText : PySem.W.typeIn K (.ref C_InvalidText) = some (.type "type"))
    (kc_C_InvalidText : PySem.W.keepIn K (.ref C_InvalidText) = true)
    (ti_e_InvalidText : PySem.W.typeIn K (.ref f_x_InvalidText) = some (.type "function"))
    (nf_e_InvalidText : PySem.W.findIn K (.ref C_InvalidText) "given" = some none)
    (ga_e_InvalidText : PySem.W.findIn K (.ref C_InvalidText) "__getattribute__" = some (some (.builtin "BaseException.__getattribute__")))
    (gt_e_InvalidText : PySem.W.findIn K (.ref C_InvalidText) "__getattr__" = some none)
    (hd_C_InvalidText : PySem.W.hasDictIn K C_InvalidText = true)
    (ncl_e_InvalidText : PySem.W.findIn K (.ref C_InvalidText) "__class__" = some (some (.builtin "object.__class__")))
    (nmo_e_InvalidText : PySem.W.mroIn K C_InvalidText (.type "object") = some true)
    (su_C_InvalidLine_C_InvalidLine : PySem.W.subIn K (.ref C_InvalidLine) (.ref C_InvalidLine) = some true)
    (su_C_InvalidText_C_InvalidText : PySem.W.subIn K (.ref C_InvalidText) (.ref C_InvalidText) = some true)
    (su_C_InvalidText_C_InvalidLine : PySem.W.subIn K (.ref C_InvalidText) (.ref C_InvalidLine) = some false)
    (avs_C_InvalidText : PySem.W.subIn K (.ref C_InvalidText) (.type "str") = some false)
    (avt_C_InvalidText : PySem.W.subIn K (.ref C_InvalidText) (.type "tuple") = some false)
    (ave_C_InvalidText : PySem.W.findIn K (.ref C_InvalidText) "__eq__" = some (some (.builtin "object.__eq__")))
    (z_n_abs : PySem.W.nsIn K mainGlobals "abs" = some none)
    (z_n_bool : PySem.W.nsIn K mainGlobals "bool" = some none)
    (z_n_dict : PySem.W.nsIn K mainGlobals "dict" = some none)
    (z_n_int : PySem.W.nsIn K mainGlobals "int" = some none)
    (z_n_isinstance : PySem.W.nsIn K mainGlobals "isinstance" = some none)
    (z_n_len : PySem.W.nsIn K mainGlobals "len" = some none)
    (z_n_list : PySem.W.nsIn K mainGlobals "list" = some none)
    (z_n_max : PySem.W.nsIn K mainGlobals "max" = some none)
    (z_n_min : PySem.W.nsIn K mainGlobals "min" = some none)
    (z_n_range : PySem.W.nsIn K mainGlobals "range" = some none)
    (z_n_repr : PySem.W.nsIn K mainGlobals "repr" = some none)
    (z_n_str : PySem.W.nsIn K mainGlobals "str" = some none)
    (z_n_sum : PySem.W.nsIn K mainGlobals "sum" = some none)
    (z_n_tuple : PySem.W.nsIn K mainGlobals "tuple" = some none)
    (c_d_is_int : PySem.W.codeIn K cd_d_is_int "is_int" = true)
    (kp_d_is_int : PySem.W.keepIn K (.ref f_d_is_int) = true)
    (c_d_is_count : PySem.W.codeIn K cd_d_is_count "is_count" = true)
    (kp_d_is_count : PySem.W.keepIn K (.ref f_d_is_count) = true)
    (c_d_is_signs : PySem.W.codeIn K cd_d_is_signs "is_signs" = true)
    (kp_d_is_signs : PySem.W.keepIn K (.ref f_d_is_signs) = true)
    (c_d_is_numeral : PySem.W.codeIn K cd_d_is_numeral "is_numeral" = true)
    (kp_d_is_numeral : PySem.W.keepIn K (.ref f_d_is_numeral) = true)
    (c_d_is_cell : PySem.W.codeIn K cd_d_is_cell "is_cell" = true)
    (kp_d_is_cell : PySem.W.keepIn K (.ref f_d_is_cell) = true)
    (c_d_is_text : PySem.W.codeIn K cd_d_is_text "is_text" = true)
    (kp_d_is_text : PySem.W.keepIn K (.ref f_d_is_text) = true)
    (c_d_is_line : PySem.W.codeIn K cd_d_is_line "is_line" = true)
    (kp_d_is_line : PySem.W.keepIn K (.ref f_d_is_line) = true)
    (c_d_key : PySem.W.codeIn K cd_d_key "key" = true)
    (kp_d_key : PySem.W.keepIn K (.ref f_d_key) = true)
    (c_d_line_text : PySem.W.codeIn K cd_d_line_text "line_text" = true)
    (kp_d_line_text : PySem.W.keepIn K (.ref f_d_line_text) = true)
    (c_d_line_in : PySem.W.codeIn K cd_d_line_in "line_in" = true)
    (kp_d_line_in : PySem.W.keepIn K (.ref f_d_line_in) = true)
    (c_d_read_line : PySem.W.codeIn K cd_d_read_line "read_line" = true)
    (kp_d_read_line : PySem.W.keepIn K (.ref f_d_read_line) = true)
    (c_d_l_cell : PySem.W.codeIn K cd_d_l_cell "_law_cell" = true)
    (kp_d_l_cell : PySem.W.keepIn K (.ref f_d_l_cell) = true)
    (c_d_l_box : PySem.W.codeIn K cd_d_l_box "_law_box" = true)
    (kp_d_l_box : PySem.W.keepIn K (.ref f_d_l_box) = true)
    (c_d_l_take : PySem.W.codeIn K cd_d_l_take "_law_take" = true)
    (kp_d_l_take : PySem.W.keepIn K (.ref f_d_l_take) = true)
    (c_d_l_any : PySem.W.codeIn K cd_d_l_any "_law_any" = true)
    (kp_d_l_any : PySem.W.keepIn K (.ref f_d_l_any) = true)
    (c_d_l_letters : PySem.W.codeIn K cd_d_l_letters "_law_letters" = true)
    (kp_d_l_letters : PySem.W.keepIn K (.ref f_d_l_letters) = true)
    (c_d_l_number : PySem.W.codeIn K cd_d_l_number "_law_number" = true)
    (kp_d_l_number : PySem.W.keepIn K (.ref f_d_l_number) = true)
    (c_d_l_line : PySem.W.codeIn K cd_d_l_line "_law_line" = true)
    (kp_d_l_line : PySem.W.keepIn K (.ref f_d_l_line) = true)
    (c_d_l_count : PySem.W.codeIn K cd_d_l_count "_law_count" = true)
    (kp_d_l_count : PySem.W.keepIn K (.ref f_d_l_count) = true)
    (c_d_l_is_cell : PySem.W.codeIn K cd_d_l_is_cell "_law_is_cell" = true)
    (kp_d_l_is_cell : PySem.W.keepIn K (.ref f_d_l_is_cell) = true)
    (c_d_l_is_text : PySem.W.codeIn K cd_d_l_is_text "_law_is_text" = true)
    (kp_d_l_is_text : PySem.W.keepIn K (.ref f_d_l_is_text) = true)
    (c_d_l_is_line : PySem.W.codeIn K cd_d_l_is_line "_law_is_line" = true)
    (kp_d_l_is_line : PySem.W.keepIn K (.ref f_d_l_is_line) = true)
    (c_d_l_written : PySem.W.codeIn K cd_d_l_written "_law_written" = true)
    (kp_d_l_written : PySem.W.keepIn K (.ref f_d_l_written) = true)
    (c_d_l_digits : PySem.W.codeIn K cd_d_l_digits "_law_digits" = true)
    (kp_d_l_digits : PySem.W.keepIn K (.ref f_d_l_digits) = true)
    (c_d_l_read : PySem.W.codeIn K cd_d_l_read "_law_read" = true)
    (kp_d_l_read : PySem.W.keepIn K (.ref f_d_l_read) = true)
    (c_d_l_equal : PySem.W.codeIn K cd_d_l_equal "_law_equal" = true)
    (kp_d_l_equal : PySem.W.keepIn K (.ref f_d_l_equal) = true)
    (c_d_l_copy : PySem.W.codeIn K cd_d_l_copy "_law_copy" = true)
    (kp_d_l_copy : PySem.W.keepIn K (.ref f_d_l_copy) = true)
    (c_d_l_very : PySem.W.codeIn K cd_d_l_very "_law_very" = true)
    (kp_d_l_very : PySem.W.keepIn K (.ref f_d_l_very) = true)
    (c_d_l_odd_cell : PySem.W.codeIn K cd_d_l_odd_cell "_law_odd_cell" = true)
    (kp_d_l_odd_cell : PySem.W.keepIn K (.ref f_d_l_odd_cell) = true)
    (c_d_l_odd_text : PySem.W.codeIn K cd_d_l_odd_text "_law_odd_text" = true)
    (kp_d_l_odd_text : PySem.W.keepIn K (.ref f_d_l_odd_text) = true)
    (c_d_l_odd : PySem.W.codeIn K cd_d_l_odd "_law_odd" = true)
    (kp_d_l_odd : PySem.W.keepIn K (.ref f_d_l_odd) = true)
    (c_d_l_spoilt : PySem.W.codeIn K cd_d_l_spoilt "_law_spoilt" = true)
    (kp_d_l_spoilt : PySem.W.keepIn K (.ref f_d_l_spoilt) = true)
    (c_d_l_short : PySem.W.codeIn K cd_d_l_short "_law_short" = true)
    (kp_d_l_short : PySem.W.keepIn K (.ref f_d_l_short) = true)
    (c_d_l_judged : PySem.W.codeIn K cd_d_l_judged "_law_judged" = true)
    (kp_d_l_judged : PySem.W.keepIn K (.ref f_d_l_judged) = true)
    (c_d_l_told : PySem.W.codeIn K cd_d_l_told "_law_told" = true)
    (kp_d_l_told : PySem.W.keepIn K (.ref f_d_l_told) = true)
    (c_d_l_line_right : PySem.W.codeIn K cd_d_l_line_right "_law_line_right" = true)
    (kp_d_l_line_right : PySem.W.keepIn K (.ref f_d_l_line_right) = true)
    (c_d_l_text_right : PySem.W.codeIn K cd_d_l_text_right "_law_text_right" = true)
    (kp_d_l_text_right : PySem.W.keepIn K (.ref f_d_l_text_right) = true)
    (c_d_l_object_right : PySem.W.codeIn K cd_d_l_object_right "_law_object_right" = true)
    (kp_d_l_object_right : PySem.W.keepIn K (.ref f_d_l_object_right) = true)
    (c_d_l_others_right : PySem.W.codeIn K cd_d_l_others_right "_law_others_right" = true)
    (kp_d_l_others_right : PySem.W.keepIn K (.ref f_d_l_others_right) = true)
    (c_d_l_right : PySem.W.codeIn K cd_d_l_right "_law_right" = true)
    (kp_d_l_right : PySem.W.keepIn K (.ref f_d_l_right) = true)
    (c_d_law : PySem.W.codeIn K cd_d_law "law" = true)
    (kp_d_law : PySem.W.keepIn K (.ref f_d_law) = true) :
    ∃ fd : FuncData, (∀ (s : Shared) (v : Value), BindsTo s fd ⟨[v], []⟩ [("_law_script", v)]) ∧ ∀ base : Heap, K.In base → base.Ns mainGlobals mg → FnG P w K mg base 9 fa fd ["_law_script"] (spLaw K) := by
  have e := hfa.symm.trans (mg_of X G a_d_law)
  cases e
  have F_x_InvalidLine := fun_mk (st := s_InvalidLine_init) l_x_InvalidLine c_x_InvalidLine kp_x_InvalidLine
  have b_x_InvalidLine := F_x_InvalidLine.binds (ps := ["self", "given"]) fun _ _ _ _ _ _ us hl => match us, hl with | [_, _], _ => rfl
  have F_x_InvalidText := fun_mk (st := s_InvalidText_init) l_x_InvalidText c_x_InvalidText kp_x_InvalidText
  have b_x_InvalidText := F_x_InvalidText.binds (ps := ["self", "given"]) fun _ _ _ _ _ _ us hl => match us, hl with | [_, _], _ => rfl
  have F_d_is_int := fun_mk (st := s_is_int) l_d_is_int c_d_is_int kp_d_is_int
  have F_d_is_count := fun_mk (st := s_is_count) l_d_is_count c_d_is_count kp_d_is_count
  have F_d_is_signs := fun_mk (st := s_is_signs) l_d_is_signs c_d_is_signs kp_d_is_signs
  have F_d_is_numeral := fun_mk (st := s_is_numeral) l_d_is_numeral c_d_is_numeral kp_d_is_numeral
  have F_d_is_cell := fun_mk (st := s_is_cell) l_d_is_cell c_d_is_cell kp_d_is_cell
  have F_d_is_text := fun_mk (st := s_is_text) l_d_is_text c_d_is_text kp_d_is_text
  have F_d_is_line := fun_mk (st := s_is_line) l_d_is_line c_d_is_line kp_d_is_line
  have F_d_key := fun_mk (st := s_key) l_d_key c_d_key kp_d_key
  have F_d_line_text := fun_mk (st := s_line_text) l_d_line_text c_d_line_text kp_d_line_text
  have F_d_line_in := fun_mk (st := s_line_in) l_d_line_in c_d_line_in kp_d_line_in
  have F_d_read_line := fun_mk (st := s_read_line) l_d_read_line c_d_read_line kp_d_read_line
  have F_d_l_cell := fun_mk (st := s_l_cell) l_d_l_cell c_d_l_cell kp_d_l_cell
  have F_d_l_box := fun_mk (st := s_l_box) l_d_l_box c_d_l_box kp_d_l_box
  have F_d_l_take := fun_mk (st := s_l_take) l_d_l_take c_d_l_take kp_d_l_take
  have F_d_l_any := fun_mk (st := s_l_any) l_d_l_any c_d_l_any kp_d_l_any
  have F_d_l_letters := fun_mk (st := s_l_letters) l_d_l_letters c_d_l_letters kp_d_l_letters
  have F_d_l_number := fun_mk (st := s_l_number) l_d_l_number c_d_l_number kp_d_l_number
  have F_d_l_line := fun_mk (st := s_l_line) l_d_l_line c_d_l_line kp_d_l_line
  have F_d_l_count := fun_mk (st := s_l_count) l_d_l_count c_d_l_count kp_d_l_count
  have F_d_l_is_cell := fun_mk (st := s_l_is_cell) l_d_l_is_cell c_d_l_is_cell kp_d_l_is_cell
  have F_d_l_is_text := fun_mk (st := s_l_is_text) l_d_l_is_text c_d_l_is_text kp_d_l_is_text
  have F_d_l_is_line := fun_mk (st := s_l_is_line) l_d_l_is_line c_d_l_is_line kp_d_l_is_line
  have F_d_l_written := fun_mk (st := s_l_written) l_d_l_written c_d_l_written kp_d_l_written
  have F_d_l_digits := fun_mk (st := s_l_digits) l_d_l_digits c_d_l_digits kp_d_l_digits
  have F_d_l_read := fun_mk (st := s_l_read) l_d_l_read c_d_l_read kp_d_l_read
  have F_d_l_equal := fun_mk (st := s_l_equal) l_d_l_equal c_d_l_equal kp_d_l_equal
  have F_d_l_copy := fun_mk (st := s_l_copy) l_d_l_copy c_d_l_copy kp_d_l_copy
  have F_d_l_very := fun_mk (st := s_l_very) l_d_l_very c_d_l_very kp_d_l_very
  have F_d_l_odd_cell := fun_mk (st := s_l_odd_cell) l_d_l_odd_cell c_d_l_odd_cell kp_d_l_odd_cell
  have F_d_l_odd_text := fun_mk (st := s_l_odd_text) l_d_l_odd_text c_d_l_odd_text kp_d_l_odd_text
  have F_d_l_odd := fun_mk (st := s_l_odd) l_d_l_odd c_d_l_odd kp_d_l_odd
  have F_d_l_spoilt := fun_mk (st := s_l_spoilt) l_d_l_spoilt c_d_l_spoilt kp_d_l_spoilt
  have F_d_l_short := fun_mk (st := s_l_short) l_d_l_short c_d_l_short kp_d_l_short
  have F_d_l_judged := fun_mk (st := s_l_judged) l_d_l_judged c_d_l_judged kp_d_l_judged
  have F_d_l_told := fun_mk (st := s_l_told) l_d_l_told c_d_l_told kp_d_l_told
  have F_d_l_line_right := fun_mk (st := s_l_line_right) l_d_l_line_right c_d_l_line_right kp_d_l_line_right
  have F_d_l_text_right := fun_mk (st := s_l_text_right) l_d_l_text_right c_d_l_text_right kp_d_l_text_right
  have F_d_l_object_right := fun_mk (st := s_l_object_right) l_d_l_object_right c_d_l_object_right kp_d_l_object_right
  have F_d_l_others_right := fun_mk (st := s_l_others_right) l_d_l_others_right c_d_l_others_right kp_d_l_others_right
  have F_d_l_right := fun_mk (st := s_l_right) l_d_l_right c_d_l_right kp_d_l_right
  have F_d_law := fun_mk (st := s_law) l_d_law c_d_law kp_d_law
  let T : Tx K mg := {
    C_InvalidLine := C_InvalidLine,
    C_InvalidText := C_InvalidText,
    C_UnsaidError := C_UnsaidError,
    x_InvalidLine := ⟨f_x_InvalidLine, _, F_x_InvalidLine, b_x_InvalidLine⟩,
    x_InvalidText := ⟨f_x_InvalidText, _, F_x_InvalidText, b_x_InvalidText⟩,
    e_InvalidLine := ⟨mg_of X G g_e_InvalidLine, ⟨⟨_, _, _, _, _, _, _, _, _, _, _, _, _, _, _, xl_e_InvalidLine, rv_e_InvalidLine⟩, sa_e_InvalidLine, eb_C_InvalidLine, ty_C_InvalidLine, kc_C_InvalidLine⟩, a_x_InvalidLine, ti_e_InvalidLine, nf_e_InvalidLine, ⟨ga_e_InvalidLine, gt_e_InvalidLine, eb_C_InvalidLine, hd_C_InvalidLine, ncl_e_InvalidLine, nsp, ntk, nmo_e_InvalidLine⟩⟩,
    e_InvalidText := ⟨mg_of X G g_e_InvalidText, ⟨⟨_, _, _, _, _, _, _, _, _, _, _, _, _, _, _, xl_e_InvalidText, rv_e_InvalidText⟩, sa_e_InvalidText, eb_C_InvalidText, ty_C_InvalidText, kc_C_InvalidText⟩, a_x_InvalidText, ti_e_InvalidText, nf_e_InvalidText, ⟨ga_e_InvalidText, gt_e_InvalidText, eb_C_InvalidText, hd_C_InvalidText, ncl_e_InvalidText, nsp, ntk, nmo_e_InvalidText⟩⟩,
    m_InvalidLine := mg_of X G g_e_InvalidLine,
    m_InvalidText := mg_of X G g_e_InvalidText,
    m_UnsaidError := mg_of X G g_m_UnsaidError,
    x_InvalidLine_InvalidLine := PySem.W.exm_ref eb_C_InvalidLine hd_C_InvalidLine ty_C_InvalidLine su_C_InvalidLine_C_InvalidLine,
    x_InvalidText_InvalidText := PySem.W.exm_ref eb_C_InvalidText hd_C_InvalidText ty_C_InvalidText su_C_InvalidText_C_InvalidText,
    x_InvalidText_InvalidLine := PySem.W.exm_ref eb_C_InvalidLine hd_C_InvalidLine ty_C_InvalidLine su_C_InvalidText_C_InvalidLine,
    av_InvalidText := ⟨avs_C_InvalidText, avt_C_InvalidText, nmo_e_InvalidText, ave_C_InvalidText⟩,
    t_MOST_LETTERS := t_MOST_LETTERS,
    g_MOST_LETTERS := mg_of X G g_g_MOST_LETTERS,
    t_MOST_SIGNS := t_MOST_SIGNS,
    g_MOST_SIGNS := mg_of X G g_g_MOST_SIGNS,
    n_abs := mg_none_of X G z_n_abs,
    n_bool := mg_none_of X G z_n_bool,
    n_dict := mg_none_of X G z_n_dict,
    n_int := mg_none_of X G z_n_int,
    n_isinstance := mg_none_of X G z_n_isinstance,
    n_len := mg_none_of X G z_n_len,
    n_list := mg_none_of X G z_n_list,
    n_max := mg_none_of X G z_n_max,
    n_min := mg_none_of X G z_n_min,
    n_range := mg_none_of X G z_n_range,
    n_repr := mg_none_of X G z_n_repr,
    n_str := mg_none_of X G z_n_str,
    n_sum := mg_none_of X G z_n_sum,
    n_tuple := mg_none_of X G z_n_tuple,
    d_is_int := ⟨f_d_is_int, _, F_d_is_int, mg_of X G a_d_is_int, fun us hl => match us, hl with | [_], _ => rfl, fun us ws h1 h2 => match us, ws, h1, h2 with | [], [_], _, _ => rfl⟩,
    d_is_count := ⟨f_d_is_count, _, F_d_is_count, mg_of X G a_d_is_count, fun us hl => match us, hl with | [_], _ => rfl, fun us ws h1 h2 => match us, ws, h1, h2 with | [], [_], _, _ => rfl⟩,
    d_is_signs := ⟨f_d_is_signs, _, F_d_is_signs, mg_of X G a_d_is_signs, fun us hl => match us, hl with | [_], _ => rfl, fun us ws h1 h2 => match us, ws, h1, h2 with | [], [_], _, _ => rfl⟩,
    d_is_numeral := ⟨f_d_is_numeral, _, F_d_is_numeral, mg_of X G a_d_is_numeral, fun us hl => match us, hl with | [_], _ => rfl, fun us ws h1 h2 => match us, ws, h1, h2 with | [], [_], _, _ => rfl⟩,
    d_is_cell := ⟨f_d_is_cell, _, F_d_is_cell, mg_of X G a_d_is_cell, fun us hl => match us, hl with | [_], _ => rfl, fun us ws h1 h2 => match us, ws, h1, h2 with | [], [_], _, _ => rfl⟩,
    d_is_text := ⟨f_d_is_text, _, F_d_is_text, mg_of X G a_d_is_text, fun us hl => match us, hl with | [_], _ => rfl, fun us ws h1 h2 => match us, ws, h1, h2 with | [], [_], _, _ => rfl⟩,
    d_is_line := ⟨f_d_is_line, _, F_d_is_line, mg_of X G a_d_is_line, fun us hl => match us, hl with | [_], _ => rfl, fun us ws h1 h2 => match us, ws, h1, h2 with | [], [_], _, _ => rfl⟩,
    d_key := ⟨f_d_key, _, F_d_key, mg_of X G a_d_key, fun us hl => match us, hl with | [_], _ => rfl, fun us ws h1 h2 => match us, ws, h1, h2 with | [], [_], _, _ => rfl⟩,
    d_line_text := ⟨f_d_line_text, _, F_d_line_text, mg_of X G a_d_line_text, fun us hl => match us, hl with | [_], _ => rfl, fun us ws h1 h2 => match us, ws, h1, h2 with | [], [_], _, _ => rfl⟩,
    d_line_in := ⟨f_d_line_in, _, F_d_line_in, mg_of X G a_d_line_in, fun us hl => match us, hl with | [_], _ => rfl, fun us ws h1 h2 => match us, ws, h1, h2 with | [], [_], _, _ => rfl⟩,
    d_read_line := ⟨f_d_read_line, _, F_d_read_line, mg_of X G a_d_read_line, fun us hl => match us, hl with | [_], _ => rfl, fun us ws h1 h2 => match us, ws, h1, h2 with | [], [_], _, _ => rfl⟩,
    d_l_cell := ⟨f_d_l_cell, _, F_d_l_cell, mg_of X G a_d_l_cell, fun us hl => match us, hl with | [_, _], _ => rfl, fun us ws h1 h2 => match us, ws, h1, h2 with | [], [_, _], _, _ => rfl⟩,
    d_l_box := ⟨f_d_l_box, _, F_d_l_box, mg_of X G a_d_l_box, fun us hl => match us, hl with | [_], _ => rfl, fun us ws h1 h2 => match us, ws, h1, h2 with | [], [_], _, _ => rfl⟩,
    d_l_take := ⟨f_d_l_take, _, F_d_l_take, mg_of X G a_d_l_take, fun us hl => match us, hl with | [_, _], _ => rfl, fun us ws h1 h2 => match us, ws, h1, h2 with | [], [_, _], _, _ => rfl⟩,
    d_l_any := ⟨f_d_l_any, _, F_d_l_any, mg_of X G a_d_l_any, fun us hl => match us, hl with | [_, _], _ => rfl, fun us ws h1 h2 => match us, ws, h1, h2 with | [], [_, _], _, _ => rfl⟩,
    d_l_letters := ⟨f_d_l_letters, _, F_d_l_letters, mg_of X G a_d_l_letters, fun us hl => match us, hl with | [_, _], _ => rfl, fun us ws h1 h2 => match us, ws, h1, h2 with | [], [_, _], _, _ => rfl⟩,
    d_l_number := ⟨f_d_l_number, _, F_d_l_number, mg_of X G a_d_l_number, fun us hl => match us, hl with | [_], _ => rfl, fun us ws h1 h2 => match us, ws, h1, h2 with | [], [_], _, _ => rfl⟩,
    d_l_line := ⟨f_d_l_line, _, F_d_l_line, mg_of X G a_d_l_line, fun us hl => match us, hl with | [_], _ => rfl, fun us ws h1 h2 => match us, ws, h1, h2 with | [], [_], _, _ => rfl⟩,
    d_l_count := ⟨f_d_l_count, _, F_d_l_count, mg_of X G a_d_l_count, fun us hl => match us, hl with | [_], _ => rfl, fun us ws h1 h2 => match us, ws, h1, h2 with | [], [_], _, _ => rfl⟩,
    d_l_is_cell := ⟨f_d_l_is_cell, _, F_d_l_is_cell, mg_of X G a_d_l_is_cell, fun us hl => match us, hl with | [_], _ => rfl, fun us ws h1 h2 => match us, ws, h1, h2 with | [], [_], _, _ => rfl⟩,
    d_l_is_text := ⟨f_d_l_is_text, _, F_d_l_is_text, mg_of X G a_d_l_is_text, fun us hl => match us, hl with | [_], _ => rfl, fun us ws h1 h2 => match us, ws, h1, h2 with | [], [_], _, _ => rfl⟩,
    d_l_is_line := ⟨f_d_l_is_line, _, F_d_l_is_line, mg_of X G a_d_l_is_line, fun us hl => match us, hl with | [_], _ => rfl, fun us ws h1 h2 => match us, ws, h1, h2 with | [], [_], _, _ => rfl⟩,
    d_l_written := ⟨f_d_l_written, _, F_d_l_written, mg_of X G a_d_l_written, fun us hl => match us, hl with | [_], _ => rfl, fun us ws h1 h2 => match us, ws, h1, h2 with | [], [_], _, _ => rfl⟩,
    d_l_digits := ⟨f_d_l_digits, _, F_d_l_digits, mg_of X G a_d_l_digits, fun us hl => match us, hl with | [_], _ => rfl, fun us ws h1 h2 => match us, ws, h1, h2 with | [], [_], _, _ => rfl⟩,
    d_l_read := ⟨f_d_l_read, _, F_d_l_read, mg_of X G a_d_l_read, fun us hl => match us, hl with | [_], _ => rfl, fun us ws h1 h2 => match us, ws, h1, h2 with | [], [_], _, _ => rfl⟩,
    d_l_equal := ⟨f_d_l_equal, _, F_d_l_equal, mg_of X G a_d_l_equal, fun us hl => match us, hl with | [_, _], _ => rfl, fun us ws h1 h2 => match us, ws, h1, h2 with | [], [_, _], _, _ => rfl⟩,
    d_l_copy := ⟨f_d_l_copy, _, F_d_l_copy, mg_of X G a_d_l_copy, fun us hl => match us, hl with | [_], _ => rfl, fun us ws h1 h2 => match us, ws, h1, h2 with | [], [_], _, _ => rfl⟩,
    d_l_very := ⟨f_d_l_very, _, F_d_l_very, mg_of X G a_d_l_very, fun us hl => match us, hl with | [_, _], _ => rfl, fun us ws h1 h2 => match us, ws, h1, h2 with | [], [_, _], _, _ => rfl⟩,
    d_l_odd_cell := ⟨f_d_l_odd_cell, _, F_d_l_odd_cell, mg_of X G a_d_l_odd_cell, fun us hl => match us, hl with | [_, _], _ => rfl, fun us ws h1 h2 => match us, ws, h1, h2 with | [], [_, _], _, _ => rfl⟩,
    d_l_odd_text := ⟨f_d_l_odd_text, _, F_d_l_odd_text, mg_of X G a_d_l_odd_text, fun us hl => match us, hl with | [_, _], _ => rfl, fun us ws h1 h2 => match us, ws, h1, h2 with | [], [_, _], _, _ => rfl⟩,
    d_l_odd := ⟨f_d_l_odd, _, F_d_l_odd, mg_of X G a_d_l_odd, fun us hl => match us, hl with | [_, _], _ => rfl, fun us ws h1 h2 => match us, ws, h1, h2 with | [], [_, _], _, _ => rfl⟩,
    d_l_spoilt := ⟨f_d_l_spoilt, _, F_d_l_spoilt, mg_of X G a_d_l_spoilt, fun us hl => match us, hl with | [_, _], _ => rfl, fun us ws h1 h2 => match us, ws, h1, h2 with | [], [_, _], _, _ => rfl⟩,
    d_l_short := ⟨f_d_l_short, _, F_d_l_short, mg_of X G a_d_l_short, fun us hl => match us, hl with | [_], _ => rfl, fun us ws h1 h2 => match us, ws, h1, h2 with | [], [_], _, _ => rfl⟩,
    d_l_judged := ⟨f_d_l_judged, _, F_d_l_judged, mg_of X G a_d_l_judged, fun us hl => match us, hl with | [_, _], _ => rfl, fun us ws h1 h2 => match us, ws, h1, h2 with | [], [_, _], _, _ => rfl⟩,
    d_l_told := ⟨f_d_l_told, _, F_d_l_told, mg_of X G a_d_l_told, fun us hl => match us, hl with | [_, _, _], _ => rfl, fun us ws h1 h2 => match us, ws, h1, h2 with | [], [_, _, _], _, _ => rfl⟩,
    d_l_line_right := ⟨f_d_l_line_right, _, F_d_l_line_right, mg_of X G a_d_l_line_right, fun us hl => match us, hl with | [_, _], _ => rfl, fun us ws h1 h2 => match us, ws, h1, h2 with | [], [_, _], _, _ => rfl⟩,
    d_l_text_right := ⟨f_d_l_text_right, _, F_d_l_text_right, mg_of X G a_d_l_text_right, fun us hl => match us, hl with | [_, _, _], _ => rfl, fun us ws h1 h2 => match us, ws, h1, h2 with | [], [_, _, _], _, _ => rfl⟩,
    d_l_object_right := ⟨f_d_l_object_right, _, F_d_l_object_right, mg_of X G a_d_l_object_right, fun us hl => match us, hl with | [_], _ => rfl, fun us ws h1 h2 => match us, ws, h1, h2 with | [], [_], _, _ => rfl⟩,
    d_l_others_right := ⟨f_d_l_others_right, _, F_d_l_others_right, mg_of X G a_d_l_others_right, fun us hl => match us, hl with | [_], _ => rfl, fun us ws h1 h2 => match us, ws, h1, h2 with | [], [_], _, _ => rfl⟩,
    d_l_right := ⟨f_d_l_right, _, F_d_l_right, mg_of X G a_d_l_right, fun us hl => match us, hl with | [_], _ => rfl, fun us ws h1 h2 => match us, ws, h1, h2 with | [], [_], _, _ => rfl⟩,
    d_law := ⟨fa, _, F_d_law, mg_of X G a_d_law, fun us hl => match us, hl with | [_], _ => rfl, fun us ws h1 h2 => match us, ws, h1, h2 with | [], [_], _, _ => rfl⟩ }
  exact ⟨_, fun s v => .of_eq rfl, fun base _ _ => ok_law T⟩
end K01

open PySem PySem.W PyProof.Rows
set_option maxRecDepth 100000 in
set_option maxHeartbeats 0 in
theorem PySem.Challenge.cw_neverunsaid_k01_lines_and_texts_holds : PySem.Challenge.rw_neverunsaid_k01_lines_and_texts.Holds := by
  w_on; o_law; k_head; (case hw => w_witness2)
  k_fill
  refine Nv.walkG (l := PySem.Challenge.rw_neverunsaid_k01_lines_and_texts) (n := 63) (k := 9) (x := "_law_script") (sp := K01.spLaw) rfl (by decide) rfl ⟨rfl, by decide, by decide⟩ (fun w h Y => PySem.W.kIn_of Y) ?F ?S
  case F =>
    intro w mg fa h KX G hmg
    refine' K01.all_mk KX G hmg ?g_e_InvalidLine ?g_e_InvalidText ?g_m_UnsaidError ?g_g_MOST_LETTERS ?g_g_MOST_SIGNS ?a_x_InvalidLine ?a_x_InvalidText ?a_d_is_int ?a_d_is_count ?a_d_is_signs ?a_d_is_numeral ?a_d_is_cell ?a_d_is_text ?a_d_is_line ?a_d_key ?a_d_line_text ?a_d_line_in ?a_d_read_line ?a_d_l_cell ?a_d_l_box ?a_d_l_take ?a_d_l_any ?a_d_l_letters ?a_d_l_number ?a_d_l_line ?a_d_l_count ?a_d_l_is_cell ?a_d_l_is_text ?a_d_l_is_line ?a_d_l_written ?a_d_l_digits ?a_d_l_read ?a_d_l_equal ?a_d_l_copy ?a_d_l_very ?a_d_l_odd_cell ?a_d_l_odd_text ?a_d_l_odd ?a_d_l_spoilt ?a_d_l_short ?a_d_l_judged ?a_d_l_told ?a_d_l_line_right ?a_d_l_text_right ?a_d_l_object_right ?a_d_l_others_right ?a_d_l_right ?a_d_law ?l_x_InvalidLine ?l_x_InvalidText ?l_d_is_int ?l_d_is_count ?l_d_is_signs ?l_d_is_numeral ?l_d_is_cell ?l_d_is_text ?l_d_is_line ?l_d_key ?l_d_line_text ?l_d_line_in ?l_d_read_line ?l_d_l_cell ?l_d_l_box ?l_d_l_take ?l_d_l_any ?l_d_l_letters ?l_d_l_number ?l_d_l_line ?l_d_l_count ?l_d_l_is_cell ?l_d_l_is_text ?l_d_l_is_line ?l_d_l_written ?l_d_l_digits ?l_d_l_read ?l_d_l_equal ?l_d_l_copy ?l_d_l_very ?l_d_l_odd_cell ?l_d_l_odd_text ?l_d_l_odd ?l_d_l_spoilt ?l_d_l_short ?l_d_l_judged ?l_d_l_told ?l_d_l_line_right ?l_d_l_text_right ?l_d_l_object_right ?l_d_l_others_right ?l_d_l_right ?l_d_law ?xl_e_InvalidLine ?xl_e_InvalidText ?c_x_InvalidLine ?kp_x_InvalidLine ?c_x_InvalidText ?kp_x_InvalidText ?rv_e_InvalidLine ?sa_e_InvalidLine ?eb_C_InvalidLine ?ty_C_InvalidLine ?kc_C_InvalidLine ?ti_e_InvalidLine ?nf_e_InvalidLine ?ga_e_InvalidLine ?gt_e_InvalidLine ?hd_C_InvalidLine ?ncl_e_InvalidLine ?nsp ?ntk ?nmo_e_InvalidLine ?rv_e_InvalidText ?sa_e_InvalidText ?eb_C_InvalidText ?ty_C_InvalidText ?kc_C_InvalidText ?ti_e_InvalidText ?nf_e_InvalidText ?ga_e_InvalidText ?gt_e_InvalidText ?hd_C_InvalidText ?ncl_e_InvalidText ?nmo_e_InvalidText ?su_C_InvalidLine_C_InvalidLine ?su_C_InvalidText_C_InvalidText ?su_C_InvalidText_C_InvalidLine ?avs_C_InvalidText ?avt_C_InvalidText ?ave_C_InvalidText ?z_n_abs ?z_n_bool ?z_n_dict ?z_n_int ?z_n_isinstance ?z_n_len ?z_n_list ?z_n_max ?z_n_min ?z_n_range ?z_n_repr ?z_n_str ?z_n_sum ?z_n_tuple ?c_d_is_int ?kp_d_is_int ?c_d_is_count ?kp_d_is_count ?c_d_is_signs ?kp_d_is_signs ?c_d_is_numeral ?kp_d_is_numeral ?c_d_is_cell ?kp_d_is_cell ?c_d_is_text ?kp_d_is_text ?c_d_is_line ?kp_d_is_line ?c_d_key ?kp_d_key ?c_d_line_text ?kp_d_line_text ?c_d_line_in ?kp_d_line_in ?c_d_read_line ?kp_d_read_line ?c_d_l_cell ?kp_d_l_cell ?c_d_l_box ?kp_d_l_box ?c_d_l_take ?kp_d_l_take ?c_d_l_any ?kp_d_l_any ?c_d_l_letters ?kp_d_l_letters ?c_d_l_number ?kp_d_l_number ?c_d_l_line ?kp_d_l_line ?c_d_l_count ?kp_d_l_count ?c_d_l_is_cell ?kp_d_l_is_cell ?c_d_l_is_text ?kp_d_l_is_text ?c_d_l_is_line ?kp_d_l_is_line ?c_d_l_written ?kp_d_l_written ?c_d_l_digits ?kp_d_l_digits ?c_d_l_read ?kp_d_l_read ?c_d_l_equal ?kp_d_l_equal ?c_d_l_copy ?kp_d_l_copy ?c_d_l_very ?kp_d_l_very ?c_d_l_odd_cell ?kp_d_l_odd_cell ?c_d_l_odd_text ?kp_d_l_odd_text ?c_d_l_odd ?kp_d_l_odd ?c_d_l_spoilt ?kp_d_l_spoilt ?c_d_l_short ?kp_d_l_short ?c_d_l_judged ?kp_d_l_judged ?c_d_l_told ?kp_d_l_told ?c_d_l_line_right ?kp_d_l_line_right ?c_d_l_text_right ?kp_d_l_text_right ?c_d_l_object_right ?kp_d_l_object_right ?c_d_l_others_right ?kp_d_l_others_right ?c_d_l_right ?kp_d_l_right ?c_d_law ?kp_d_law
    (case g_e_InvalidLine => k_is)
    (case g_e_InvalidText => k_is)
    (case g_m_UnsaidError => k_is)
    (case g_g_MOST_LETTERS => k_is)
    (case g_g_MOST_SIGNS => k_is)
    (case a_x_InvalidLine => k_is)
    (case a_x_InvalidText => k_is)
    (case a_d_is_int => k_is)
    (case a_d_is_count => k_is)
    (case a_d_is_signs => k_is)
    (case a_d_is_numeral => k_is)
    (case a_d_is_cell => k_is)
    (case a_d_is_text => k_is)
    (case a_d_is_line => k_is)
    (case a_d_key => k_is)
    (case a_d_line_text => k_is)
    (case a_d_line_in => k_is)
    (case a_d_read_line => k_is)
    (case a_d_l_cell => k_is)
    (case a_d_l_box => k_is)
    (case a_d_l_take => k_is)
    (case a_d_l_any => k_is)
    (case a_d_l_letters => k_is)
    (case a_d_l_number => k_is)
    (case a_d_l_line => k_is)
    (case a_d_l_count => k_is)
    (case a_d_l_is_cell => k_is)
    (case a_d_l_is_text => k_is)
    (case a_d_l_is_line => k_is)
    (case a_d_l_written => k_is)
    (case a_d_l_digits => k_is)
    (case a_d_l_read => k_is)
    (case a_d_l_equal => k_is)
    (case a_d_l_copy => k_is)
    (case a_d_l_very => k_is)
    (case a_d_l_odd_cell => k_is)
    (case a_d_l_odd_text => k_is)
    (case a_d_l_odd => k_is)
    (case a_d_l_spoilt => k_is)
    (case a_d_l_short => k_is)
    (case a_d_l_judged => k_is)
    (case a_d_l_told => k_is)
    (case a_d_l_line_right => k_is)
    (case a_d_l_text_right => k_is)
    (case a_d_l_object_right => k_is)
    (case a_d_l_others_right => k_is)
    (case a_d_l_right => k_is)
    (case a_d_law => k_is)
    (case l_x_InvalidLine => k_is)
    (case l_x_InvalidText => k_is)
    (case l_d_is_int => k_is)
    (case l_d_is_count => k_is)
    (case l_d_is_signs => k_is)
    (case l_d_is_numeral => k_is)
    (case l_d_is_cell => k_is)
    (case l_d_is_text => k_is)
    (case l_d_is_line => k_is)
    (case l_d_key => k_is)
    (case l_d_line_text => k_is)
    (case l_d_line_in => k_is)
    (case l_d_read_line => k_is)
    (case l_d_l_cell => k_is)
    (case l_d_l_box => k_is)
    (case l_d_l_take => k_is)
    (case l_d_l_any => k_is)
    (case l_d_l_letters => k_is)
    (case l_d_l_number => k_is)
    (case l_d_l_line => k_is)
    (case l_d_l_count => k_is)
    (case l_d_l_is_cell => k_is)
    (case l_d_l_is_text => k_is)
    (case l_d_l_is_line => k_is)
    (case l_d_l_written => k_is)
    (case l_d_l_digits => k_is)
    (case l_d_l_read => k_is)
    (case l_d_l_equal => k_is)
    (case l_d_l_copy => k_is)
    (case l_d_l_very => k_is)
    (case l_d_l_odd_cell => k_is)
    (case l_d_l_odd_text => k_is)
    (case l_d_l_odd => k_is)
    (case l_d_l_spoilt => k_is)
    (case l_d_l_short => k_is)
    (case l_d_l_judged => k_is)
    (case l_d_l_told => k_is)
    (case l_d_l_line_right => k_is)
    (case l_d_l_text_right => k_is)
    (case l_d_l_object_right => k_is)
    (case l_d_l_others_right => k_is)
    (case l_d_l_right => k_is)
    (case l_d_law => k_is)
    (case xl_e_InvalidLine => k_is)
    (case xl_e_InvalidText => k_is)
    (case c_x_InvalidLine => k_is)
    (case kp_x_InvalidLine => k_is)
    (case c_x_InvalidText => k_is)
    (case kp_x_InvalidText => k_is)
    (case rv_e_InvalidLine => decide +kernel)
    (case sa_e_InvalidLine => k_is)
    (case eb_C_InvalidLine => k_is)
    (case ty_C_InvalidLine => k_is)
    (case kc_C_InvalidLine => k_is)
    (case ti_e_InvalidLine => k_is)
    (case nf_e_InvalidLine => k_is)
    (case ga_e_InvalidLine => k_is)
    (case gt_e_InvalidLine => k_is)
    (case hd_C_InvalidLine => k_is)
    (case ncl_e_InvalidLine => k_is)
    (case nsp => k_is)
    (case ntk => k_is)
    (case nmo_e_InvalidLine => k_is)
    (case rv_e_InvalidText => decide +kernel)
    (case sa_e_InvalidText => k_is)
    (case eb_C_InvalidText => k_is)
    (case ty_C_InvalidText => k_is)
    (case kc_C_InvalidText => k_is)
    (case ti_e_InvalidText => k_is)
    (case nf_e_InvalidText => k_is)
    (case ga_e_InvalidText => k_is)
    (case gt_e_InvalidText => k_is)
    (case hd_C_InvalidText => k_is)
    (case ncl_e_InvalidText => k_is)
    (case nmo_e_InvalidText => k_is)
    (case su_C_InvalidLine_C_InvalidLine => k_is)
    (case su_C_InvalidText_C_InvalidText => k_is)
    (case su_C_InvalidText_C_InvalidLine => k_is)
    (case avs_C_InvalidText => k_is)
    (case avt_C_InvalidText => k_is)
    (case ave_C_InvalidText => k_is)
    (case z_n_abs => k_is)
    (case z_n_bool => k_is)
    (case z_n_dict => k_is)
    (case z_n_int => k_is)
    (case z_n_isinstance => k_is)
    (case z_n_len => k_is)
    (case z_n_list => k_is)
    (case z_n_max => k_is)
    (case z_n_min => k_is)
    (case z_n_range => k_is)
    (case z_n_repr => k_is)
    (case z_n_str => k_is)
    (case z_n_sum => k_is)
    (case z_n_tuple => k_is)
    (case c_d_is_int => k_is)
    (case kp_d_is_int => k_is)
    (case c_d_is_count => k_is)
    (case kp_d_is_count => k_is)
    (case c_d_is_signs => k_is)
    (case kp_d_is_signs => k_is)
    (case c_d_is_numeral => k_is)
    (case kp_d_is_numeral => k_is)
    (case c_d_is_cell => k_is)
    (case kp_d_is_cell => k_is)
    (case c_d_is_text => k_is)
    (case kp_d_is_text => k_is)
    (case c_d_is_line => k_is)
    (case kp_d_is_line => k_is)
    (case c_d_key => k_is)
    (case kp_d_key => k_is)
    (case c_d_line_text => k_is)
    (case kp_d_line_text => k_is)
    (case c_d_line_in => k_is)
    (case kp_d_line_in => k_is)
    (case c_d_read_line => k_is)
    (case kp_d_read_line => k_is)
    (case c_d_l_cell => k_is)
    (case kp_d_l_cell => k_is)
    (case c_d_l_box => k_is)
    (case kp_d_l_box => k_is)
    (case c_d_l_take => k_is)
    (case kp_d_l_take => k_is)
    (case c_d_l_any => k_is)
    (case kp_d_l_any => k_is)
    (case c_d_l_letters => k_is)
    (case kp_d_l_letters => k_is)
    (case c_d_l_number => k_is)
    (case kp_d_l_number => k_is)
    (case c_d_l_line => k_is)
    (case kp_d_l_line => k_is)
    (case c_d_l_count => k_is)
    (case kp_d_l_count => k_is)
    (case c_d_l_is_cell => k_is)
    (case kp_d_l_is_cell => k_is)
    (case c_d_l_is_text => k_is)
    (case kp_d_l_is_text => k_is)
    (case c_d_l_is_line => k_is)
    (case kp_d_l_is_line => k_is)
    (case c_d_l_written => k_is)
    (case kp_d_l_written => k_is)
    (case c_d_l_digits => k_is)
    (case kp_d_l_digits => k_is)
    (case c_d_l_read => k_is)
    (case kp_d_l_read => k_is)
    (case c_d_l_equal => k_is)
    (case kp_d_l_equal => k_is)
    (case c_d_l_copy => k_is)
    (case kp_d_l_copy => k_is)
    (case c_d_l_very => k_is)
    (case kp_d_l_very => k_is)
    (case c_d_l_odd_cell => k_is)
    (case kp_d_l_odd_cell => k_is)
    (case c_d_l_odd_text => k_is)
    (case kp_d_l_odd_text => k_is)
    (case c_d_l_odd => k_is)
    (case kp_d_l_odd => k_is)
    (case c_d_l_spoilt => k_is)
    (case kp_d_l_spoilt => k_is)
    (case c_d_l_short => k_is)
    (case kp_d_l_short => k_is)
    (case c_d_l_judged => k_is)
    (case kp_d_l_judged => k_is)
    (case c_d_l_told => k_is)
    (case kp_d_l_told => k_is)
    (case c_d_l_line_right => k_is)
    (case kp_d_l_line_right => k_is)
    (case c_d_l_text_right => k_is)
    (case kp_d_l_text_right => k_is)
    (case c_d_l_object_right => k_is)
    (case kp_d_l_object_right => k_is)
    (case c_d_l_others_right => k_is)
    (case kp_d_l_others_right => k_is)
    (case c_d_l_right => k_is)
    (case kp_d_l_right => k_is)
    (case c_d_law => k_is)
    (case kp_d_law => k_is)
  case S => exact fun K H a ns hl hS => ⟨a, ns, rfl, hS, hl, fun _ => rfl⟩
